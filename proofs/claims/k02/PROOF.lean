import PyProof.Rows.All
import Wide.All
import OpenK.AllK
import Wide.FinOn
import Lean
import PyProof.EqAt
import PyProof.EqKinds
import PyProof.TupleCall
import PySem.Challenge.RW_tapeproof_k02_turns
-- CHANGE: your row's module here, as the last of these rows
local macro_rules | `(tactic| omega) => `(tactic| lia)
set_option Elab.async false
set_option linter.all false
set_option maxRecDepth 100000
namespace L2
open PySem PySem.Spec PyProof.Rows

noncomputable abbrev Key := Sum Int Str
noncomputable def keyIs : Key → Value → Bool
  | .inl k, v => Value.isInt k v
  | .inr x, v => Value.isStrOf x v
noncomputable def keyH (w : World) : Key → Int
  | .inl k => hashInt k
  | .inr x => hashStr w x
theorem keyIs_shape : ∀ {k : Key} {v : Value}, keyIs k v = true → (∃ i t, k = Sum.inl i ∧ v = Value.int i t) ∨ (∃ x t, k = Sum.inr x ∧ v = Value.str x t)
  | .inl i, v, h => by
    obtain ⟨t, e⟩ := Value.isInt_shape (k := i) (v := v) h
    exact .inl ⟨i, t, rfl, e⟩
  | .inr x, v, h => by
    obtain ⟨t, e⟩ := Value.isStrOf_shape (x := x) (v := v) h
    exact .inr ⟨x, t, rfl, e⟩
theorem key_ll (a b : Int) : decide ((Sum.inl a : Key) = Sum.inl b) = (a == b) := by
  by_cases e : a = b
  · subst e; simp
  · have h : ¬ (Sum.inl a : Key) = Sum.inl b := fun q => e (Sum.inl.inj q)
    rw [decide_eq_false h]
    exact (beq_eq_false_iff_ne.mpr e).symm
theorem key_rr (a b : Str) : decide ((Sum.inr a : Key) = Sum.inr b) = decide (a = b) := by
  by_cases e : a = b
  · subst e; simp
  · have h : ¬ (Sum.inr a : Key) = Sum.inr b := fun q => e (Sum.inr.inj q)
    rw [decide_eq_false h, decide_eq_false e]
theorem key_lr (a : Int) (b : Str) : decide ((Sum.inl a : Key) = Sum.inr b) = false := decide_eq_false (fun q => nomatch q)
theorem key_rl (a : Str) (b : Int) : decide ((Sum.inr a : Key) = Sum.inl b) = false := decide_eq_false (fun q => nomatch q)

noncomputable def mixKind (prog : Program) (w : World) : PySem.KeyKind prog w Key where
  is := keyIs
  hash := keyH w
  inj := fun v a b ha hb => by
    rcases keyIs_shape ha with ⟨i, t, rfl, rfl⟩ | ⟨x, t, rfl, rfl⟩
    · rcases keyIs_shape hb with ⟨j, u, rfl, e⟩ | ⟨y, u, rfl, e⟩
      · injection e with e1 _; rw [e1]
      · exact nomatch e
    · rcases keyIs_shape hb with ⟨j, u, rfl, e⟩ | ⟨y, u, rfl, e⟩
      · exact nomatch e
      · injection e with e1 _; rw [e1]
  byValue := fun k v h => by
    rcases keyIs_shape h with ⟨i, t, rfl, rfl⟩ | ⟨x, t, rfl, rfl⟩ <;> rfl
  pyHash := fun hv h => by
    rcases keyIs_shape hv with ⟨i, t, rfl, rfl⟩ | ⟨x, t, rfl, rfl⟩
    · exact wpAny_pyHash_int h
    · exact wpAny_pyHash_str h
  eqBool := fun hu hv h => by
    rcases keyIs_shape hu with ⟨i, t, rfl, rfl⟩ | ⟨x, t, rfl, rfl⟩
    · rcases keyIs_shape hv with ⟨j, u, rfl, rfl⟩ | ⟨y, u, rfl, rfl⟩
      · rw [key_ll] at h; exact wpAny_eqBool_int h
      · rw [key_lr] at h; exact SeqAt.EqAt.int_str i t y u _ _ _ _ h
    · rcases keyIs_shape hv with ⟨j, u, rfl, rfl⟩ | ⟨y, u, rfl, rfl⟩
      · rw [key_rl] at h; exact SeqAt.EqAt.str_int x t j u _ _ _ _ h
      · rw [key_rr] at h; exact wpAny_eqBool_str h
  «strs» := fun k x t v h => by
    rcases keyIs_shape h with ⟨i, u, rfl, e⟩ | ⟨y, u, rfl, e⟩
    · exact nomatch e
    · injection e with e1 _
      subst e1
      cases v <;> rfl

end L2

namespace L2
open PySem PySem.Spec PyProof.Rows

inductive V where
  | non | bl (b : Bool) | int (i : Int) | str (x : Str) | byt (b : Array UInt8) | flt (b : UInt64) | ref (a : Addr) | ty (n : String)
  deriving DecidableEq

noncomputable def RelV : V → Value → Prop
  | .non, u => u = Value.none
  | .bl b, u => u = Value.bool b
  | .int i, u => ∃ t, u = Value.int i t
  | .str x, u => ∃ t, u = Value.str x t
  | .byt b, u => ∃ t, u = Value.bytes b t
  | .flt b, u => ∃ t, u = Value.float b t
  | .ref a, u => u = Value.ref a
  | .ty n, u => u = Value.type n

noncomputable abbrev Vals : List V → List Value → Prop := Paired RelV
theorem Vals.length {xs : List V} {us : List Value} (r : Vals xs us) : xs.length = us.length := Paired.length r
theorem Vals.get : ∀ {xs : List V} {us : List Value} {i : Nat} {x : V}, Vals xs us → xs[i]? = some x → ∃ u, us[i]? = some u ∧ RelV x u
  | _, _, _, _, .nil, e => by simp at e
  | _, _, 0, _, .cons r _, e => by simp at e; subst e; exact ⟨_, rfl, r⟩
  | _, _, i + 1, x, .cons _ t, e => by
    obtain ⟨u, h1, h2⟩ := Vals.get (i := i) (x := x) t (by simpa using e)
    exact ⟨u, by simpa using h1, h2⟩
theorem Vals.set {x : V} {u : Value} (r : RelV x u) : ∀ {xs : List V} {us : List Value} (i : Nat), Vals xs us → Vals (xs.set i x) (us.set i u)
  | _, _, _, .nil => .nil
  | _, _, 0, .cons _ t => .cons r t
  | _, _, i + 1, .cons q t => .cons q (Vals.set r i t)
theorem Vals.append : ∀ {xs ys : List V} {us ws : List Value}, Vals xs us → Vals ys ws → Vals (xs ++ ys) (us ++ ws)
  | _, _, _, _, .nil, s => s
  | _, _, _, _, .cons r t, s => .cons r (Vals.append t s)
theorem Vals.take : ∀ {xs : List V} {us : List Value} (n : Nat), Vals xs us → Vals (xs.take n) (us.take n)
  | _, _, 0, _ => .nil
  | _, _, _ + 1, .nil => .nil
  | _, _, n + 1, .cons r t => .cons r (Vals.take n t)
theorem Vals.drop : ∀ {xs : List V} {us : List Value} (n : Nat), Vals xs us → Vals (xs.drop n) (us.drop n)
  | _, _, 0, r => r
  | _, _, _ + 1, .nil => .nil
  | _, _, n + 1, .cons _ t => Vals.drop n t
noncomputable def RelO : Option V → Option Value → Prop
  | some v, some u => RelV v u
  | none, none => True
  | _, _ => False
noncomputable def KV {κ : Type} : List (κ × V) → List (κ × Value) → Prop := Paired fun (p : κ × V) (q : κ × Value) => p.1 = q.1 ∧ RelV p.2 q.2

noncomputable def kV : Key → V
  | .inl i => .int i
  | .inr x => .str x

inductive HO where
  /-- a list -/
  | lst (xs : List V)
  /-- a tuple (never changes) -/
  | tup (xs : List V)
  /-- a dict whose keys are ints and texts; one whose keys are tuples of ints and texts (the empty one is both) -/
  | dK (kvs : List (Key × V)) | dT (kvs : List (List Key × V))
  /-- a set of ints: its members, its size -/
  | set (S : Int → Bool) (n : Nat)
  /-- an instance of the class at C, its dict at dx, its attributes -/
  | ins (C dx : Addr) (fs : List (Str × V))
  /-- the dict of the instance at x -/
  | own (x : Addr)
  /-- the dict of an exception -/
  | xd (fs : List (Str × V))
  /-- a bound method, f of x -/
  | met (f x : Addr)
  /-- a range object lo, lo + 1, .. below hi -/
  | rng (lo hi : Int)
  /-- a thing that is known to the object (the script; a dict while a loop walks it): read, never written while it is so -/
  | frz (o : Obj) (u : HO)
  /-- a code object's table -/
  | tbl (ps : Array Value)
  /-- any other thing, by what is true of its one object (a def of one's own: SetO a S n := HO.ext fun h => ..) -/
  | ext (φ : Heap → Prop)

noncomputable abbrev Hp := Addr → Option HO
noncomputable def upd (H : Hp) (a : Addr) (o : HO) : Hp := fun b => if b = a then some o else H b
theorem upd_same {H : Hp} {a : Addr} {o : HO} : upd H a o a = some o := by unfold upd; rw [if_pos rfl]
theorem upd_ne {H : Hp} {a b : Addr} {o : HO} (h : b ≠ a) : upd H a o b = H b := by unfold upd; rw [if_neg h]
theorem ne_of {H : Hp} {a b : Addr} {o u : HO} (h : H a = some o) (h' : H b = some u) (d : o ≠ u) : a ≠ b := by
  intro e; subst e; rw [h] at h'; exact d (Option.some.inj h')
theorem ne_of_none {H : Hp} {a b : Addr} {o : HO} (h : H a = some o) (h' : H b = none) : a ≠ b := by
  intro e; subst e; rw [h] at h'; cases h'

section
variable (P : Program) (w : World)
noncomputable def ObjOk (H : Hp) (h : Heap) (a : Addr) : HO → Prop
  | .lst xs => xs.length ≤ sizeLine ∧ ∃ (its : List Value) (n : Nat), Vals xs its ∧ h.get? a = some { cls := .type "list", data := .seq its.toArray n }
  | .tup xs => xs.length ≤ sizeLine ∧ ∃ its : List Value, Vals xs its ∧ IsTup h a its.toArray
  | .dK kvs => kvs.length ≤ sizeLine ∧ (a == sysModules) = false ∧ ∃ vs, KV kvs vs ∧ h.DictOf (mixKind P w) a vs
  | .dT kvs => kvs.length ≤ sizeLine ∧ (a == sysModules) = false ∧ ∃ xs : List (List Key × Addr × Value),
      Paired (fun (p : List Key × V) (q : List Key × Addr × Value) => p.1 = q.1 ∧ H q.2.1 = some (.tup (p.1.map kV)) ∧ RelV p.2 q.2.2) kvs xs ∧
      ∃ o es ep, h.get? a = some o ∧ o.ExactDict ∧ o.data = .dict es ep ∧ es.toList = xs.map (entryOfKey (tupleKind (mixKind P w))) ∧ (xs.map (·.1)).Nodup
  | .set S n => h.SetOf (intKind P w) a S n
  | .ins C dx fs => H dx = some (.own a) ∧ fs.length ≤ 1000 ∧ dx ≠ a ∧ h.get? a = some (PySem.W.instObj C dx) ∧
      ∃ mA, h.Ns1 dx mA ∧ (∀ f, RelO (fs.lookup f) (mA f)) ∧ PySem.Within mA (fs.map (·.1))
  | .own _ => ∃ o, h.get? a = some o
  | .xd fs => ∃ mA, h.Ns1 a mA ∧ ∀ f, RelO (fs.lookup f) (mA f)
  | .rng lo hi => ∃ t u v, h.get? a = some { cls := .type "range", data := .fields #[.int lo t, .int hi u, .int 1 v] }
  | .frz o u => h.get? a = some o ∧ ObjOk H h a u
  | .tbl ps => h.get? a = some { cls := .none, data := .fields ps }
  | .met f x => h.get? a = some (PySem.W.methodObj (.ref f) (.ref x))
  | .ext φ => φ h ∧ (∃ o, h.get? a = some o) ∧ ∀ h1 h2 : Heap, φ h1 → (∀ o, h1.get? a = some o → h2.get? a = some o) → φ h2
noncomputable def HOk (H : Hp) (h : Heap) : Prop := ∀ a o, H a = some o → ObjOk P w H h a o
end

section
variable {P : Program} {w : World} {H H' : Hp} {h h' : Heap} {a : Addr} {o : HO}
theorem ObjOk.lt (x : ObjOk P w H h a o) : a < h.objs.size := by
  cases o with
  | lst xs => obtain ⟨_, _, _, _, e⟩ := x; exact Heap.lt_size e
  | tup xs => obtain ⟨_, _, _, p⟩ := x; exact p.lt
  | dK kvs => obtain ⟨_, _, _, _, o, _, _, e, _⟩ := x; exact Heap.lt_size e
  | dT kvs => obtain ⟨_, _, _, _, o, _, _, e, _⟩ := x; exact Heap.lt_size e
  | set S n => obtain ⟨o, _, _, _, e, _⟩ := x; exact Heap.lt_size e
  | ins C dx fs => obtain ⟨_, _, _, e, _⟩ := x; exact Heap.lt_size e
  | own y => obtain ⟨_, e⟩ := x; exact Heap.lt_size e
  | xd fs => obtain ⟨_, ⟨_, _, _, e, _⟩, _⟩ := x; exact Heap.lt_size e
  | rng lo hi => obtain ⟨_, _, _, e⟩ := x; exact Heap.lt_size e
  | frz ob u => obtain ⟨e, _⟩ := x; exact Heap.lt_size e
  | tbl ps => exact Heap.lt_size (show h.get? a = some _ from x)
  | met f y => exact Heap.lt_size (show h.get? a = some _ from x)
  | ext φ => obtain ⟨_, ⟨_, e⟩, _⟩ := x; exact Heap.lt_size e
theorem Paired.mapP {α β : Type} {F G : α → β → Prop} : ∀ {l₁ : List α} {l₂ : List β}, Paired F l₁ l₂ → (∀ a b, F a b → G a b) → Paired G l₁ l₂
  | _, _, .nil, _ => .nil
  | _, _, .cons r t, f => .cons (f _ _ r) (Paired.mapP t f)
theorem Paired.imp' {α β : Type} {F G : α → β → Prop} (f : ∀ a b, F a b → G a b) {l₁ : List α} {l₂ : List β} (r : Paired F l₁ l₂) : Paired G l₁ l₂ := Paired.mapP r f
theorem ObjOk.stay (x : ObjOk P w H h a o) (k : ∀ b u, (b = a ∨ H b = some (.own a)) → h.get? b = some u → h'.get? b = some u)
    (ho : ∀ b, H b = some (.own a) → H' b = some (.own a)) (ht : ∀ b xs, H b = some (.tup xs) → H' b = some (.tup xs)) : ObjOk P w H' h' a o := by
  induction o with
  | lst xs => obtain ⟨z, its, n, r, e⟩ := x; exact ⟨z, its, n, r, k _ _ (.inl rfl) e⟩
  | tup xs => obtain ⟨z, its, r, ob, e, c⟩ := x; exact ⟨z, its, r, ob, k _ _ (.inl rfl) e, c⟩
  | dK kvs => obtain ⟨z, y, vs, r, ob, es, ep, e, c⟩ := x; exact ⟨z, y, vs, r, ob, es, ep, k _ _ (.inl rfl) e, c⟩
  | dT kvs =>
    obtain ⟨z, y, xs, r, ob, es, ep, e, c⟩ := x
    exact ⟨z, y, xs, Paired.mapP r fun p q z => ⟨z.1, ht _ _ z.2.1, z.2.2⟩, ob, es, ep, k _ _ (.inl rfl) e, c⟩
  | set S n => obtain ⟨ob, es, ep, t, e, c⟩ := x; exact ⟨ob, es, ep, t, k _ _ (.inl rfl) e, c⟩
  | ins C dx fs =>
    obtain ⟨d, z, ne, e, mA, ⟨od, es, ep, e2, c⟩, r⟩ := x
    exact ⟨ho _ d, z, ne, k _ _ (.inl rfl) e, mA, ⟨od, es, ep, k _ _ (.inr d) e2, c⟩, r⟩
  | own y => obtain ⟨ob, e⟩ := x; exact ⟨ob, k _ _ (.inl rfl) e⟩
  | xd fs => obtain ⟨mA, ⟨od, es, ep, e, c⟩, r⟩ := x; exact ⟨mA, ⟨od, es, ep, k _ _ (.inl rfl) e, c⟩, r⟩
  | rng lo hi => obtain ⟨t, u, v, e⟩ := x; exact ⟨t, u, v, k _ _ (.inl rfl) e⟩
  | frz ob u ih => obtain ⟨e, q⟩ := x; exact ⟨k _ _ (.inl rfl) e, ih q⟩
  | tbl ps =>
    have e : h.get? a = some { cls := .none, data := .fields ps } := x
    show h'.get? a = some { cls := .none, data := .fields ps }
    exact k a _ (.inl rfl) e
  | met f y =>
    have e : h.get? a = some (PySem.W.methodObj (.ref f) (.ref y)) := x
    show h'.get? a = some (PySem.W.methodObj (.ref f) (.ref y))
    exact k a _ (.inl rfl) e
  | ext φ => obtain ⟨p, ⟨o, e⟩, st⟩ := x; exact ⟨st _ _ p fun o q => k _ _ (.inl rfl) q, ⟨o, k _ _ (.inl rfl) e⟩, st⟩
theorem HOk.lt (x : HOk P w H h) (e : H a = some o) : a < h.objs.size := (x a o e).lt
theorem HOk.fresh (x : HOk P w H h) (e : h.objs.size ≤ a) : H a = none := by
  cases q : H a with
  | none => rfl
  | some u => exact absurd (Nat.lt_of_lt_of_le (x.lt q) e) (Nat.lt_irrefl _)
theorem HOk.kept (x : HOk P w H h) (k : ∀ b u, h.get? b = some u → h'.get? b = some u) : HOk P w H h' := fun a o e =>
  (x a o e).stay (fun b u _ q => k b u q) (fun _ q => q) fun _ _ q => q
theorem HOk.laid (x : HOk P w H h) (k : ∀ b u, h.get? b = some u → h'.get? b = some u) (hp : h.objs.size ≤ a) (new : ObjOk P w (upd H a o) h' a o) : HOk P w (upd H a o) h' := fun b u e => by
  have hn := x.fresh hp
  by_cases hb : b = a
  · subst hb; rw [upd_same] at e; cases e; exact new
  · rw [upd_ne hb] at e
    exact (x b u e).stay (fun c v _ q => k c v q) (fun c q => by rw [upd_ne (ne_of_none q hn)]; exact q) fun c xs q => by rw [upd_ne (ne_of_none q hn)]; exact q
end

noncomputable def Rd (H : Hp) (a : Addr) (u : HO) : Prop := H a = some u ∨ ∃ o, H a = some (.frz o u)
theorem Rd.of {H : Hp} {a : Addr} {u : HO} (h : H a = some u) : Rd H a u := .inl h
theorem Rd.ok {P : Program} {w : World} {H : Hp} {h : Heap} {a : Addr} {u : HO} (r : Rd H a u) (x : HOk P w H h) : ObjOk P w H h a u := by
  rcases r with r | ⟨o, r⟩
  · exact x a u r
  · obtain ⟨_, q⟩ := x a _ r
    exact q
noncomputable def Mut : Option HO → Prop
  | some (.lst _) => True
  | some (.dK _) => True
  | some (.dT _) => True
  | some (.set _ _) => True
  | some (.ins _ _ _) => True
  | some (.ext _) => True
  | _ => False
section
variable {P : Program} {w : World} {H : Hp} {h h' : Heap} {x e : Addr} {o' : HO}
theorem HOk.write (ok : HOk P w H h) (mu : Mut (H x)) (he : e = x ∨ H e = some (.own x)) (k : ∀ b u, b ≠ e → h.get? b = some u → h'.get? b = some u) (heo : ∃ u, h'.get? e = some u)
    (new : ObjOk P w (upd H x o') h' x o') : HOk P w (upd H x o') h' := fun b u q => by
  have nown : ∀ c y, H c = some (.own y) → c ≠ x := fun c y r z => by subst z; rw [r] at mu; exact mu
  have ntup : ∀ c xs, H c = some (.tup xs) → c ≠ x := fun c xs r z => by subst z; rw [r] at mu; exact mu
  by_cases hb : b = x
  · subst hb; rw [upd_same] at q; cases q; exact new
  · rw [upd_ne hb] at q
    by_cases hbe : b = e
    · have q' : H b = some (.own x) := by
        rcases he with z | z
        · exact absurd (hbe.trans z) hb
        · rw [hbe]; exact z
      rw [q] at q'; cases q'
      obtain ⟨v, hv⟩ := heo
      exact ⟨v, by rw [hbe]; exact hv⟩
    · refine (ok b u q).stay (fun c v hc r => k c v ?_ r) (fun c r => by rw [upd_ne (nown c b r)]; exact r) fun c xs r => by rw [upd_ne (ntup c xs r)]; exact r
      rcases hc with rfl | hc
      · exact hbe
      · rintro rfl
        rcases he with z | z
        · exact nown c b hc z
        · rw [hc] at z; cases z; exact hb rfl
end

structure Un (fs ex : List Addr) (H H' : Hp) (h h' : Heap) : Prop where
  keep : ∀ b o, h.get? b = some o → H b = none → b ∉ fs → b ∉ ex → h'.get? b = some o
  slot : ∀ b o, h.get? b = some o → H b = none → b ∈ fs → b ∉ ex → ∃ sl, h'.get? b = some { o with slots := sl }
  free : ∀ b o, h.get? b = some o → H b = none → b ∉ ex → H' b = none
  there : ∀ b o, h.get? b = some o → b ∉ ex → ∃ o', h'.get? b = some o'
  tups : ∀ b xs, H b = some (.tup xs) → H' b = some (.tup xs)
  frzs : ∀ b o u, H b = some (.frz o u) → H' b = some (.frz o u)
  tbls : ∀ b ps, H b = some (.tbl ps) → ∃ more, H' b = some (.tbl (ps ++ more))
section
variable {fs fs' ex ex' : List Addr} {H H1 H2 : Hp} {h h1 h2 h' : Heap} {a x e : Addr} {o : HO}
theorem Un.any (u : Un fs ex H H1 h h1) {b : Addr} {ob : Obj} (q : h.get? b = some ob) (n : H b = none) (hx : b ∉ ex) : ∃ sl, h1.get? b = some { ob with slots := sl } := by
  by_cases hb : b ∈ fs
  · exact u.slot b ob q n hb hx
  · exact ⟨ob.slots, u.keep b ob q n hb hx⟩
theorem Un.trans (a : Un fs ex H H1 h h1) (b : Un fs ex H1 H2 h1 h2) : Un fs ex H H2 h h2 where
  keep := fun c ob q n hc hx => b.keep c ob (a.keep c ob q n hc hx) (a.free c ob q n hx) hc hx
  slot := fun c ob q n hc hx => by
    obtain ⟨sl, e1⟩ := a.slot c ob q n hc hx
    obtain ⟨sl', e2⟩ := b.slot c _ e1 (a.free c ob q n hx) hc hx
    exact ⟨sl', e2⟩
  free := fun c ob q n hx => by
    obtain ⟨o', e1⟩ := a.there c ob q hx
    exact b.free c o' e1 (a.free c ob q n hx) hx
  there := fun c ob q hx => by
    obtain ⟨o', e1⟩ := a.there c ob q hx
    exact b.there c o' e1 hx
  tups := fun c xs q => b.tups c xs (a.tups c xs q)
  frzs := fun c ob xs q => b.frzs c ob xs (a.frzs c ob xs q)
  tbls := fun c ps q => by
    obtain ⟨m1, e1⟩ := a.tbls c ps q
    obtain ⟨m2, e2⟩ := b.tbls c _ e1
    exact ⟨m1 ++ m2, by rw [e2, Array.append_assoc]⟩
theorem Un.kept (k : ∀ b u, h.get? b = some u → h'.get? b = some u) : Un fs ex H H h h' :=
  ⟨fun b ob q _ _ _ => k b ob q, fun b ob q _ _ _ => ⟨ob.slots, k b ob q⟩, fun _ _ _ n _ => n, fun b ob q _ => ⟨ob, k b ob q⟩, fun _ _ q => q, fun _ _ _ q => q, fun _ ps q => ⟨#[], by rw [q]; simp⟩⟩
theorem Un.refl : Un fs ex H H h h := Un.kept fun _ _ q => q
theorem Un.laid (k : ∀ b u, h.get? b = some u → h'.get? b = some u) (hp : h.objs.size ≤ a) (hn : H a = none) : Un fs ex H (upd H a o) h h' where
  keep := fun b u q _ _ _ => k b u q
  slot := fun b u q _ _ _ => ⟨u.slots, k b u q⟩
  free := fun b u q n _ => by rw [upd_ne (Nat.ne_of_lt (Nat.lt_of_lt_of_le (Heap.lt_size q) hp))]; exact n
  there := fun b u q _ => ⟨u, k b u q⟩
  tups := fun b xs q => by rw [upd_ne (ne_of_none q hn)]; exact q
  frzs := fun b u xs q => by rw [upd_ne (ne_of_none q hn)]; exact q
  tbls := fun b ps q => ⟨#[], by rw [upd_ne (ne_of_none q hn), q]; simp⟩
theorem Un.write (mu : Mut (H x)) (he : e = x ∨ H e = some (.own x)) (k : ∀ b u, b ≠ e → h.get? b = some u → h'.get? b = some u) (heo : ∃ u, h'.get? e = some u) : Un fs ex H (upd H x o) h h' := by
  have hx : ∀ b, H b = none → b ≠ x := fun b n z => by subst z; rw [n] at mu; exact mu
  have hb : ∀ b, H b = none → b ≠ e := fun b n z => by
    subst z
    rcases he with r | r
    · exact hx b n r
    · rw [n] at r; cases r
  have hm : ∀ b u, H b = some u → ¬ Mut (some u) → b ≠ x := fun b u q nm z => by subst z; rw [q] at mu; exact nm mu
  refine ⟨fun b u q n _ _ => k b u (hb b n) q, fun b u q n _ _ => ⟨u.slots, k b u (hb b n) q⟩, fun b u q n _ => by rw [upd_ne (hx b n)]; exact n, fun b u q _ => ?_,
    fun b xs q => by rw [upd_ne (hm b _ q fun z => z)]; exact q, fun b u xs q => by rw [upd_ne (hm b _ q fun z => z)]; exact q, fun b ps q => ⟨#[], by rw [upd_ne (hm b _ q fun z => z), q]; simp⟩⟩
  by_cases hbe : b = e
  · subst hbe; exact heo
  · exact ⟨u, k b u hbe q⟩
theorem Un.mono (u : Un fs ex H H1 h h1) (hs : ∀ b ∈ fs, b ∈ fs') (hx : ∀ b ∈ ex, b ∈ ex') : Un fs' ex' H H1 h h1 :=
  ⟨fun b ob q n hb he => u.keep b ob q n (fun z => hb (hs b z)) fun z => he (hx b z), fun _ _ q n _ he => u.any q n fun z => he (hx _ z), fun b ob q n he => u.free b ob q n fun z => he (hx b z), fun b ob q he => u.there b ob q fun z => he (hx b z), u.tups, u.frzs, u.tbls⟩
end

noncomputable def trk (h : Heap) (H : Hp) : List Addr := (List.range h.objs.size).filter fun a => (H a).isSome
noncomputable def hidT (h : Heap) (H : Hp) : Heap := PySem.W.hideAll h (trk h H)
theorem hidT_size (h : Heap) (H : Hp) : (hidT h H).objs.size = h.objs.size := PySem.W.hideAll_size _ _
theorem hidT_get {h : Heap} {H : Hp} {b : Addr} {o : Obj} (e : h.get? b = some o) (n : H b = none) : (hidT h H).get? b = some o :=
  PySem.W.hideAll_get _ e fun hm => by
    have q : (H b).isSome = true := (List.mem_filter.mp hm).2
    rw [n] at q; simp at q
theorem of_hidT {h : Heap} {H : Hp} {b : Addr} {o : Obj} (e : (hidT h H).get? b = some o) : h.get? b = some o ∧ H b = none := by
  have e' : h.get? b = some o := PySem.W.of_hideAll (trk h H) e
  refine ⟨e', ?_⟩
  cases q : H b with
  | none => rfl
  | some x =>
    have hm : b ∈ trk h H := List.mem_filter.mpr ⟨List.mem_range.mpr (Heap.lt_size e'), by simp [q]⟩
    have z : (hidT h H).get? b = none := PySem.W.hideAll_none (trk h H) hm
    rw [z] at e; cases e

noncomputable def allNews (g h : Heap) (L : Addr) : List (Addr × Obj) := (List.range h.objs.size).filterMap fun a => if a = L ∨ (g.get? a).isSome = true then none else (h.get? a).map fun o => (a, o)
noncomputable def rest (g h : Heap) (L d : Addr) : List (Addr × Obj) := (allNews g h L).filter fun p => decide (p.1 ≠ d)
end L2

namespace L2
open PySem PySem.Spec PyProof.Rows

structure Mod (K : PySem.W.Frag) (mg : Str → Option Value) (base : Heap) : Prop where
  kin : K.In base
  glob : base.Ns mainGlobals mg
  blt : ∃ mb, base.Ns builtinsNs mb ∧ ∀ x : Str, x ≠ "__name__" → mb x = bootBuiltins x
  nolimit : base.NoLimit

/-- the context: a def's body (or a comprehension's block) running. base: fixed through the whole law; s₀, H₀: the entry; outer: the frames whose slots others may change (a def's callers); stack: all frames that run;
   ex: iterators that were made ahead of the entry and are walked here (a comprehension's); fn: the names whose cells were made at the entry (a def: all; a comprehension's block: its own); calm: not within an except suite; pn: pins that every state bears; xe: what is wanted of an exception that leaves the code -/
structure Cx where
  prog : Program
  w : World
  K : PySem.W.Frag
  mg : Str → Option Value
  base : Heap
  A : Around
  N : List Str
  s₀ : Shared
  H₀ : Hp
  env : Env
  outer : List Env
  stack : List Env
  ex : List Addr
  fn : Str → Bool
  calm : Bool
  pn : List (Addr × Obj)
  xe : Value → Shared → Prop
noncomputable def frs (l : List Env) : List Addr := l.filterMap (·.frame)
noncomputable abbrev Cx.fs (X : Cx) : List Addr := frs X.outer

noncomputable def Vis (sc : Scope) (x : Str) : Prop := sc.names.lookup x = some .local ∨ sc.names.lookup x = some .cell ∨ sc.names.lookup x = some .free
noncomputable def Loc (sc : Scope) (x : Str) : Prop := sc.names.lookup x = some .local ∨ sc.names.lookup x = some .cell
noncomputable def Look (env : Env) (h : Heap) (m : Str → Option Value) (x : Str) (u : Value) : Prop :=
  (env.kindOf x = some .local ∧ m x = some u) ∨ ((env.kindOf x = some .cell ∨ env.kindOf x = some .free) ∧ ∃ c, env.cells.lookup x = some c ∧ h.IsCell c (some u))

structure Cx.Ok (X : Cx) : Prop where
  mod : Mod X.K X.mg X.base
  kind : X.env.scope.kind = .function
  glob : X.env.globals = mainGlobals
  blt : X.env.builtins = builtinsNs
  above : X.s₀.heap.objs.size ≤ X.env.locals
  inj : ∀ x y c, X.env.cells.lookup x = some c → X.env.cells.lookup y = some c → x = y
  has : ∀ x, (X.env.kindOf x = some .cell ∨ X.env.kindOf x = some .free) → ∃ c, X.env.cells.lookup x = some c
  cab : ∀ x c, X.fn x = true → X.env.cells.lookup x = some c → X.s₀.heap.objs.size ≤ c
  hd : X.calm = true → X.A.handled = none
  frames : X.A.frames = some X.stack
  stk : X.stack = X.outer ∨ (X.stack = X.env :: X.outer ∧ X.env.frame = some X.env.locals)
  exf : ∀ b ∈ X.ex, b ≠ X.env.locals ∧ ∀ x c, X.env.cells.lookup x = some c → c ≠ b
  bs : ∀ b o, X.base.get? b = some o → X.s₀.heap.get? b = some o ∧ X.H₀ b = none
  bsz : X.base.objs.size ≤ X.s₀.heap.objs.size
  noex : ∀ b o, X.base.get? b = some o → b ∉ X.ex
  exfs : ∀ b ∈ X.ex, b ∉ X.fs
  funs : X.s₀.heap.FunFrames X.base X.outer
  frf : ∀ b ∈ X.fs, X.H₀ b = none

structure Inv (X : Cx) (pins : List (Addr × Obj)) (σ : List (Option V)) (H : Hp) (s : Shared) : Prop where
  ok : X.Ok
  os : s.os = X.s₀.os
  bare : AllBare s.gens
  base : Un X.fs X.ex X.H₀ H X.s₀.heap s.heap
  loc : ∃ m, s.heap.Ns X.env.locals m ∧ ∀ (i : Nat) (x : Str) (v : V), X.N[i]? = some x → σ[i]? = some (some v) → Vis X.env.scope x → ∃ u, RelV v u ∧ Look X.env s.heap m x u
  cell : ∀ x c, X.env.cells.lookup x = some c → ∃ v, s.heap.IsCell c v
  free : H X.env.locals = none
  freeC : ∀ x c, X.env.cells.lookup x = some c → H c = none
  pin : ∀ p ∈ X.pn ++ pins, s.heap.get? p.1 = some p.2 ∧ H p.1 = none ∧ p.1 ≠ X.env.locals ∧ p.1 ∉ X.fs ∧ ∀ v, p.2.data ≠ .cell v
  hok : HOk X.prog X.w H s.heap
  len : σ.length = X.N.length

section
variable {X : Cx} {pins : List (Addr × Obj)} {σ : List (Option V)} {H H' : Hp} {s : Shared} {h' : Heap}

theorem Cx.Ok.nofr (ok : X.Ok) {b : Addr} {o : Obj} (e : X.base.get? b = some o) : b ∉ X.fs := fun hb => by
  have := (ok.funs.mem hb).1
  rw [e] at this; cases this
theorem Inv.bs (I : Inv X pins σ H s) : ∀ b o, X.base.get? b = some o → s.heap.get? b = some o ∧ H b = none := fun b o e =>
  ⟨I.base.keep b o (I.ok.bs b o e).1 (I.ok.bs b o e).2 (I.ok.nofr e) (I.ok.noex b o e), I.base.free b o (I.ok.bs b o e).1 (I.ok.bs b o e).2 (I.ok.noex b o e)⟩
theorem Inv.bk (I : Inv X pins σ H s) : ∀ b o, X.base.get? b = some o → s.heap.get? b = some o := fun b o e => (I.bs b o e).1
theorem Inv.mod (I : Inv X pins σ H s) : Mod X.K X.mg X.base := I.ok.mod
theorem Inv.kIn (I : Inv X pins σ H s) : X.K.In s.heap := I.ok.mod.kin.keeps I.bk
theorem Inv.nolimit (I : Inv X pins σ H s) : s.heap.NoLimit := I.ok.mod.nolimit.keeps I.bk
theorem Inv.fr (I : Inv X pins σ H s) : ∃ m, Fr X.base X.env.locals s.heap m :=
  let ⟨m, hn, _⟩ := I.loc
  ⟨m, hn, I.bk, Nat.le_trans I.ok.bsz I.ok.above⟩
theorem Inv.lt (I : Inv X pins σ H s) : X.env.locals < s.heap.objs.size := let ⟨_, hn, _⟩ := I.loc; hn.lt
theorem Inv.sz (I : Inv X pins σ H s) : X.s₀.heap.objs.size ≤ s.heap.objs.size := Nat.le_trans I.ok.above (Nat.le_of_lt I.lt)
theorem Inv.nofs (I : Inv X pins σ H s) {a : Addr} (h : s.heap.objs.size ≤ a) : a ∉ X.fs := fun hb => by
  obtain ⟨_, o, ho, _⟩ := I.ok.funs.mem hb
  exact absurd (Nat.lt_of_lt_of_le (Heap.lt_size ho) (Nat.le_trans I.sz h)) (Nat.lt_irrefl _)
theorem Inv.cne (I : Inv X pins σ H s) : ∀ x c, X.env.cells.lookup x = some c → c ≠ X.env.locals := fun x c e z => by
  obtain ⟨v, o, ho, hd⟩ := I.cell x c e
  obtain ⟨m, ⟨o', es, ep, ho', hd', _⟩, _⟩ := I.loc
  rw [z, ho'] at ho; cases ho; rw [hd'] at hd; cases hd
theorem Inv.funs (I : Inv X pins σ H s) : s.heap.FunFrames X.base X.outer := by
  have all : ∀ (l : List Env), (∀ b ∈ frs l, b ∈ X.fs) → X.s₀.heap.FunFrames X.base l → s.heap.FunFrames X.base l := by
    intro l
    induction l with
    | nil => intro _ _; trivial
    | cons env r ih =>
      intro hs hl
      obtain ⟨hk, ⟨L, o, hf, hn, ho, hd⟩, hr⟩ := hl
      have hL : L ∈ X.fs := hs L (by unfold frs; rw [List.filterMap_cons, hf]; exact List.mem_cons_self)
      obtain ⟨sl, e⟩ := I.base.slot L o ho (I.ok.frf L hL) hL fun z => I.ok.exfs L z hL
      exact ⟨hk, ⟨L, _, hf, hn, e, hd⟩, ih (fun b hb => hs b (by unfold frs; rw [List.filterMap_cons, hf]; exact List.mem_cons_of_mem _ hb)) hr⟩
  exact all X.outer (fun _ hb => hb) I.ok.funs

theorem Inv.stack (I : Inv X pins σ H s) : s.heap.FunFrames X.base X.stack := by
  rcases I.ok.stk with e | ⟨e, hf⟩
  · rw [e]; exact I.funs
  · rw [e]
    obtain ⟨m, hn, _⟩ := I.loc
    refine .cons (by rw [I.ok.kind]; decide) hf hn ?_ I.funs
    exact Heap.get?_none_of_le (Nat.le_trans I.ok.bsz I.ok.above)
theorem Inv.stkSub (I : Inv X pins σ H s) : ∀ b ∈ frs X.stack, b ∈ X.env.locals :: X.fs := fun b hb => by
  rcases I.ok.stk with e | ⟨e, hf⟩
  · rw [e] at hb; exact List.mem_cons_of_mem _ hb
  · rw [e] at hb
    unfold frs at hb
    rw [List.filterMap_cons, hf] at hb
    exact hb
theorem Inv.stkFree (I : Inv X pins σ H s) : ∀ b ∈ frs X.stack, H b = none := fun b hb => by
  rcases List.mem_cons.mp (I.stkSub b hb) with e | hb
  · rw [e]; exact I.free
  · obtain ⟨_, o, ho, _⟩ := I.ok.funs.mem hb
    exact I.base.free b o ho (I.ok.frf b hb) fun z => I.ok.exfs b z hb

theorem Inv.step {g' : Array GenState} {t' : Nat} {d' : Drawn} {ch : List Addr} (I : Inv X pins σ H s)
    (hch : ∀ b ∈ ch, (b ∈ X.ex ∨ X.s₀.heap.objs.size ≤ b) ∧ b ≠ X.env.locals ∧ (∀ x c, X.env.cells.lookup x = some c → c ≠ b) ∧ ∀ p ∈ X.pn ++ pins, p.1 ≠ b)
    (keep : ∀ b o, b ≠ X.env.locals → b ∉ X.fs → b ∉ ch → s.heap.get? b = some o → H b = none → h'.get? b = some o)
    (slot : ∀ b o, b ≠ X.env.locals → b ∈ X.fs → b ∉ ch → s.heap.get? b = some o → H b = none → ∃ sl, h'.get? b = some { o with slots := sl }) (free : ∀ b o, b ∉ ch → s.heap.get? b = some o → H b = none → H' b = none)
    (there : ∀ b o, b ∉ ch → s.heap.get? b = some o → ∃ o', h'.get? b = some o')
    (tups : ∀ b xs, H b = some (.tup xs) → H' b = some (.tup xs)) (frzs : ∀ b o u, H b = some (.frz o u) → H' b = some (.frz o u)) (tbls : ∀ b ps, H b = some (.tbl ps) → ∃ more, H' b = some (.tbl (ps ++ more)))
    (ns : ∀ m, s.heap.Ns X.env.locals m → h'.Ns X.env.locals m) (hok : HOk X.prog X.w H' h') (hg : AllBare g') :
    Inv X pins σ H' { s with heap := h', gens := g', drawn := d', toks := t' } := by
  have neL : ∀ b o, X.s₀.heap.get? b = some o → b ≠ X.env.locals := fun b o e => Nat.ne_of_lt (Nat.lt_of_lt_of_le (Heap.lt_size e) I.ok.above)
  have neC : ∀ b o, X.s₀.heap.get? b = some o → b ∉ X.ex → b ∉ ch := fun b o e hx hb => by
    rcases (hch b hb).1 with z | z
    · exact hx z
    · exact absurd (Nat.lt_of_lt_of_le (Heap.lt_size e) z) (Nat.lt_irrefl _)
  have cellK : ∀ x c, X.env.cells.lookup x = some c → ∀ v, s.heap.IsCell c v → h'.IsCell c v := fun x c e v ⟨o, ho, hd⟩ => by
    have nch : c ∉ ch := fun z => (hch c z).2.2.1 x c e rfl
    by_cases hc : c ∈ X.fs
    · obtain ⟨sl, q⟩ := slot c o (I.cne x c e) hc nch ho (I.freeC x c e)
      exact ⟨_, q, hd⟩
    · exact ⟨o, keep c o (I.cne x c e) hc nch ho (I.freeC x c e), hd⟩
  refine ⟨I.ok, I.os, hg, ⟨fun b o e n hb hx => ?_, fun b o e n hb hx => ?_, fun b o e n hx => ?_, fun b o e hx => ?_, fun b xs e => tups b xs (I.base.tups b xs e), fun b o xs e => frzs b o xs (I.base.frzs b o xs e), fun b ps e => ?_⟩, ?_, fun x c e => ?_, ?_, fun x c e => ?_, fun p hp => ?_, hok, I.len⟩
  · exact keep b o (neL b o e) hb (neC b o e hx) (I.base.keep b o e n hb hx) (I.base.free b o e n hx)
  · obtain ⟨sl, e1⟩ := I.base.slot b o e n hb hx
    obtain ⟨sl', e2⟩ := slot b _ (neL b o e) hb (neC b o e hx) e1 (I.base.free b o e n hx)
    exact ⟨sl', e2⟩
  · obtain ⟨o', e1⟩ := I.base.there b o e hx
    exact free b o' (neC b o e hx) e1 (I.base.free b o e n hx)
  · obtain ⟨o', e1⟩ := I.base.there b o e hx
    exact there b o' (neC b o e hx) e1
  · obtain ⟨m1, e1⟩ := I.base.tbls b ps e
    obtain ⟨m2, e2⟩ := tbls b _ e1
    exact ⟨m1 ++ m2, by rw [e2, Array.append_assoc]⟩
  · obtain ⟨m, hn, hl⟩ := I.loc
    refine ⟨m, ns m hn, fun i x v e1 e2 e3 => ?_⟩
    obtain ⟨u, r, l⟩ := hl i x v e1 e2 e3
    refine ⟨u, r, ?_⟩
    rcases l with l | ⟨k, c, e, z⟩
    · exact .inl l
    · exact .inr ⟨k, c, e, cellK x c e _ z⟩
  · obtain ⟨v, z⟩ := I.cell x c e
    exact ⟨v, cellK x c e v z⟩
  · obtain ⟨m, ⟨o, _, _, ho, _⟩, _⟩ := I.loc
    exact free _ o (fun z => (hch _ z).2.1 rfl) ho I.free
  · obtain ⟨v, o, ho, hd⟩ := I.cell x c e
    exact free c o (fun z => (hch c z).2.2.1 x c e rfl) ho (I.freeC x c e)
  · obtain ⟨e, n, ne, nf, d⟩ := I.pin p hp
    have nch : p.1 ∉ ch := fun z => (hch p.1 z).2.2.2 p hp rfl
    exact ⟨keep p.1 p.2 ne nf nch e n, free p.1 p.2 nch e n, ne, nf, d⟩
theorem Inv.un {t' : Nat} (I : Inv X pins σ H s) (u : Un X.fs [] H H' s.heap h') (hok : HOk X.prog X.w H' h') : Inv X pins σ H' { s with heap := h', toks := t' } := by
  obtain ⟨m, ⟨o, es, ep, ho, r⟩, _⟩ := id I.loc
  obtain ⟨sl, hL⟩ := u.any ho I.free (by simp)
  exact I.step (g' := s.gens) (d' := s.drawn) (ch := []) (fun _ z => nomatch z) (fun b o _ hb _ e n => u.keep b o e n hb (by simp)) (fun b o _ hb _ e n => u.slot b o e n hb (by simp)) (fun b o _ e n => u.free b o e n (by simp)) (fun b o _ e => u.there b o e (by simp)) u.tups u.frzs u.tbls (fun m' hm => by
    obtain ⟨o', es', ep', ho', r'⟩ := hm
    rw [ho] at ho'; cases ho'
    exact ⟨_, es', ep', hL, r'⟩) hok I.bare
theorem Inv.call {g' : Array GenState} {t' : Nat} {d' : Drawn} {ch : List Addr} (I : Inv X pins σ H s) (u : Un (frs X.stack) ch H H' s.heap h') (hok : HOk X.prog X.w H' h') (hg : AllBare g')
    (hch : ∀ b ∈ ch, (b ∈ X.ex ∨ X.s₀.heap.objs.size ≤ b) ∧ b ≠ X.env.locals ∧ (∀ x c, X.env.cells.lookup x = some c → c ≠ b) ∧ ∀ p ∈ X.pn ++ pins, p.1 ≠ b) :
    Inv X pins σ H' { s with heap := h', gens := g', drawn := d', toks := t' } := by
  obtain ⟨m, ⟨o, es, ep, ho, r⟩, _⟩ := id I.loc
  obtain ⟨sl, hL⟩ := u.any ho I.free fun z => (hch _ z).2.1 rfl
  exact I.step (ch := ch) hch (fun b o hL hb hc e n => u.keep b o e n (fun z => (List.mem_cons.mp (I.stkSub b z)).elim hL hb) hc) (fun b o _ _ hc e n => u.any e n hc) (fun b o hc e n => u.free b o e n hc) (fun b o hc e => u.there b o e hc) u.tups u.frzs u.tbls (fun m' hm => by
    obtain ⟨o', es', ep', ho', r'⟩ := hm
    rw [ho] at ho'; cases ho'
    exact ⟨_, es', ep', hL, r'⟩) hok hg
theorem Inv.turned {t' : Nat} {it : Addr} (I : Inv X pins σ H s) (k : ∀ b o, b ≠ it → s.heap.get? b = some o → h'.get? b = some o) (hn : H it = none) (hL : it ≠ X.env.locals)
    (h1 : it ∈ X.ex ∨ X.s₀.heap.objs.size ≤ it) (h2 : ∀ x c, X.env.cells.lookup x = some c → c ≠ it) (h3 : ∀ p ∈ X.pn ++ pins, p.1 ≠ it) : Inv X pins σ H { s with heap := h', toks := t' } := by
  have nit : ∀ b u, H b = some u → b ≠ it := fun b u e z => by rw [z, hn] at e; cases e
  refine I.step (g' := s.gens) (d' := s.drawn) (ch := [it]) (fun b hb => ?_) (fun b o _ _ hc e _ => k b o (fun z => hc (by simp [z])) e) (fun b o _ _ hc e _ => ⟨o.slots, k b o (fun z => hc (by simp [z])) e⟩) (fun _ _ _ _ n => n)
    (fun b o hc e => ⟨o, k b o (fun z => hc (by simp [z])) e⟩) (fun _ _ e => e) (fun _ _ _ e => e) (fun b ps e => ⟨#[], by rw [e]; simp⟩) (fun m hm => ?_) (fun b u e => ?_) I.bare
  · have e : b = it := by simpa using hb
    subst e
    exact ⟨h1, hL, h2, h3⟩
  · obtain ⟨o, es, ep, ho, r⟩ := hm
    exact ⟨o, es, ep, k _ o (Ne.symm hL) ho, r⟩
  · refine (I.hok b u e).stay (fun c v hc q => k c v ?_ q) (fun _ q => q) fun _ _ q => q
    rcases hc with z | z
    · rw [z]; exact nit b u e
    · exact nit c _ z
theorem Inv.tok (I : Inv X pins σ H s) (t : Nat) : Inv X pins σ H { s with toks := t } := I.un (h' := s.heap) (t' := t) Un.refl I.hok
theorem Inv.kept {t' : Nat} (I : Inv X pins σ H s) (k : ∀ b u, s.heap.get? b = some u → h'.get? b = some u) : Inv X pins σ H { s with heap := h', toks := t' } := I.un (Un.kept k) (I.hok.kept k)
theorem Inv.laid {a : Addr} {o : HO} {t' : Nat} (I : Inv X pins σ H s) (k : ∀ b u, s.heap.get? b = some u → h'.get? b = some u) (hp : s.heap.objs.size ≤ a) (new : ObjOk X.prog X.w (upd H a o) h' a o) :
    Inv X pins σ (upd H a o) { s with heap := h', toks := t' } := I.un (Un.laid k hp (I.hok.fresh hp)) (I.hok.laid k hp new)
theorem Inv.write {x e : Addr} {o : HO} {t' : Nat} (I : Inv X pins σ H s) (mu : Mut (H x)) (he : e = x ∨ H e = some (.own x)) (k : ∀ b u, b ≠ e → s.heap.get? b = some u → h'.get? b = some u) (heo : ∃ u, h'.get? e = some u)
    (new : ObjOk X.prog X.w (upd H x o) h' x o) : Inv X pins σ (upd H x o) { s with heap := h', toks := t' } := I.un (Un.write mu he k heo) (I.hok.write mu he k heo new)
theorem Inv.pins_of {pins' : List (Addr × Obj)} (I : Inv X pins σ H s) (h : ∀ p ∈ pins', s.heap.get? p.1 = some p.2 ∧ H p.1 = none ∧ p.1 ≠ X.env.locals ∧ p.1 ∉ X.fs ∧ ∀ v, p.2.data ≠ .cell v) : Inv X pins' σ H s :=
  ⟨I.ok, I.os, I.bare, I.base, I.loc, I.cell, I.free, I.freeC, fun p hp => (List.mem_append.mp hp).elim (fun z => I.pin p (List.mem_append_left _ z)) (h p), I.hok, I.len⟩

theorem nodup_ix {N : List Str} (hN : N.Nodup) {i j : Nat} {x : Str} (a : N[i]? = some x) (b : N[j]? = some x) : i = j := by
  obtain ⟨h1, e1⟩ := List.getElem?_eq_some_iff.mp a
  obtain ⟨h2, e2⟩ := List.getElem?_eq_some_iff.mp b
  exact (List.getElem_inj hN).mp (e1.trans e2.symm)

theorem store_ok2 {M : Model} {A : Around} {E : Value → Shared → Prop} {i : Nat} {x : Str} {v : V} {u : Value} {Q : Unit → Shared → Prop} (I : Inv X pins σ H s) (hN : X.N.Nodup) (hi : X.N[i]? = some x) (hx : Loc X.env.scope x) (r : RelV v u)
    (h : ∀ s', Inv X pins (σ.set i (some v)) H s' → (∃ a, Heap.SameBut a s.heap s'.heap ∧ (a = X.env.locals ∨ X.env.cells.lookup x = some a)) → Q () s') (hf : X.fn x = true ∨ X.env.scope.names.lookup x = some .local := by first | exact .inl rfl | exact .inr rfl | assumption) : wpAny M A (storeName X.env x u) Q E s := by
  obtain ⟨m, hn, hl⟩ := id I.loc
  have hcls : (X.env.scope.kind == .class || (X.env.scope.kind == .module && X.env.locals != X.env.globals)) = false := by rw [I.ok.kind]; rfl
  have hiσ : i < σ.length := by rw [I.len]; exact (List.getElem?_eq_some_iff.mp hi).1
  have cne := I.cne
  have tracked : ∀ {a : Addr} {h' : Heap}, (∃ o, s.heap.get? a = some o ∧ H a = none) → Heap.SameBut a s.heap h' → HOk X.prog X.w H h' := fun {a h'} ha hs b ob e => by
    obtain ⟨_, _, hfree⟩ := ha
    refine (I.hok b ob e).stay (fun c w' hc q => (hs.2 c ?_).trans q) (fun _ q => q) fun _ _ q => q
    rintro rfl
    rcases hc with rfl | hc
    · rw [hfree] at e; cases e
    · rw [hfree] at hc; cases hc
  rcases hx with hk | hk
  · refine wpAny_storeName_local hk hn (fun h' hn' hs => ?_) hcls
    obtain ⟨oL, _, _, hoL, _⟩ := id hn
    refine h _ ⟨I.ok, I.os, I.bare, ⟨fun b o e n hb hx => ?_, fun b o e n hb hx => ?_, I.base.free, fun b o e hx => ?_, I.base.tups, I.base.frzs, I.base.tbls⟩, ⟨_, hn', fun j y v' e1 e2 e3 => ?_⟩, fun y c e => ?_, I.free, I.freeC, fun p hp => ?_, tracked ⟨oL, hoL, I.free⟩ hs, by simpa using I.len⟩ ⟨_, hs, .inl rfl⟩
    · exact (hs.2 b (Nat.ne_of_lt (Nat.lt_of_lt_of_le (Heap.lt_size e) I.ok.above))).trans (I.base.keep b o e n hb hx)
    · obtain ⟨sl, e1⟩ := I.base.slot b o e n hb hx
      exact ⟨sl, (hs.2 b (Nat.ne_of_lt (Nat.lt_of_lt_of_le (Heap.lt_size e) I.ok.above))).trans e1⟩
    · obtain ⟨o', e1⟩ := I.base.there b o e hx
      exact ⟨o', (hs.2 b (Nat.ne_of_lt (Nat.lt_of_lt_of_le (Heap.lt_size e) I.ok.above))).trans e1⟩
    · by_cases hj : j = i
      · subst hj
        rw [hi] at e1; cases e1
        rw [List.getElem?_set_self hiσ] at e2
        cases e2
        exact ⟨u, r, .inl ⟨hk, by simp⟩⟩
      · rw [List.getElem?_set_ne (Ne.symm hj)] at e2
        obtain ⟨u', r', q⟩ := hl j y v' e1 e2 e3
        refine ⟨u', r', ?_⟩
        rcases q with ⟨k, e⟩ | ⟨k, c, e, z⟩
        · refine .inl ⟨k, ?_⟩
          have : y ≠ x := fun e => hj (nodup_ix hN e1 (e ▸ hi))
          simp [this, e]
        · exact .inr ⟨k, c, e, z.sameBut hs (cne y c e)⟩
    · obtain ⟨w', z⟩ := I.cell y c e
      exact ⟨w', z.sameBut hs (cne y c e)⟩
    · obtain ⟨e, n, ne, nf, d⟩ := I.pin p hp
      exact ⟨(hs.2 p.1 ne).trans e, n, ne, nf, d⟩
  · have hfn : X.fn x = true := by
      rcases hf with z | z
      · exact z
      · rw [z] at hk; cases hk
    obtain ⟨c, hc⟩ := I.ok.has x (.inl hk)
    obtain ⟨w', z⟩ := I.cell x c hc
    refine wpAny_storeName_cell I.ok.kind hk hc z (fun h' hc' hs => ?_)
    obtain ⟨oc, hoc, hocd⟩ := id z
    refine h { s with heap := h' } ⟨I.ok, I.os, I.bare, ⟨fun b o e n hb hx => ?_, fun b o e n hb hx => ?_, I.base.free, fun b o e hx => ?_, I.base.tups, I.base.frzs, I.base.tbls⟩, ⟨m, hn.sameBut hs (Ne.symm (cne x c hc)), fun j y v' e1 e2 e3 => ?_⟩, fun y c' e => ?_, I.free, I.freeC, fun p hp => ?_, tracked ⟨oc, hoc, I.freeC x c hc⟩ hs, by simpa using I.len⟩ ⟨c, hs, .inr hc⟩
    · exact (hs.2 b (Nat.ne_of_lt (Nat.lt_of_lt_of_le (Heap.lt_size e) (I.ok.cab x c hfn hc)))).trans (I.base.keep b o e n hb hx)
    · obtain ⟨sl, e1⟩ := I.base.slot b o e n hb hx
      exact ⟨sl, (hs.2 b (Nat.ne_of_lt (Nat.lt_of_lt_of_le (Heap.lt_size e) (I.ok.cab x c hfn hc)))).trans e1⟩
    · obtain ⟨o', e1⟩ := I.base.there b o e hx
      exact ⟨o', (hs.2 b (Nat.ne_of_lt (Nat.lt_of_lt_of_le (Heap.lt_size e) (I.ok.cab x c hfn hc)))).trans e1⟩
    · by_cases hj : j = i
      · subst hj
        rw [hi] at e1; cases e1
        rw [List.getElem?_set_self hiσ] at e2
        cases e2
        exact ⟨u, r, .inr ⟨.inl hk, c, hc, hc'⟩⟩
      · rw [List.getElem?_set_ne (Ne.symm hj)] at e2
        obtain ⟨u', r', q⟩ := hl j y v' e1 e2 e3
        refine ⟨u', r', ?_⟩
        rcases q with q | ⟨k, c', e, z'⟩
        · exact .inl q
        · refine .inr ⟨k, c', e, z'.sameBut hs ?_⟩
          rintro rfl
          exact hj (nodup_ix hN e1 (I.ok.inj _ _ _ e hc ▸ hi))
    · by_cases hcc : c' = c
      · subst hcc; exact ⟨_, hc'⟩
      · obtain ⟨w2, z2⟩ := I.cell y c' e
        exact ⟨w2, z2.sameBut hs hcc⟩
    · obtain ⟨e, n, ne, nf, d⟩ := I.pin p hp
      refine ⟨(hs.2 p.1 ?_).trans e, n, ne, nf, d⟩
      intro q
      rw [q, hoc] at e
      have q' : oc = p.2 := Option.some.inj e
      exact d w' (by rw [← q']; exact hocd)
theorem store_ok {M : Model} {A : Around} {E : Value → Shared → Prop} {i : Nat} {x : Str} {v : V} {u : Value} {Q : Unit → Shared → Prop} (I : Inv X pins σ H s) (hN : X.N.Nodup) (hi : X.N[i]? = some x) (hx : Loc X.env.scope x) (r : RelV v u)
    (h : ∀ s', Inv X pins (σ.set i (some v)) H s' → Q () s') (hf : X.fn x = true ∨ X.env.scope.names.lookup x = some .local := by first | exact .inl rfl | exact .inr rfl | assumption) : wpAny M A (storeName X.env x u) Q E s :=
  store_ok2 I hN hi hx r (fun s' I' _ => h s' I') hf
theorem Inv.call' {s' : Shared} {ch : List Addr} (I : Inv X pins σ H s) (ho : s'.os = s.os) (u : Un (frs X.stack) ch H H' s.heap s'.heap) (hok : HOk X.prog X.w H' s'.heap) (hg : AllBare s'.gens)
    (hch : ∀ b ∈ ch, (b ∈ X.ex ∨ X.s₀.heap.objs.size ≤ b) ∧ b ≠ X.env.locals ∧ (∀ x c, X.env.cells.lookup x = some c → c ≠ b) ∧ ∀ p ∈ X.pn ++ pins, p.1 ≠ b) : Inv X pins σ H' s' := by
  obtain ⟨h', g', d', t', o'⟩ := s'
  have e : o' = s.os := ho
  subst e
  exact I.call (g' := g') (t' := t') (d' := d') u hok hg hch
end

noncomputable abbrev XK := Value → Option Addr → Hp → Prop
noncomputable abbrev St := List (Option V)
noncomputable abbrev VK := V → Hp → Prop
noncomputable abbrev TE := St → Hp → VK → Prop
noncomputable abbrev TT := St → Hp → (Bool → Hp → Prop) → Prop
noncomputable abbrev TA := St → Hp → (List V → Hp → Prop) → Prop
structure Ends where
  nx : St → Hp → Prop
  rt : VK
  bk : St → Hp → Prop := fun _ _ => False
  ct : St → Hp → Prop := fun _ _ => False
noncomputable abbrev TS := Ends → St → Hp → Prop

noncomputable def EP (X : Cx) (pins : List (Addr × Obj)) (σ : St) (Q : VK) (u : Value) (s' : Shared) : Prop := ∃ v H', Inv X pins σ H' s' ∧ RelV v u ∧ Q v H'
noncomputable def TP (X : Cx) (pins : List (Addr × Obj)) (σ : St) (Q : Bool → Hp → Prop) (b : Bool) (s' : Shared) : Prop := ∃ H', Inv X pins σ H' s' ∧ Q b H'
noncomputable def AP (X : Cx) (pins : List (Addr × Obj)) (σ : St) (Q : List V → Hp → Prop) (us : List Value) (s' : Shared) : Prop := ∃ vs H', Inv X pins σ H' s' ∧ Vals vs us ∧ Q vs H'
noncomputable def SP (X : Cx) (pins : List (Addr × Obj)) (D : Ends) (f : Flow) (s' : Shared) : Prop :=
  match f with
  | .next => ∃ σ' H', Inv X pins σ' H' s' ∧ D.nx σ' H'
  | .brk => ∃ σ' H', Inv X pins σ' H' s' ∧ D.bk σ' H'
  | .cont => ∃ σ' H', Inv X pins σ' H' s' ∧ D.ct σ' H'
  | .ret u => ∃ v σ' H', Inv X pins σ' H' s' ∧ RelV v u ∧ D.rt v H'

noncomputable def PE (X : Cx) (e : Expr) (t : TE) : Prop :=
  ∀ (pins : List (Addr × Obj)) (s : Shared) (σ : St) (H : Hp) (Q : VK), Inv X pins σ H s → t σ H Q → wpAny (model X.prog X.w) X.A (eval e X.env) (EP X pins σ Q) X.xe s
noncomputable def PT (X : Cx) (e : Expr) (t : TT) : Prop :=
  ∀ (pins : List (Addr × Obj)) (s : Shared) (σ : St) (H : Hp) (Q : Bool → Hp → Prop), Inv X pins σ H s → t σ H Q → wpAny (model X.prog X.w) X.A (isTrue e X.env (eval e X.env)) (TP X pins σ Q) X.xe s
noncomputable def PW (X : Cx) (e : Expr) (t : TT) : Prop :=
  ∀ (whole : Sem Value) (pins : List (Addr × Obj)) (s : Shared) (σ : St) (H : Hp) (Q : Bool → Hp → Prop), Inv X pins σ H s → t σ H Q → wpAny (model X.prog X.w) X.A (isTrue e X.env whole) (TP X pins σ Q) X.xe s
theorem PW.pt {X : Cx} {e : Expr} {t : TT} (h : PW X e t) : PT X e t := h _
noncomputable def PA (X : Cx) (es : List Expr) (t : TA) : Prop :=
  ∀ (pos : Pos) (pins : List (Addr × Obj)) (s : Shared) (σ : St) (H : Hp) (Q : List V → Hp → Prop), Inv X pins σ H s → t σ H Q → wpAny (model X.prog X.w) X.A (spliced (backTo pos (starEach es X.env))) (AP X pins σ Q) X.xe s
noncomputable def PS (X : Cx) (st : Stmt) (t : TS) : Prop :=
  ∀ (pins : List (Addr × Obj)) (s : Shared) (σ : St) (H : Hp) (D : Ends), Inv X pins σ H s → t D σ H → wpAny (model X.prog X.w) X.A (exec st X.env) (SP X pins D) X.xe s
noncomputable def PSs (X : Cx) (st : List Stmt) (t : TS) : Prop :=
  ∀ (pins : List (Addr × Obj)) (s : Shared) (σ : St) (H : Hp) (D : Ends), Inv X pins σ H s → t D σ H → wpAny (model X.prog X.w) X.A (execs st X.env) (SP X pins D) X.xe s
theorem thn {α : Type} {t : Sem α} {Q Q' : α → Shared → Prop} {M : Model} {A : Around} {E : Value → Shared → Prop} {s : Shared} (h : wpAny M A t Q E s) (hQ : ∀ a s, Q a s → Q' a s) : wpAny M A t Q' E s := wpAny_mono h hQ fun _ _ x => x
end L2

namespace L2
open PySem PySem.Spec PyProof.Rows
section
variable {X : Cx}

noncomputable def tVar (i : Nat) : TE := fun σ H Q => ∃ v, σ[i]? = some (some v) ∧ Q v H
noncomputable def tC (v : V) : TE := fun _ H Q => Q v H
theorem pe_var {i : Nat} {x : Str} {pos : Pos} (hN : X.N[i]? = some x) (hv : Vis X.env.scope x) (hd : (x == ("__debug__" : Str)) = false := by decide) (hcd : (x == ("__classdict__" : Str)) = false := by decide) : PE X (.Name x pos) (tVar i) := by
  intro pins s σ H Q I h
  obtain ⟨v, e, h⟩ := h
  obtain ⟨m, hn, hl⟩ := I.loc
  obtain ⟨u, r, l⟩ := hl i x v hN e hv
  have fin : EP X pins σ Q u s := ⟨v, H, I, r, h⟩
  rcases l with ⟨hk, hm⟩ | ⟨hk, c, hc, hcell⟩
  · exact wpAny_Name (wpAny_loadName_local I.ok.kind hk hn hm fin) hd
  · rcases hk with hk | hk
    · exact wpAny_Name (wpAny_loadName_cell I.ok.kind hk hc hcell fin) hd
    · exact wpAny_Name (wpAny_loadName_free I.ok.kind hk hc hcell fin hcd) hd
theorem pe_int {i j pos} : PE X (.Constant (.int i) j pos) (tC (.int i)) := fun _ _ _ H _ I h => wpAny_Constant_int ⟨.int i, H, I.tok _, ⟨_, rfl⟩, h⟩
theorem pe_bl {b j pos} : PE X (.Constant (.bool b) j pos) (tC (.bl b)) := fun _ _ _ H _ I h => Constant_bool ⟨.bl b, H, I, rfl, h⟩
theorem pe_non {j pos} : PE X (.Constant .none j pos) (tC .non) := fun _ _ _ H _ I h => Constant_none ⟨.non, H, I, rfl, h⟩
theorem pe_str {x j pos} : PE X (.Constant (.str x) j pos) (tC (.str x)) := fun _ _ _ H _ I h => Calls.Constant_str ⟨.str x, H, I.tok _, ⟨_, rfl⟩, h⟩

noncomputable def Gl (X : Cx) (x : Str) : Prop := X.env.kindOf x = some .globalImplicit
theorem ld_glob {E : Value → Shared → Prop} {pins : List (Addr × Obj)} {s : Shared} {σ : St} {H : Hp} {x : Str} {u : Value} {pos : Pos} {Q : Value → Shared → Prop} (I : Inv X pins σ H s) (hg : Gl X x) (hm : X.mg x = some u) (h : Q u s)
    (hd : (x == ("__debug__" : Str)) = false := by decide) : wpAny (model X.prog X.w) X.A (eval (.Name x pos) X.env) Q E s :=
  Calls.Name_function_global I.ok.kind hg (Calls.loadGlobal_global (by rw [I.ok.glob]; exact I.mod.glob.keeps I.bk) hm h) hd
theorem ld_blt {E : Value → Shared → Prop} {pins : List (Addr × Obj)} {s : Shared} {σ : St} {H : Hp} {x : Str} {u : Value} {pos : Pos} {Q : Value → Shared → Prop} (I : Inv X pins σ H s) (hg : Gl X x) (hm : X.mg x = none) (hv : bootBuiltins x = some u) (h : Q u s)
    (hn : x ≠ "__name__" := by decide) (hd : (x == ("__debug__" : Str)) = false := by decide) : wpAny (model X.prog X.w) X.A (eval (.Name x pos) X.env) Q E s := by
  obtain ⟨mb, h1, h2⟩ := I.mod.blt
  exact Calls.Name_function_global I.ok.kind hg (Calls.loadGlobal_builtin (by rw [I.ok.glob]; exact I.mod.glob.keeps I.bk) hm (by rw [I.ok.blt]; exact h1.keeps I.bk) ((h2 x hn).trans hv) h) hd
theorem pe_glob {x : Str} {v : V} {u : Value} {pos : Pos} (hg : Gl X x) (hm : X.mg x = some u) (r : RelV v u) (hd : (x == ("__debug__" : Str)) = false := by decide) : PE X (.Name x pos) (tC v) :=
  fun _ _ _ H _ I h => ld_glob I hg hm ⟨v, H, I, r, h⟩ hd
theorem pe_bltn {x : Str} {v : V} {u : Value} {pos : Pos} (hg : Gl X x) (hm : X.mg x = none) (hv : bootBuiltins x = some u) (r : RelV v u) (hn : x ≠ "__name__" := by decide) (hd : (x == ("__debug__" : Str)) = false := by decide) : PE X (.Name x pos) (tC v) :=
  fun _ _ _ H _ I h => ld_blt I hg hm hv ⟨v, H, I, r, h⟩ hn hd

variable {a b : Expr} {ta tb : TE} {pos : Pos}
noncomputable def tB (t : TE) : TT := fun σ H Q => t σ H fun x H1 => ∃ c, x = .bl c ∧ Q c H1
theorem pt_val {e : Expr} {t : TE} (h : PE X e t) (he : ∀ whole, isTrue e X.env whole = (do let v ← whole; standAt e.pos; holding [v] (truthy v)) := by intro _; rfl) : PT X e (tB t) := by
  intro pins s σ H Q I hw
  refine isTrue_plain (thn (h pins s σ H _ I hw) fun v s1 ⟨x, H1, I1, r1, q1⟩ => ?_) (he _)
  obtain ⟨d, rfl, q⟩ := q1
  cases r1
  exact wpAny_truthy_bool ⟨H1, I1, q⟩

variable {tA tB' : TT} {rest : List Expr}
noncomputable def tAnd (t u : TT) : TT := fun σ H Q => t σ H fun c H1 => if c = true then u σ H1 Q else Q false H1
noncomputable def tOr (t u : TT) : TT := fun σ H Q => t σ H fun c H1 => if c = true then Q true H1 else u σ H1 Q
noncomputable def tNot (t : TT) : TT := fun σ H Q => t σ H fun c H1 => Q (!c) H1
theorem pw_and1 (ha : PT X a tA) : PW X (.BoolOp .And [a] pos) tA := by
  intro wh pins s σ H Q I h
  refine isTrue_and (thn (ha pins s σ H Q I h) fun c s1 e => ?_)
  cases c with
  | true => exact isTrue_and_nil e
  | false => exact e
theorem pw_or1 (ha : PT X a tA) : PW X (.BoolOp .Or [a] pos) tA := by
  intro wh pins s σ H Q I h
  refine isTrue_or (thn (ha pins s σ H Q I h) fun c s1 e => ?_)
  cases c with
  | false => exact isTrue_or_nil e
  | true => exact e
theorem pw_and (ha : PT X a tA) (hb : PW X (.BoolOp .And (b :: rest) pos) tB') : PW X (.BoolOp .And (a :: b :: rest) pos) (tAnd tA tB') := by
  intro wh pins s σ H Q I h
  refine isTrue_and (thn (ha pins s σ H _ I h) fun c s1 ⟨H1, I1, q1⟩ => ?_)
  cases c with
  | true => exact hb wh pins s1 σ H1 Q I1 q1
  | false => exact ⟨H1, I1, q1⟩
theorem pw_or (ha : PT X a tA) (hb : PW X (.BoolOp .Or (b :: rest) pos) tB') : PW X (.BoolOp .Or (a :: b :: rest) pos) (tOr tA tB') := by
  intro wh pins s σ H Q I h
  refine isTrue_or (thn (ha pins s σ H _ I h) fun c s1 ⟨H1, I1, q1⟩ => ?_)
  cases c with
  | true => exact ⟨H1, I1, q1⟩
  | false => exact hb wh pins s1 σ H1 Q I1 q1
theorem pt_not (ha : PT X a tA) : PT X (.UnaryOp .Not a pos) (tNot tA) := by
  intro pins s σ H Q I h
  exact isTrue_not (ha pins s σ H (fun c H1 => Q (!c) H1) I h)
noncomputable def tAndV (ta tb : TE) : TE := fun σ H Q => ta σ H fun x H1 => ∃ c, x = .bl c ∧ if c = true then tb σ H1 Q else Q (.bl false) H1
noncomputable def tNotV (ta : TE) : TE := fun σ H Q => ta σ H fun x H1 => ∃ c, x = .bl c ∧ Q (.bl (!c)) H1
theorem pe_one {op} {t : TE} (h : PE X a t) : PE X (.BoolOp op [a] pos) t := fun pins s σ H Q I hw => BoolOp_one (h pins s σ H Q I hw)
theorem pe_and (ha : PE X a ta) (hb : PE X (.BoolOp .And (b :: rest) pos) tb) : PE X (.BoolOp .And (a :: b :: rest) pos) (tAndV ta tb) := by
  intro pins s σ H Q I h
  refine BoolOp_and (thn (ha pins s σ H _ I h) fun v s1 ⟨x, H1, I1, r1, q1⟩ => ?_)
  obtain ⟨c, rfl, q1⟩ := q1
  cases r1
  refine wpAny_truthy_bool ?_
  cases c with
  | true => exact hb pins s1 σ H1 Q I1 q1
  | false => exact ⟨.bl false, H1, I1, rfl, q1⟩
theorem pe_not (ha : PE X a ta) : PE X (.UnaryOp .Not a pos) (tNotV ta) := by
  intro pins s σ H Q I h
  refine UnaryOp_ (thn (ha pins s σ H _ I h) fun v s1 ⟨x, H1, I1, r1, q1⟩ => ?_)
  obtain ⟨c, rfl, q1⟩ := q1
  cases r1
  exact not_of (wpAny_truthy_bool ⟨.bl (!c), H1, I1, rfl, q1⟩)
noncomputable def tIf (t : TT) (ta tb : TE) : TE := fun σ H Q => t σ H fun c H1 => if c = true then ta σ H1 Q else tb σ H1 Q
theorem pe_ifExp {c : Expr} (hc : PT X c tA) (ha : PE X a ta) (hb : PE X b tb) : PE X (.IfExp c a b pos) (tIf tA ta tb) := by
  intro pins s σ H Q I h
  refine wpAny_IfExp (thn (hc pins s σ H _ I h) fun d s1 ⟨H1, I1, q1⟩ => ?_)
  cases d with
  | true => exact ha pins s1 σ H1 Q I1 q1
  | false => exact hb pins s1 σ H1 Q I1 q1
end
end L2

namespace L2
open PySem PySem.Spec PyProof.Rows

noncomputable def SqL (K : PySem.W.Frag) (H : Hp) (a : Addr) (xs : List V) : Prop :=
  Rd H a (.lst xs) ∨
    ∃ (o : Obj) (its : Array Value) (n : Nat), K.lookup a = some o ∧ o.cls = .type "list" ∧ o.dict = none ∧ o.data = .seq its n ∧ its.size ≤ sizeLine ∧ Vals xs its.toList
noncomputable def SqT (K : PySem.W.Frag) (H : Hp) (a : Addr) (xs : List V) : Prop :=
  Rd H a (.tup xs) ∨
    ∃ (o : Obj) (its : Array Value) (n : Nat), K.lookup a = some o ∧ o.cls = .type "tuple" ∧ o.data = .seq its n ∧ its.size ≤ sizeLine ∧ Vals xs its.toList
noncomputable def absV : Value → Option V
  | .none => some .non
  | .bool b => some (.bl b)
  | .int i _ => some (.int i)
  | .str x _ => some (.str x)
  | .bytes b _ => some (.byt b)
  | .float b _ => some (.flt b)
  | .ref a => some (.ref a)
  | .type n => some (.ty n)
  | _ => none
theorem RelV.abs {x : V} {u : Value} (r : RelV x u) : absV u = some x := by
  cases x with
  | non => cases r; rfl
  | bl _ => cases r; rfl
  | int _ => obtain ⟨t, rfl⟩ := r; rfl
  | str _ => obtain ⟨t, rfl⟩ := r; rfl
  | byt _ => obtain ⟨t, rfl⟩ := r; rfl
  | flt _ => obtain ⟨t, rfl⟩ := r; rfl
  | ref _ => cases r; rfl
  | ty _ => cases r; rfl
theorem RelV.inj {x y : V} {u : Value} (r : RelV x u) (q : RelV y u) : x = y := Option.some.inj (r.abs.symm.trans q.abs)
theorem Vals.inj : ∀ {xs ys : List V} {us : List Value}, Vals xs us → Vals ys us → xs = ys
  | _, _, _, .nil, .nil => rfl
  | _, _, _, .cons r t, .cons r' t' => by rw [r.inj r', Vals.inj t t']
section
variable {X : Cx} {pins : List (Addr × Obj)} {σ : St} {H : Hp} {s : Shared} {a : Addr} {xs ys : List V}
theorem SqL.of {K : PySem.W.Frag} (h : H a = some (.lst xs)) : SqL K H a xs := .inl (.inl h)
theorem SqT.of {K : PySem.W.Frag} (h : H a = some (.tup xs)) : SqT K H a xs := .inl (.inl h)
theorem Inv.list (I : Inv X pins σ H s) (h : SqL X.K H a xs) : ∃ its : List Value, Vals xs its ∧ PlainL s.heap a its.toArray ∧ xs.length ≤ sizeLine := by
  rcases h with h | ⟨o, its, n, hk, hc, hd, hs, hz, r⟩
  · obtain ⟨z, its, n, r, e⟩ := h.ok I.hok
    exact ⟨its, r, ⟨_, n, e, rfl, rfl, rfl⟩, z⟩
  · refine ⟨its.toList, r, ⟨o, n, I.kIn a o hk, hc, hd, by simpa using hs⟩, ?_⟩
    have e := r.length
    simp only [Array.length_toList] at e
    omega
theorem Inv.tuple (I : Inv X pins σ H s) (h : SqT X.K H a xs) : ∃ its : List Value, Vals xs its ∧ IsTup s.heap a its.toArray ∧ xs.length ≤ sizeLine := by
  rcases h with h | ⟨o, its, n, hk, hc, hs, hz, r⟩
  · obtain ⟨z, its, r, p⟩ := h.ok I.hok
    exact ⟨its, r, p, z⟩
  · refine ⟨its.toList, r, ⟨o, I.kIn a o hk, hc, n, by simpa using hs⟩, ?_⟩
    have e := r.length
    simp only [Array.length_toList] at e
    omega
theorem Inv.list_inj (I : Inv X pins σ H s) (h : SqL X.K H a xs) (h' : SqL X.K H a ys) : xs = ys := by
  obtain ⟨its, r, ⟨o, n, e, _, _, d⟩, _⟩ := I.list h
  obtain ⟨its', r', ⟨o', n', e', _, _, d'⟩, _⟩ := I.list h'
  rw [e] at e'; cases e'
  rw [d] at d'
  injection d' with d1 _
  have : its = its' := by simpa using congrArg Array.toList d1
  subst this
  exact r.inj r'
theorem Inv.tuple_inj (I : Inv X pins σ H s) (h : SqT X.K H a xs) (h' : SqT X.K H a ys) : xs = ys := by
  obtain ⟨its, r, ⟨o, e, _, n, d⟩, _⟩ := I.tuple h
  obtain ⟨its', r', ⟨o', e', _, n', d'⟩, _⟩ := I.tuple h'
  rw [e] at e'; cases e'
  rw [d] at d'
  injection d' with d1 _
  have : its = its' := by simpa using congrArg Array.toList d1
  subst this
  exact r.inj r'
end

noncomputable abbrev Cx.wish (X : Cx) (E : Value → Shared → Prop) : Cx := { X with xe := E }
noncomputable abbrev Cx.nox (X : Cx) : Cx := X.wish fun _ _ => False
theorem Cx.Ok.wish {X : Cx} (ok : X.Ok) (E : Value → Shared → Prop) : (X.wish E).Ok :=
  ⟨ok.mod, ok.kind, ok.glob, ok.blt, ok.above, ok.inj, ok.has, ok.cab, ok.hd, ok.frames, ok.stk, ok.exf, ok.bs, ok.bsz, ok.noex, ok.exfs, ok.funs, ok.frf⟩
theorem Cx.Ok.unwish {X : Cx} {E : Value → Shared → Prop} (ok : (X.wish E).Ok) : X.Ok :=
  ⟨ok.mod, ok.kind, ok.glob, ok.blt, ok.above, ok.inj, ok.has, ok.cab, ok.hd, ok.frames, ok.stk, ok.exf, ok.bs, ok.bsz, ok.noex, ok.exfs, ok.funs, ok.frf⟩
section
variable {X : Cx} {pins : List (Addr × Obj)} {σ : St} {H : Hp} {s : Shared} {E : Value → Shared → Prop}
theorem Inv.wish (I : Inv X pins σ H s) (E : Value → Shared → Prop) : Inv (X.wish E) pins σ H s := ⟨I.ok.wish E, I.os, I.bare, I.base, I.loc, I.cell, I.free, I.freeC, I.pin, I.hok, I.len⟩
theorem Inv.unwish (I : Inv (X.wish E) pins σ H s) : Inv X pins σ H s := ⟨I.ok.unwish, I.os, I.bare, I.base, I.loc, I.cell, I.free, I.freeC, I.pin, I.hok, I.len⟩
theorem SP.unwish {D : Ends} {f : Flow} {s' : Shared} (h : SP (X.wish E) pins D f s') : SP X pins D f s' := by
  cases f with
  | next => obtain ⟨σ', H', I, q⟩ := h; exact ⟨σ', H', I.unwish, q⟩
  | brk => obtain ⟨σ', H', I, q⟩ := h; exact ⟨σ', H', I.unwish, q⟩
  | cont => obtain ⟨σ', H', I, q⟩ := h; exact ⟨σ', H', I.unwish, q⟩
  | ret u => obtain ⟨v, σ', H', I, r, q⟩ := h; exact ⟨v, σ', H', I.unwish, r, q⟩
theorem PE.nox {e : Expr} {t : TE} (h : PE X.nox e t) : PE X e t := fun pins s σ H Q I hw =>
  wpAny_mono (h pins s σ H Q (I.wish _) hw) (fun _ _ ⟨v, H', I', r, q⟩ => ⟨v, H', I'.unwish, r, q⟩) fun _ _ z => False.elim z
theorem PT.nox {e : Expr} {t : TT} (h : PT X.nox e t) : PT X e t := fun pins s σ H Q I hw =>
  wpAny_mono (h pins s σ H Q (I.wish _) hw) (fun _ _ ⟨H', I', q⟩ => ⟨H', I'.unwish, q⟩) fun _ _ z => False.elim z
theorem PSs.nox {st : List Stmt} {t : TS} (h : PSs X.nox st t) : PSs X st t := fun pins s σ H D I hw =>
  wpAny_mono (h pins s σ H D (I.wish _) hw) (fun _ _ q => q.unwish) fun _ _ z => False.elim z
end

section
variable {X : Cx} {st : Stmt} {rest : List Stmt} {t u : TS} {e : Expr} {te : TE} {pos : Pos}
noncomputable def tNext : TS := fun D σ H => D.nx σ H
noncomputable def tSeq (t u : TS) : TS := fun D σ H => t { D with nx := u D } σ H
theorem pss_nil : PSs X [] tNext := fun _ _ σ H _ I h => wpAny_execs_nil ⟨σ, H, I, h⟩
theorem pss_cons (h1 : PS X st t) (h2 : PSs X rest u) : PSs X (st :: rest) (tSeq t u) := by
  intro pins s σ H D I h
  refine wpAny_execs_cons (thn (h1 pins s σ H { D with nx := u D } I h) fun f s1 q => ?_)
  cases f with
  | next =>
    obtain ⟨σ', H', I', q⟩ := q
    exact h2 pins s1 σ' H' D I' q
  | ret v => exact q
  | brk => exact q
  | cont => exact q
theorem pss_one (h1 : PS X st t) : PSs X [st] t := by
  intro pins s σ H D I h
  refine wpAny_execs_cons (thn (h1 pins s σ H D I h) fun f s1 q => ?_)
  cases f with
  | next => exact wpAny_execs_nil q
  | ret v => exact q
  | brk => exact q
  | cont => exact q
theorem Inv.quiet {pins : List (Addr × Obj)} {σ : St} {H : Hp} {s : Shared} (I : Inv X pins σ H s) : interactive X.env = false := by simp [interactive, I.ok.kind]
noncomputable def tDrop (te : TE) : TS := fun D σ H => te σ H fun _ H1 => D.nx σ H1
theorem ps_expr (he : PE X e te) (hs : swapsWith e none pos.line X.env = pure false := by rfl) : PS X (.Expr e pos) (tDrop te) := by
  intro pins s σ H D I h
  exact wpAny_Expr_any (thn (he pins s σ H _ I h) fun v s1 ⟨x, H1, I1, r1, q1⟩ => ⟨σ, H1, I1, q1⟩) I.quiet hs
noncomputable def tRet (te : TE) : TS := fun D σ H => te σ H D.rt
theorem ps_ret (he : PE X e te) : PS X (.Return (some e) pos) (tRet te) := by
  intro pins s σ H D I h
  exact wpAny_Return_some (thn (he pins s σ H _ I h) fun v s1 ⟨x, H1, I1, r1, q1⟩ => ⟨x, σ, H1, I1, r1, q1⟩)
noncomputable def tIfS (c : TT) (t u : TS) : TS := fun D σ H => c σ H fun b H1 => if b = true then t D σ H1 else u D σ H1
theorem ps_if {c : Expr} {a b : List Stmt} {tc : TT} (hc : PT X c tc) (ha : PSs X a t) (hb : PSs X b u) : PS X (.If c a b pos) (tIfS tc t u) := by
  intro pins s σ H D I h
  refine wpAny_If (thn (hc pins s σ H _ I h) fun d s1 ⟨H1, I1, q1⟩ => ?_)
  cases d with
  | true => exact ha pins s1 σ H1 D I1 q1
  | false => exact hb pins s1 σ H1 D I1 q1
end

noncomputable abbrev TG := V → St → Hp → (St → Hp → Prop) → Prop
noncomputable abbrev TGs := List V → St → Hp → (St → Hp → Prop) → Prop
noncomputable def PG (X : Cx) (target : Expr) (t : TG) : Prop :=
  ∀ (pins : List (Addr × Obj)) (s : Shared) (σ : St) (H : Hp) (v : V) (u : Value) (Q : St → Hp → Prop), Inv X pins σ H s → RelV v u → t v σ H Q →
    wpAny (model X.prog X.w) X.A (assign target X.env u) (fun _ s' => ∃ σ' H', Inv X pins σ' H' s' ∧ Q σ' H') X.xe s
noncomputable def PGs (X : Cx) (ts : List Expr) (t : TGs) : Prop :=
  ∀ (pins : List (Addr × Obj)) (s : Shared) (σ : St) (H : Hp) (vs : List V) (us : List Value) (Q : St → Hp → Prop), Inv X pins σ H s → Vals vs us → t vs σ H Q →
    wpAny (model X.prog X.w) X.A (assignInOrder ((assignEach ts X.env).map (·.2)) us) (fun _ s' => ∃ σ' H', Inv X pins σ' H' s' ∧ Q σ' H') X.xe s
noncomputable abbrev TSet := V → V → V → Hp → (Hp → Prop) → Prop
noncomputable def PSet (X : Cx) (t : TSet) : Prop :=
  ∀ (pins : List (Addr × Obj)) (s : Shared) (σ : St) (H : Hp) (o i v : V) (ov iv u : Value) (Q : Hp → Prop), Inv X pins σ H s → RelV o ov → RelV i iv → RelV v u → t o i v H Q →
    wpAny (model X.prog X.w) X.A (setItem ov iv u) (fun _ s' => ∃ H', Inv X pins σ H' s' ∧ Q H') X.xe s
section
variable {X : Cx} {pos : Pos}
noncomputable def gName (i : Nat) : TG := fun v σ H Q => Q (σ.set i (some v)) H
theorem pg_name {i : Nat} {x : Str} (hN : X.N.Nodup) (hi : X.N[i]? = some x) (hx : Loc X.env.scope x) (hf : X.fn x = true ∨ X.env.scope.names.lookup x = some .local := by first | exact .inl rfl | exact .inr rfl | assumption) : PG X (.Name x pos) (gName i) := by
  intro pins s σ H v u Q I r h
  exact wpAny_assign_Name (store_ok I hN hi hx r (fun s' I' => ⟨_, H, I', h⟩) hf)
noncomputable def gNil : TGs := fun vs σ H Q => vs = [] ∧ Q σ H
noncomputable def gCons (t : TG) (u : TGs) : TGs := fun vs σ H Q => ∃ v r, vs = v :: r ∧ t v σ H fun σ' H' => u r σ' H' Q
theorem pgs_nil : PGs X [] gNil := by
  intro pins s σ H vs us Q I r h
  obtain ⟨e, h⟩ := h
  subst e
  cases r
  exact assignInOrder_nil ⟨σ, H, I, h⟩
theorem pgs_cons {e : Expr} {es : List Expr} {t : TG} {u : TGs} (h1 : PG X e t) (h2 : PGs X es u)
    (hs : (assignEach (e :: es) X.env).map (·.2) = assign e X.env :: (assignEach es X.env).map (·.2) := by rfl) : PGs X (e :: es) (gCons t u) := by
  intro pins s σ H vs us Q I r h
  obtain ⟨v, vr, e1, h⟩ := h
  subst e1
  cases r with
  | cons r rr =>
    rw [hs]
    refine assignInOrder_cons (thn (h1 pins s σ H _ _ _ I r h) fun _ s1 ⟨σ1, H1, I1, q1⟩ => ?_)
    exact h2 pins s1 σ1 H1 _ _ Q I1 rr q1
noncomputable def gTup (K : PySem.W.Frag) (n : Nat) (t : TGs) : TG := fun v σ H Q => ∃ a xs, v = .ref a ∧ SqT K H a xs ∧ xs.length = n ∧ t xs σ H Q
theorem pg_tup {es : List Expr} {k : Nat} {t : TGs} {n : Nat} (hc : X.calm = true) (h : PGs X es t)
    (hn : (assignEach es X.env).length = n := by rfl) (hst : (assignEach es X.env).findIdx? (·.1) = none := by rfl) : PG X (.Tuple es k pos) (gTup X.K n t) := by
  intro pins s σ H v u Q I r hw
  obtain ⟨a, xs, e1, hq, hl, hw⟩ := hw
  subst e1
  cases r
  obtain ⟨its, rv, ht, hz⟩ := I.tuple hq
  refine assign_Tuple_tuple (I.ok.hd hc) ht (by simp [hn, ← hl, rv.length]) hst fun h' hx => ?_
  have I1 : Inv X pins σ H { s with heap := h' } := I.kept (t' := s.toks) fun b o e => hx b o (Nat.ne_of_lt (Heap.lt_size e)) e
  exact h pins _ σ H xs _ Q I1 (by simpa using rv) hw
noncomputable def gSub (to ti : TE) (t : TSet) : TG := fun v σ H Q => to σ H fun o H1 => ti σ H1 fun i H2 => t o i v H2 fun H3 => Q σ H3
theorem pg_sub {o i : Expr} {to ti : TE} {t : TSet} (ho : PE X o to) (hi : PE X i ti) (hs : PSet X t)
    (ha : ∀ v, assign (.Subscript o i pos) X.env v = (do
      let ov ← holding [v] (eval o X.env)
      let iv ← holding [v, ov] (eval i X.env)
      standAt pos
      holding [v, ov, iv] (setItem ov iv v)
      release [v, ov, iv] []) := by intro _; rfl) : PG X (.Subscript o i pos) (gSub to ti t) := by
  intro pins s σ H v u Q I r h
  rw [ha]
  refine wpAny_bind (wpAny_holding (thn (ho pins s σ H _ I h) fun ov s1 ⟨x, H1, I1, r1, q1⟩ => ?_))
  refine wpAny_bind (wpAny_holding (thn (hi pins s1 σ H1 _ I1 q1) fun iv s2 ⟨y, H2, I2, r2, q2⟩ => ?_))
  refine wpAny_bind (wpAny_standAt (wpAny_bind (wpAny_holding (thn (hs pins s2 σ H2 x y v ov iv u _ I2 r1 r2 r q2) fun _ s3 ⟨H3, I3, q3⟩ => ?_))))
  exact wpAny_release ⟨σ, H3, I3, q3⟩
noncomputable def tAsg (te : TE) (g : TG) : TS := fun D σ H => te σ H fun x H1 => g x σ H1 D.nx
theorem ps_asg {tg e : Expr} {te : TE} {g : TG} (he : PE X e te) (hg : PG X tg g) (hs : swapsWithSole [tg] e pos.line X.env = pure false := by rfl) (hw : swappedStores [tg] e X.env = pure none := by rfl)
    (h1 : (assignEach [tg] X.env).map (·.2) = [assign tg X.env] := by rfl) : PS X (.Assign [tg] e pos) (tAsg te g) := by
  intro pins s σ H D I h
  refine wpAny_Assign_stores (thn (he pins s σ H _ I h) fun v s1 ⟨x, H1, I1, r1, q1⟩ => ?_) hs hw
  rw [h1]
  exact thn (hg pins s1 σ H1 x v _ I1 r1 q1) fun _ s2 q => q
theorem ps_set {i : Nat} {x : Str} {e : Expr} {te : TE} {pos' : Pos} (hN : X.N.Nodup) (hi : X.N[i]? = some x) (hx : Loc X.env.scope x) (he : PE X e te) (hs : swapsWith e (some (.Name x pos')) pos.line X.env = pure false := by rfl) (hf : X.fn x = true ∨ X.env.scope.names.lookup x = some .local := by first | exact .inl rfl | exact .inr rfl | assumption) :
    PS X (.Assign [.Name x pos'] e pos) (tAsg te (gName i)) := by
  intro pins s σ H D I h
  refine wpAny_Assign_Name (thn (he pins s σ H _ I h) fun v s1 ⟨y, H1, I1, r1, q1⟩ => ?_) hs
  exact store_ok I1 hN hi hx r1 (fun s2 I2 => ⟨_, H1, I2, q1⟩) hf
end

section
variable {X : Cx} {pos : Pos}
end

structure It where
  go : Nat → Hp → Prop
  yld : Nat → Hp → V → Hp → Prop
  stop : Nat → Hp → Prop
noncomputable def FpOk (X : Cx) (pins : List (Addr × Obj)) (H : Hp) (b : Addr) : Prop :=
  H b = none ∧ b ≠ X.env.locals ∧ b ∉ X.fs ∧ (b ∈ X.ex ∨ X.s₀.heap.objs.size ≤ b) ∧ (∀ x c, X.env.cells.lookup x = some c → c ≠ b) ∧ ∀ p ∈ X.pn ++ pins, p.1 ≠ b
theorem Inv.fpOk {X : Cx} {pins : List (Addr × Obj)} {σ : St} {H H' : Hp} {s : Shared} {b : Addr} (I : Inv X pins σ H s) (hb : s.heap.objs.size ≤ b) (hn : H' b = none) : FpOk X pins H' b := by
  refine ⟨hn, Nat.ne_of_gt (Nat.lt_of_lt_of_le I.lt hb), I.nofs hb, .inr (Nat.le_trans I.sz hb), fun x c e z => ?_, fun p hp z => ?_⟩
  · obtain ⟨v, q⟩ := I.cell x c e
    exact absurd (Nat.lt_of_lt_of_le q.lt (by rw [z]; exact hb)) (Nat.lt_irrefl _)
  · exact absurd (Nat.lt_of_lt_of_le (Heap.lt_size (I.pin p hp).1) (by rw [z]; exact hb)) (Nat.lt_irrefl _)
structure Turn (P : Program) (w : World) (K : PySem.W.Frag) (tg : Expr) (J : It) (fp : List Addr) (it : Addr) (tn : Nat → Heap → Prop) : Prop where
  mem : it ∈ fp
  obj : ∀ i h, tn i h → ∀ b ∈ fp, ∃ o, h.get? b = some o ∧ ∀ v, o.data ≠ .cell v
  keep : ∀ i h h', tn i h → (∀ b ∈ fp, ∀ o, h.get? b = some o → h'.get? b = some o) → tn i h'
  item : ∀ (X : Cx), X.prog = P → X.w = w → X.K = K → X.calm = true → ∀ (i : Nat) (pins : List (Addr × Obj)) (s : Shared) (σ : St) (H : Hp) (E : Value → Shared → Prop), Inv X pins σ H s → (∀ b ∈ fp, FpOk X pins H b) → tn i s.heap → J.go i H →
    wpAny (model P w) X.A (pyNext (.ref it)) (fun r s1 => ∃ u, r = some u ∧
      wpAny (model P w) X.A (letOwnedTupleGo tg (.ref it) u) (fun _ s2 => ∃ x H', Inv X pins σ H' s2 ∧ RelV x u ∧ J.yld i H x H' ∧ tn (i + 1) s2.heap ∧ ∀ b ∈ fp, H' b = none) E s1) E s
  done : ∀ (X : Cx), X.prog = P → X.w = w → X.K = K → X.calm = true → ∀ (i : Nat) (pins : List (Addr × Obj)) (s : Shared) (σ : St) (H : Hp) (E : Value → Shared → Prop), Inv X pins σ H s → (∀ b ∈ fp, FpOk X pins H b) → tn i s.heap → J.stop i H →
    wpAny (model P w) X.A (pyNext (.ref it)) (fun r s1 => r = none ∧ Inv X pins σ H s1) E s
  self : ∀ (A : Around) (i : Nat) (s : Shared) (Q : Value → Shared → Prop) (E : Value → Shared → Prop), tn i s.heap → Q (.ref it) s → wpAny (model P w) A (pyIter (.ref it)) Q E s
noncomputable abbrev TI := St → Hp → (It → Hp → Prop) → Prop
noncomputable def PIE (X : Cx) (pins : List (Addr × Obj)) (σ : St) (tg : Expr) (R : It → Hp → Prop) (itv : Value) (s2 : Shared) : Prop :=
  ∃ (it : Addr) (fp : List Addr) (tn : Nat → Heap → Prop) (J : It) (H' : Hp), itv = .ref it ∧ Inv X pins σ H' s2 ∧ Turn X.prog X.w X.K tg J fp it tn ∧ tn 0 s2.heap ∧ (∀ b ∈ fp, FpOk X pins H' b) ∧ R J H'
noncomputable def PI (X : Cx) (tg iter : Expr) (wi : TI) : Prop :=
  ∀ (pins : List (Addr × Obj)) (s : Shared) (σ : St) (H : Hp) (R : It → Hp → Prop), Inv X pins σ H s → wi σ H R →
    wpAny (model X.prog X.w) X.A (eval iter X.env) (fun v s1 => wpAny (model X.prog X.w) X.A (pyIter v) (PIE X pins σ tg R) X.xe s1) X.xe s

theorem go_of {M : Model} {A : Around} {E : Value → Shared → Prop} {s : Shared} {tg : Expr} {it : Addr} {u : Value} {o : Obj} {n : String} {vs : Array Value} {Q : Unit → Shared → Prop} (ho : s.heap.get? it = some o) (hc : o.cls = .type n) (hd : o.data = .fields vs)
    (hn : ["enumerate", "zip", "dict_itemiterator", "dict_reverseitemiterator", "odict_iterator", "itertools.zip_longest", "itertools.pairwise"].contains n = false) (hQ : Q () s) : wpAny M A (letOwnedTupleGo tg (.ref it) u) Q E s := by
  unfold letOwnedTupleGo
  cases tg <;> first
    | exact wpAny_pure hQ
    | (cases u <;> first
        | exact wpAny_pure hQ
        | (refine wpAny_bind (wpAny_load ho ?_)
           rw [hc, hd]
           show wpAny M A (if (["enumerate", "zip", "dict_itemiterator", "dict_reverseitemiterator", "odict_iterator", "itertools.zip_longest", "itertools.pairwise"].contains n && vs[0]? == some (rawInt _)) = true then _ else _) Q E s
           rw [if_neg (by intro h; rw [hn, Bool.false_and] at h; cases h)]
           exact wpAny_pure hQ))

noncomputable def Itl (K : PySem.W.Frag) (a : Addr) : It :=
  ⟨fun i H => ∃ xs x, SqL K H a xs ∧ xs[i]? = some x, fun i H x H' => H' = H ∧ ∀ xs, SqL K H a xs → xs[i]? = some x, fun i H => ∃ xs, SqL K H a xs ∧ xs.length ≤ i⟩
noncomputable def Itt (K : PySem.W.Frag) (a : Addr) : It :=
  ⟨fun i H => ∃ xs x, SqT K H a xs ∧ xs[i]? = some x, fun i H x H' => H' = H ∧ ∀ xs, SqT K H a xs → xs[i]? = some x, fun i H => ∃ xs, SqT K H a xs ∧ xs.length ≤ i⟩
noncomputable def Itr (lo : Int) (n : Nat) : It := ⟨fun i _ => i < n, fun i H x H' => H' = H ∧ x = .int (lo + i), fun i _ => n ≤ i⟩
theorem turn_list {P : Program} {w : World} {K : PySem.W.Frag} {tg : Expr} (a it : Addr) : Turn P w K tg (Itl K a) [it] it (fun i h => h.IsListIter it a i) where
  mem := by simp
  obj := fun i h st b hb => by
    have e : b = it := by simpa using hb
    subst e
    obtain ⟨o, e, c, d⟩ := st
    exact ⟨o, e, fun v z => by rw [d] at z; cases z⟩
  keep := fun i h h' st k => st.at fun o e => k it (by simp) o e
  item := by
    intro X hP hw hK hc i pins s σ H E I hf st hg
    subst hP hw hK
    obtain ⟨xs, x, hq, hx⟩ := hg
    obtain ⟨its, rv, p, hz⟩ := I.list hq
    obtain ⟨u, hu, ru⟩ := rv.get hx
    obtain ⟨f0, f1, f2, f3, f4, f5⟩ := hf it (by simp)
    refine wpAny_pyNext_list_item st p.isList (x := u) (by simpa using hu) fun h' st' sb => ?_
    have I1 : Inv X pins σ H { s with heap := h' } := I.turned (t' := s.toks) (fun b o hb e => (sb.2 b hb).trans e) f0 f1 f3 f4 f5
    obtain ⟨o, e, c, d⟩ := id st'
    exact ⟨u, rfl, go_of (s := { s with heap := h' }) e c d (by decide) ⟨x, H, I1, ru, ⟨rfl, fun ys hy => by rw [I.list_inj hy hq]; exact hx⟩, st', fun b hb => (hf b hb).1⟩⟩
  done := by
    intro X hP hw hK hc i pins s σ H E I hf st hg
    subst hP hw hK
    obtain ⟨xs, hq, hx⟩ := hg
    obtain ⟨its, rv, p, hz⟩ := I.list hq
    obtain ⟨f0, f1, f2, f3, f4, f5⟩ := hf it (by simp)
    have hl := rv.length
    exact wpAny_pyNext_list_end (I.ok.hd hc) st p.isList (by simp; omega) fun h' eb => ⟨rfl, I.turned (t' := s.toks) (fun b o hb e => eb b o hb e) f0 f1 f3 f4 f5⟩
  self := fun _ _ _ _ _ st h => wpAny_pyIter_listiter st h
theorem turn_tuple {P : Program} {w : World} {K : PySem.W.Frag} {tg : Expr} (a it : Addr) : Turn P w K tg (Itt K a) [it] it (fun i h => h.IsTupleIter it a i) where
  mem := by simp
  obj := fun i h st b hb => by
    have e : b = it := by simpa using hb
    subst e
    obtain ⟨o, e, c, d⟩ := st
    exact ⟨o, e, fun v z => by rw [d] at z; cases z⟩
  keep := fun i h h' st k => st.at fun o e => k it (by simp) o e
  item := by
    intro X hP hw hK hc i pins s σ H E I hf st hg
    subst hP hw hK
    obtain ⟨xs, x, hq, hx⟩ := hg
    obtain ⟨its, rv, p, hz⟩ := I.tuple hq
    obtain ⟨u, hu, ru⟩ := rv.get hx
    obtain ⟨f0, f1, f2, f3, f4, f5⟩ := hf it (by simp)
    refine wpAny_pyNext_tuple_item st (show s.heap.IsTuple a its.toArray from p) (x := u) (by simpa using hu) fun h' st' sb => ?_
    have I1 : Inv X pins σ H { s with heap := h' } := I.turned (t' := s.toks) (fun b o hb e => (sb.2 b hb).trans e) f0 f1 f3 f4 f5
    obtain ⟨o, e, c, d⟩ := id st'
    exact ⟨u, rfl, go_of (s := { s with heap := h' }) e c d (by decide) ⟨x, H, I1, ru, ⟨rfl, fun ys hy => by rw [I.tuple_inj hy hq]; exact hx⟩, st', fun b hb => (hf b hb).1⟩⟩
  done := by
    intro X hP hw hK hc i pins s σ H E I hf st hg
    subst hP hw hK
    obtain ⟨xs, hq, hx⟩ := hg
    obtain ⟨its, rv, p, hz⟩ := I.tuple hq
    obtain ⟨f0, f1, f2, f3, f4, f5⟩ := hf it (by simp)
    have hl := rv.length
    exact wpAny_pyNext_tuple_end (I.ok.hd hc) st (show s.heap.IsTuple a its.toArray from p) (by simp; omega) fun h' eb => ⟨rfl, I.turned (t' := s.toks) (fun b o hb e => eb b o hb e) f0 f1 f3 f4 f5⟩
  self := fun _ _ _ _ _ st h => wpAny_pyIter_tupleiter st h
theorem turn_range {P : Program} {w : World} {K : PySem.W.Frag} {tg : Expr} (it : Addr) (lo : Int) (n : Nat) : Turn P w K tg (Itr lo n) [it] it (fun i h => IsRangeIter h it (lo + (i : Nat) * 1) ((n : Int) - (i : Nat)) 1) where
  mem := by simp
  obj := fun i h st b hb => by
    have e : b = it := by simpa using hb
    subst e
    exact ⟨_, st, fun v z => by
      have z' : Data.fields _ = Data.cell v := z
      cases z'⟩
  keep := fun i h h' st k => k it (by simp) _ st
  item := by
    intro X hP hw hK hc i pins s σ H E I hf st hg
    subst hP hw hK
    obtain ⟨f0, f1, f2, f3, f4, f5⟩ := hf it (by simp)
    have W := Walks.range (prog := X.prog) (w := X.w) (I.ok.hd hc) it lo 1 n
    refine W.item i s _ _ hg st fun v h' tk hv st' kk => ?_
    obtain ⟨t, rfl⟩ := hv
    have I1 : Inv X pins σ H { s with heap := h', toks := tk } := I.turned (fun b o hb e => kk b o (by simpa using hb) e) f0 f1 f3 f4 f5
    refine ⟨_, rfl, go_of (s := { s with heap := h', toks := tk }) (n := "range_iterator") st' rfl rfl (by decide) ⟨.int (lo + i), H, I1, ⟨t, ?_⟩, ⟨rfl, rfl⟩, st', fun b hb => (hf b hb).1⟩⟩
    rw [Int.mul_one]
  done := by
    intro X hP hw hK hc i pins s σ H E I hf st hg
    subst hP hw hK
    obtain ⟨f0, f1, f2, f3, f4, f5⟩ := hf it (by simp)
    exact wpAny_pyNext_range_end (I.ok.hd hc) st (by have : n ≤ i := hg; omega) fun h' eb => ⟨rfl, I.turned (t' := s.toks) (fun b o hb e => eb b o hb e) f0 f1 f3 f4 f5⟩
  self := fun _ _ _ _ _ st h => wpAny_pyIter_rangeiter st h
end L2

namespace L2
open PySem PySem.Spec PyProof.Rows
section
variable {X : Cx} {tg : Expr}
theorem range_it {pins : List (Addr × Obj)} {σ : St} {H : Hp} {s : Shared} {R : It → Hp → Prop} {E : Value → Shared → Prop} {lo hi : Int} {t u v : Tok} {tk : Nat} (I : Inv X pins σ H s) (h1 : -(2 ^ 62) ≤ lo) (h2 : lo < 2 ^ 62) (h3 : -(2 ^ 62) ≤ hi) (h4 : hi < 2 ^ 62)
    (q : R (Itr lo (hi - lo).toNat) H) : wpAny (model X.prog X.w) X.A (pyIter (.ref s.heap.objs.size)) (PIE X pins σ tg R) E { s with heap := s.heap.push { cls := .type "range", data := .fields #[.int lo t, .int hi u, .int 1 v] }, toks := tk } := by
  refine wpAny_pyIter_range (IsRange.new ..) (small_one h1 h2 h3 h4) ?_
  have I1 : Inv X pins σ H { s with heap := s.heap.push { cls := .type "range", data := .fields #[.int lo t, .int hi u, .int 1 v] }, toks := tk } := I.kept fun b o e => Heap.get?_push_of_some _ e
  refine ⟨(s.heap.push { cls := .type "range", data := .fields #[.int lo t, .int hi u, .int 1 v] }).objs.size, [(s.heap.push { cls := .type "range", data := .fields #[.int lo t, .int hi u, .int 1 v] }).objs.size], _, _, H, rfl,
    I1.kept (t' := tk) fun b o e => Heap.get?_push_of_some _ e, turn_range _ lo (hi - lo).toNat, ?_, fun b hb => ?_, q⟩
  · have e1 : lo + ((0 : Nat) : Int) * 1 = lo := by simp
    have e2 : (((hi - lo).toNat : Nat) : Int) - ((0 : Nat) : Int) = Builtin.Range.rangeSize lo hi 1 := by rw [rangeSize_one]; split <;> omega
    show IsRangeIter _ _ (lo + ((0 : Nat) : Int) * 1) ((((hi - lo).toNat : Nat) : Int) - ((0 : Nat) : Int)) 1
    rw [e1, e2]
    exact Heap.get?_push_size _ rfl
  · have e : b = (s.heap.push { cls := .type "range", data := .fields #[.int lo t, .int hi u, .int 1 v] }).objs.size := by simpa using hb
    subst e
    exact I1.fpOk (Nat.le_refl _) (I1.hok.fresh (Nat.le_refl _))
noncomputable def iRng1 (ta : TA) : TI := fun σ H R => ta σ H fun vs H1 => ∃ j : Int, vs = [.int j] ∧ -(2 ^ 62) ≤ j ∧ j < 2 ^ 62 ∧ R (Itr 0 j.toNat) H1
noncomputable def iRng2 (ta : TA) : TI := fun σ H R => ta σ H fun vs H1 => ∃ i j : Int, vs = [.int i, .int j] ∧ (-(2 ^ 62) ≤ i ∧ i < 2 ^ 62 ∧ -(2 ^ 62) ≤ j ∧ j < 2 ^ 62) ∧ R (Itr i (j - i).toNat) H1
theorem pi_range1 {a : Expr} {ta : TA} {p pos : Pos} (hg : Gl X "range") (hm : X.mg "range" = none) (ha : PA X [a] ta) (hs : starEach [a] X.env = [(false, eval a X.env)] := by rfl) : PI X tg (.Call (.Name "range" p) [a] [] pos) (iRng1 ta) := by
  intro pins s σ H R I h
  refine Call_ (ld_blt I hg hm boot_range (PyProof.Rows.callWith_type1 (thn (ha pos pins s σ H _ I h) fun us s1 ⟨vs, H1, I1, r1, q1⟩ => ?_) hs rfl))
  obtain ⟨j, e, q1, q2, q⟩ := q1
  subst e
  cases r1 with
  | cons r rr =>
    cases rr
    obtain ⟨t, rfl⟩ := r
    exact call_range_1 (range_it I1 (by omega) (by omega) q1 q2 (by simpa using q))
theorem pi_range2 {a b : Expr} {ta : TA} {p pos : Pos} (hg : Gl X "range") (hm : X.mg "range" = none) (ha : PA X [a, b] ta) (hs : starEach [a, b] X.env = [(false, eval a X.env), (false, eval b X.env)] := by rfl) (hs2 : starEach [b] X.env = [(false, eval b X.env)] := by rfl) :
    PI X tg (.Call (.Name "range" p) [a, b] [] pos) (iRng2 ta) := by
  intro pins s σ H R I h
  refine Call_ (ld_blt I hg hm boot_range (PyProof.Rows.callWith_type1 (thn (ha pos pins s σ H _ I h) fun us s1 ⟨vs, H1, I1, r1, q1⟩ => ?_) (by rw [hs, hs2]) (by rw [hs2]; rfl)))
  obtain ⟨i, j, e, ⟨q1, q2, q3, q4⟩, q⟩ := q1
  subst e
  cases r1 with
  | cons r rr =>
    cases rr with
    | cons r' rr =>
      cases rr
      obtain ⟨t, rfl⟩ := r
      obtain ⟨t', rfl⟩ := r'
      exact call_range_2 (range_it I1 q1 q2 q3 q4 q)

noncomputable def tFor (wi : TI) (g : TG) (tb : TS) : TS := fun D σ H => wi σ H fun J H1 => ∃ W : Nat → Nat → St → Hp → Prop, (∃ m, W 0 m σ H1) ∧ ∀ i m σ H, W i m σ H →
  (J.stop i H ∧ D.nx σ H) ∨ (J.go i H ∧ ∃ N : St → Hp → Prop, (∀ σ' H', N σ' H' → ∃ m', m' < m ∧ W (i + 1) m' σ' H') ∧ ∀ x H', J.yld i H x H' → g x σ H' fun σ2 H2 => tb { D with nx := N, ct := N, bk := D.nx } σ2 H2)
noncomputable def pinsAt (fp : List Addr) (h : Heap) : List (Addr × Obj) := fp.filterMap fun b => (h.get? b).map fun o => (b, o)
theorem mem_pinsAt {fp : List Addr} {h : Heap} {b : Addr} {o : Obj} (hb : b ∈ fp) (e : h.get? b = some o) : (b, o) ∈ pinsAt fp h := List.mem_filterMap.mpr ⟨b, hb, by rw [e]; rfl⟩
theorem of_pinsAt {fp : List Addr} {h : Heap} {p : Addr × Obj} (hp : p ∈ pinsAt fp h) : p.1 ∈ fp ∧ h.get? p.1 = some p.2 := by
  obtain ⟨b, hb, e⟩ := List.mem_filterMap.mp hp
  cases q : h.get? b with
  | none => rw [q] at e; cases e
  | some o =>
    rw [q] at e
    have e' : (b, o) = p := Option.some.inj e
    subst e'
    exact ⟨hb, q⟩
theorem Inv.pinned {pins : List (Addr × Obj)} {σ : St} {H : Hp} {s : Shared} {fp : List Addr} (I : Inv X pins σ H s) (hf : ∀ b ∈ fp, FpOk X pins H b) (ho : ∀ b ∈ fp, ∃ o, s.heap.get? b = some o ∧ ∀ v, o.data ≠ .cell v) : Inv X (pins ++ pinsAt fp s.heap) σ H s :=
  I.pins_of fun p hp => (List.mem_append.mp hp).elim (fun z => I.pin p (List.mem_append_right _ z)) fun z => by
    obtain ⟨hb, e⟩ := of_pinsAt z
    obtain ⟨f0, f1, f2, _⟩ := hf p.1 hb
    obtain ⟨o, e', d⟩ := ho p.1 hb
    rw [e] at e'; cases e'
    exact ⟨e, f0, f1, f2, d⟩
theorem Inv.unpinned {pins pl : List (Addr × Obj)} {σ : St} {H : Hp} {s : Shared} (I : Inv X (pins ++ pl) σ H s) : Inv X pins σ H s := I.pins_of fun p hp => I.pin p (List.mem_append_right _ (List.mem_append_left _ hp))
theorem ps_for {iter : Expr} {body : List Stmt} {wi : TI} {g : TG} {tb : TS} {pos : Pos} (hp : PassesOwn (model X.prog X.w) X.A X.env X.xe) (hc : X.calm = true) (hi : PI X tg iter wi) (hg : PG X tg g) (hb : PSs X body tb)
    (hs : ∀ x, foldedSetIterable iter X.env x = pure x := by intro _; rfl) : PS X (.For tg iter body [] pos) (tFor wi g tb) := by
  intro pins s σ H D I h
  refine wpAny_For (thn (hi pins s σ H _ I h) fun v s1 h1 => thn h1 fun itv s2 h2 => ?_) hs
  obtain ⟨it, fp, tn, J, H2, e, I2, T, st2, f2, W, ⟨m0, w0⟩, turn⟩ := h2
  subst e
  -- what stays true of the iterator's objects through the loop
  have stat : ∀ {H' : Hp}, (∀ b ∈ fp, H' b = none) → ∀ b ∈ fp, FpOk X pins H' b := fun hn b hb => ⟨hn b hb, (f2 b hb).2⟩
  refine codeAny_forLoop_any (fun n s' => ∃ i σ' H', Inv X pins σ' H' s' ∧ tn i s'.heap ∧ (∀ b ∈ fp, H' b = none) ∧ W i n σ' H') ?_ m0 ⟨0, σ, H2, I2, st2, fun b hb => (f2 b hb).1, w0⟩
  rintro n s3 ⟨i, σ3, H3, I3, st3, fr3, w3⟩
  rcases turn i n σ3 H3 w3 with ⟨stop, qn⟩ | ⟨go, N, hN, step⟩
  · refine wpAny_passesOwn hp (thn (T.done X rfl rfl rfl hc i pins s3 σ3 H3 X.xe I3 (stat fr3) st3 stop) fun r s4 ⟨hr, I4⟩ => ?_)
    subst hr
    exact wpAny_execs_nil ⟨σ3, H3, I4, qn⟩
  · refine wpAny_passesOwn hp (thn (T.item X rfl rfl rfl hc i pins s3 σ3 H3 X.xe I3 (stat fr3) st3 go) fun r s4 ⟨u, hr, h4⟩ => ?_)
    subst hr
    refine wpAny_passesOwn hp (thn h4 fun _ s5 ⟨x, H5, I5, r5, y5, st5, fr5⟩ => ?_)
    have I5' := I5.pinned (stat fr5) (T.obj _ _ st5)
    refine wpAny_passesOwn hp (thn (hg _ s5 σ3 H5 x u _ I5' r5 (step x H5 y5)) fun _ s6 ⟨σ6, H6, I6, q6⟩ => ?_)
    refine wpAny_passesOwn hp (thn (hb _ s6 σ6 H6 _ I6 q6) fun f s7 q7 => ?_)
    have again : ∀ {σ7 : St} {H7 : Hp}, Inv X (pins ++ pinsAt fp s5.heap) σ7 H7 s7 → N σ7 H7 → ∃ m, m < n ∧ ∃ i σ' H', Inv X pins σ' H' s7 ∧ tn i s7.heap ∧ (∀ b ∈ fp, H' b = none) ∧ W i m σ' H' := fun {σ7 H7} I7 n7 => by
      obtain ⟨m', hm, w7⟩ := hN σ7 H7 n7
      refine ⟨m', hm, i + 1, σ7, H7, I7.unpinned, T.keep _ _ _ st5 fun b hb o e => (I7.pin (b, o) (List.mem_append_right _ (List.mem_append_right _ (mem_pinsAt hb e)))).1, fun b hb => ?_, w7⟩
      obtain ⟨o, e, d⟩ := T.obj _ _ st5 b hb
      exact (I7.pin (b, o) (List.mem_append_right _ (List.mem_append_right _ (mem_pinsAt hb e)))).2.1
    cases f with
    | next => obtain ⟨σ7, H7, I7, n7⟩ := q7; exact again I7 n7
    | cont => obtain ⟨σ7, H7, I7, n7⟩ := q7; exact again I7 n7
    | brk => obtain ⟨σ7, H7, I7, q7⟩ := q7; exact ⟨σ7, H7, I7.unpinned, q7⟩
    | ret v => obtain ⟨x7, σ7, H7, I7, r7, q7⟩ := q7; exact ⟨x7, σ7, H7, I7.unpinned, r7, q7⟩
end

end L2

namespace L2
open PySem PySem.Spec PyProof.Rows

noncomputable abbrev R2 := V → V → Hp → VK → Prop
noncomputable def OpR (X : Cx) (f : Value → Value → Sem Value) (r : R2) : Prop :=
  ∀ (pins : List (Addr × Obj)) (s : Shared) (σ : St) (H : Hp) (x y : V) (v u : Value) (Q : VK), Inv X pins σ H s → RelV x v → RelV y u → r x y H Q →
    wpAny (model X.prog X.w) X.A (f v u) (EP X pins σ Q) X.xe s
noncomputable def UnR (X : Cx) (f : Value → Sem Value) (r : V → Hp → VK → Prop) : Prop :=
  ∀ (pins : List (Addr × Obj)) (s : Shared) (σ : St) (H : Hp) (x : V) (v : Value) (Q : VK), Inv X pins σ H s → RelV x v → r x H Q →
    wpAny (model X.prog X.w) X.A (f v) (EP X pins σ Q) X.xe s
noncomputable def CallR (X : Cx) (f : Value) (r : List V → Hp → VK → Prop) : Prop :=
  ∀ (pins : List (Addr × Obj)) (s : Shared) (σ : St) (H : Hp) (xs : List V) (us : List Value) (Q : VK), Inv X pins σ H s → Vals xs us → r xs H Q →
    wpAny (model X.prog X.w) X.A (call f us) (EP X pins σ Q) X.xe s
noncomputable def tOp (r : R2) (ta tb : TE) : TE := fun σ H Q => ta σ H fun x H1 => tb σ H1 fun y H2 => r x y H2 Q
noncomputable def tUn (r : V → Hp → VK → Prop) (ta : TE) : TE := fun σ H Q => ta σ H fun x H1 => r x H1 Q
noncomputable def rI (C : Int → Int → Prop) (g : Int → Int → V) : R2 := fun x y H Q => ∃ i j, x = .int i ∧ y = .int j ∧ C i j ∧ Q (g i j) H
noncomputable def rI0 (g : Int → Int → V) : R2 := fun x y H Q => ∃ i j, x = .int i ∧ y = .int j ∧ Q (g i j) H
noncomputable def rU (g : Int → V) : V → Hp → VK → Prop := fun x H Q => ∃ i, x = .int i ∧ Q (g i) H

section
variable {X : Cx} {a b c : Expr} {ta tb tc : TE} {pos : Pos}

theorem binT (ha : PE X a ta) (hb : PE X b tb) {pins : List (Addr × Obj)} {s : Shared} {σ : St} {H : Hp} {R : V → V → Hp → Prop} (I : Inv X pins σ H s)
    (h : ta σ H fun x H1 => tb σ H1 fun y H2 => R x y H2) {Q : Value → Shared → Prop} {f : Value → Value → Sem Value}
    (hf : ∀ v u s2 x y H2, Inv X pins σ H2 s2 → RelV x v → RelV y u → R x y H2 → wpAny (model X.prog X.w) X.A (f v u) Q X.xe s2) :
    wpAny (model X.prog X.w) X.A (eval a X.env) (fun v s₁ => wpAny (model X.prog X.w) X.A (eval b X.env) (fun u s₂ => wpAny (model X.prog X.w) X.A (f v u) Q X.xe s₂) X.xe s₁) X.xe s := by
  refine thn (ha pins s σ H _ I h) fun v s1 ⟨x, H1, I1, r1, q1⟩ => ?_
  refine thn (hb pins s1 σ H1 _ I1 q1) fun u s2 ⟨y, H2, I2, r2, q2⟩ => ?_
  exact hf v u s2 x y H2 I2 r1 r2 q2

theorem pe_op {op : Operator} {r : R2} (ho : OpR X (binaryOp op) r) (ha : PE X a ta) (hb : PE X b tb) : PE X (.BinOp a op b pos) (tOp r ta tb) := by
  intro pins s σ H Q I h
  exact wpAny_BinOp (binT ha hb I h fun v u s2 x y H2 I2 rx ry q => ho pins s2 σ H2 x y v u Q I2 rx ry q)
theorem pe_un {op : UnaryOp} {r : V → Hp → VK → Prop} (ho : UnR X (unaryOp op) r) (ha : PE X a ta) : PE X (.UnaryOp op a pos) (tUn r ta) := by
  intro pins s σ H Q I h
  exact UnaryOp_ (thn (ha pins s σ H _ I h) fun v s1 ⟨x, H1, I1, r1, q1⟩ => ho pins s1 σ H1 x v Q I1 r1 q1)
theorem opI {f : Value → Value → Sem Value} {C : Int → Int → Prop} {g : Int → Int → Int}
    (rule : ∀ (i j : Int) (t u : Tok) (s : Shared) (Q : Value → Shared → Prop) (E : Value → Shared → Prop), C i j → Q (.int (g i j) s.toks) { s with toks := s.toks + 1 } → wpAny (model X.prog X.w) X.A (f (.int i t) (.int j u)) Q E s) :
    OpR X f (rI C fun i j => .int (g i j)) := by
  intro pins s σ H x y v u Q I rx ry h
  obtain ⟨i, j, rfl, rfl, hc, q⟩ := h
  obtain ⟨t, rfl⟩ := rx
  obtain ⟨t', rfl⟩ := ry
  exact rule i j t t' s _ _ hc ⟨.int (g i j), H, I.tok _, ⟨_, rfl⟩, q⟩
theorem opI0 {f : Value → Value → Sem Value} {g : Int → Int → Int}
    (rule : ∀ (i j : Int) (t u : Tok) (s : Shared) (Q : Value → Shared → Prop) (E : Value → Shared → Prop), Q (.int (g i j) s.toks) { s with toks := s.toks + 1 } → wpAny (model X.prog X.w) X.A (f (.int i t) (.int j u)) Q E s) :
    OpR X f (rI0 fun i j => .int (g i j)) := by
  intro pins s σ H x y v u Q I rx ry h
  obtain ⟨i, j, rfl, rfl, q⟩ := h
  obtain ⟨t, rfl⟩ := rx
  obtain ⟨t', rfl⟩ := ry
  exact rule i j t t' s _ _ ⟨.int (g i j), H, I.tok _, ⟨_, rfl⟩, q⟩
theorem opB0 {f : Value → Value → Sem Value} {g : Int → Int → Bool}
    (rule : ∀ (i j : Int) (t u : Tok) (s : Shared) (Q : Value → Shared → Prop) (E : Value → Shared → Prop), Q (.bool (g i j)) s → wpAny (model X.prog X.w) X.A (f (.int i t) (.int j u)) Q E s) :
    OpR X f (rI0 fun i j => .bl (g i j)) := by
  intro pins s σ H x y v u Q I rx ry h
  obtain ⟨i, j, rfl, rfl, q⟩ := h
  obtain ⟨t, rfl⟩ := rx
  obtain ⟨t', rfl⟩ := ry
  exact rule i j t t' s _ _ ⟨.bl (g i j), H, I, rfl, q⟩

noncomputable def CDiv (i j : Int) : Prop := 0 < j ∧ j < 1073741824
noncomputable def CMul (i j : Int) : Prop := (-(2 ^ 64) < i ∧ i < 2 ^ 64) ∨ (-(2 ^ 64) < j ∧ j < 2 ^ 64)
theorem CMul.ok {i j : Int} (h : CMul i j) : IntMulOk i j := by
  rcases h with ⟨h1, h2⟩ | ⟨h1, h2⟩
  · exact .of_left (intBits_le_64 h1 h2)
  · exact .of_right (intBits_le_64 h1 h2)
theorem op_add : OpR X (binaryOp .Add) (rI0 fun i j => .int (i + j)) := opI0 fun _ _ _ _ _ _ _ q => add_int q
theorem op_sub : OpR X (binaryOp .Sub) (rI0 fun i j => .int (i - j)) := opI0 fun _ _ _ _ _ _ _ q => sub_int q
theorem op_mul : OpR X (binaryOp .Mult) (rI CMul fun i j => .int (i * j)) := opI fun _ _ _ _ _ _ _ hc q => mul_int q hc.ok
theorem op_fdiv : OpR X (binaryOp .FloorDiv) (rI CDiv fun i j => .int (i / j)) := opI fun i j _ _ _ _ _ hc q => by
  have h1 : (0 : Int) < j := hc.1
  have h2 : j < 1073741824 := hc.2
  exact floordiv_int (by omega) (by rw [Int.fdiv_eq_ediv_of_nonneg i (by omega)]; exact q) (.inl (PyProof.noPylong_small (by omega)))
theorem op_mod : OpR X (binaryOp .Mod) (rI (fun _ j => 0 < j) fun i j => .int (i % j)) := opI fun i j _ _ _ _ _ hc q => by
  have h1 : (0 : Int) < j := hc
  exact mod_int' (by omega) (by rw [Int.fmod_eq_emod_of_nonneg i (by omega)]; exact q)
theorem unI {f : Value → Sem Value} {g : Int → Int}
    (rule : ∀ (i : Int) (t : Tok) (s : Shared) (Q : Value → Shared → Prop) (E : Value → Shared → Prop), Q (.int (g i) s.toks) { s with toks := s.toks + 1 } → wpAny (model X.prog X.w) X.A (f (.int i t)) Q E s) :
    UnR X f (rU fun i => .int (g i)) := by
  intro pins s σ H x v Q I rx h
  obtain ⟨i, rfl, q⟩ := h
  obtain ⟨t, rfl⟩ := rx
  exact rule i t s _ _ ⟨.int (g i), H, I.tok _, ⟨_, rfl⟩, q⟩
theorem un_neg : UnR X (unaryOp .USub) (rU fun i => .int (-i)) := unI fun _ _ _ _ _ q => neg_int q
end

noncomputable def scal : V → V → Bool
  | .non, .non => true | .non, .int _ => true | .int _, .non => true | .non, .bl _ => true | .bl _, .non => true | .non, .str _ => true | .str _, .non => true
  | .int _, .int _ => true | .bl _, .bl _ => true | .str _, .str _ => true | .byt _, .byt _ => true
  | .int _, .str _ => true | .str _, .int _ => true | .bl _, .str _ => true | .str _, .bl _ => true
  | _, _ => false
noncomputable def rEq : R2 := fun x y H Q => scal x y = true ∧ Q (.bl (decide (x = y))) H
noncomputable def rNe : R2 := fun x y H Q => scal x y = true ∧ Q (.bl (!decide (x = y))) H

theorem dec_int {i j : Int} : decide (V.int i = V.int j) = (i == j) := by
  rw [Bool.eq_iff_iff]
  simp
theorem dec_bl {i j : Bool} : decide (V.bl i = V.bl j) = (i == j) := by
  rw [Bool.eq_iff_iff]
  simp
theorem dec_str {i j : Str} : decide (V.str i = V.str j) = (i == j) := by
  rw [Bool.eq_iff_iff]
  simp
theorem dec_byt {i j : Array UInt8} : decide (V.byt i = V.byt j) = (i.toList == j.toList) := by
  rw [Bool.eq_iff_iff]
  cases i
  cases j
  simp

section
variable {X : Cx} {a b c : Expr} {ta tb tc : TE} {pos : Pos}
theorem fin_bl {pins : List (Addr × Obj)} {σ : St} {H : Hp} {s : Shared} {Q : VK} {k k' : Bool} (I : Inv X pins σ H s) (q : Q (.bl k) H) (e : k = k') : EP X pins σ Q (.bool k') s := by
  subst e
  exact ⟨.bl k, H, I, rfl, q⟩
theorem op_eq : OpR X (compareOp .Eq) rEq := by
  intro pins s σ H x y v u Q I rx ry h
  obtain ⟨hs, q⟩ := h
  cases x with
  | non =>
    cases rx
    cases y with
    | non => cases ry; exact PySem.EqNone.eq_none_none (fin_bl I q (by simp))
    | bl j => cases ry; exact PySem.EqNone.eq_none_bool (fin_bl I q (by simp))
    | int j => obtain ⟨t', rfl⟩ := ry; exact PySem.EqNone.eq_none_int (fin_bl I q (by simp))
    | str j => obtain ⟨t', rfl⟩ := ry; exact PySem.EqNone.eq_none_str (fin_bl I q (by simp))
    | _ => exact absurd (show false = true from hs) Bool.false_ne_true
  | bl i =>
    cases rx
    cases y with
    | non => cases ry; exact PySem.EqNone.eq_bool_none (fin_bl I q (by simp))
    | bl j => cases ry; exact eq_bool (fin_bl I q dec_bl)
    | str j => obtain ⟨t', rfl⟩ := ry; exact PySem.EqMixed.eq_bool_str (fin_bl I q (by simp))
    | _ => exact absurd (show false = true from hs) Bool.false_ne_true
  | int i =>
    obtain ⟨t, rfl⟩ := rx
    cases y with
    | non => cases ry; exact PySem.EqNone.eq_int_none (fin_bl I q (by simp))
    | int j => obtain ⟨t', rfl⟩ := ry; exact eq_int (fin_bl I q dec_int)
    | str j => obtain ⟨t', rfl⟩ := ry; exact PySem.EqMixed.eq_int_str (fin_bl I q (by simp))
    | _ => exact absurd (show false = true from hs) Bool.false_ne_true
  | str i =>
    obtain ⟨t, rfl⟩ := rx
    cases y with
    | non => cases ry; exact PySem.EqNone.eq_str_none (fin_bl I q (by simp))
    | bl j => cases ry; exact PySem.EqMixed.eq_str_bool (fin_bl I q (by simp))
    | int j => obtain ⟨t', rfl⟩ := ry; exact PySem.EqMixed.eq_str_int (fin_bl I q (by simp))
    | str j => obtain ⟨t', rfl⟩ := ry; exact eq_str (fin_bl I q dec_str)
    | _ => exact absurd (show false = true from hs) Bool.false_ne_true
  | byt i =>
    obtain ⟨t, rfl⟩ := rx
    cases y with
    | byt j => obtain ⟨t', rfl⟩ := ry; exact PySem.W.eq_bytes (fin_bl I q dec_byt)
    | _ => exact absurd (show false = true from hs) Bool.false_ne_true
  | _ => cases y <;> exact absurd (show false = true from hs) Bool.false_ne_true
theorem op_ne : OpR X (compareOp .NotEq) rNe := by
  intro pins s σ H x y v u Q I rx ry h
  obtain ⟨hs, q⟩ := h
  cases x with
  | non =>
    cases rx
    cases y with
    | non => cases ry; exact PySem.EqNone.ne_none_none (fin_bl I q (by simp))
    | bl j => cases ry; exact PySem.EqNone.ne_none_bool (fin_bl I q (by simp))
    | int j => obtain ⟨t', rfl⟩ := ry; exact PySem.EqNone.ne_none_int (fin_bl I q (by simp))
    | str j => obtain ⟨t', rfl⟩ := ry; exact PySem.EqNone.ne_none_str (fin_bl I q (by simp))
    | _ => exact absurd (show false = true from hs) Bool.false_ne_true
  | bl i =>
    cases rx
    cases y with
    | non => cases ry; exact PySem.EqNone.ne_bool_none (fin_bl I q (by simp))
    | bl j => cases ry; exact ne_bool (fin_bl I q (congrArg not dec_bl))
    | str j => obtain ⟨t', rfl⟩ := ry; exact PySem.EqMixed.ne_bool_str (fin_bl I q (by simp))
    | _ => exact absurd (show false = true from hs) Bool.false_ne_true
  | int i =>
    obtain ⟨t, rfl⟩ := rx
    cases y with
    | non => cases ry; exact PySem.EqNone.ne_int_none (fin_bl I q (by simp))
    | int j => obtain ⟨t', rfl⟩ := ry; exact ne_int (fin_bl I q (congrArg not dec_int))
    | str j => obtain ⟨t', rfl⟩ := ry; exact PySem.EqMixed.ne_int_str (fin_bl I q (by simp))
    | _ => exact absurd (show false = true from hs) Bool.false_ne_true
  | str i =>
    obtain ⟨t, rfl⟩ := rx
    cases y with
    | non => cases ry; exact PySem.EqNone.ne_str_none (fin_bl I q (by simp))
    | bl j => cases ry; exact PySem.EqMixed.ne_str_bool (fin_bl I q (by simp))
    | int j => obtain ⟨t', rfl⟩ := ry; exact PySem.EqMixed.ne_str_int (fin_bl I q (by simp))
    | str j => obtain ⟨t', rfl⟩ := ry; exact ne_str (fin_bl I q (congrArg not dec_str))
    | _ => exact absurd (show false = true from hs) Bool.false_ne_true
  | byt i =>
    obtain ⟨t, rfl⟩ := rx
    cases y with
    | byt j => obtain ⟨t', rfl⟩ := ry; exact PySem.W.ne_bytes (fin_bl I q (congrArg not dec_byt))
    | _ => exact absurd (show false = true from hs) Bool.false_ne_true
  | _ => cases y <;> exact absurd (show false = true from hs) Bool.false_ne_true

theorem op_lt : OpR X (compareOp .Lt) (rI0 fun i j => .bl (decide (i < j))) := opB0 fun _ _ _ _ _ _ _ q => lt_int q
theorem op_le : OpR X (compareOp .LtE) (rI0 fun i j => .bl (decide (i ≤ j))) := opB0 fun _ _ _ _ _ _ _ q => le_int q
theorem op_gt : OpR X (compareOp .Gt) (rI0 fun i j => .bl (decide (j < i))) := opB0 fun _ _ _ _ _ _ _ q => gt_int q
theorem op_isN : OpR X (compareOp .Is) (fun x y H Q => y = .non ∧ Q (.bl (decide (x = .non))) H) := by
  intro pins s σ H x y v u Q I rx ry h
  obtain ⟨rfl, q⟩ := h
  cases ry
  refine is_none_gen (fin_bl I q ?_)
  cases x <;> first
    | (cases rx; rfl)
    | (obtain ⟨t, rfl⟩ := rx; rfl)
theorem op_notN : OpR X (compareOp .IsNot) (fun x y H Q => y = .non ∧ Q (.bl (!decide (x = .non))) H) := by
  intro pins s σ H x y v u Q I rx ry h
  obtain ⟨rfl, q⟩ := h
  cases ry
  refine isnot_none_gen (fin_bl I q ?_)
  cases x <;> first
    | (cases rx; rfl)
    | (obtain ⟨t, rfl⟩ := rx; rfl)

theorem OpR.or {f : Value → Value → Sem Value} {r r' : R2} (h : OpR X f r) (h' : OpR X f r') : OpR X f (fun x y H Q => r x y H Q ∨ r' x y H Q) := by
  intro pins s σ H x y v u Q I rx ry q
  rcases q with q | q
  · exact h pins s σ H x y v u Q I rx ry q
  · exact h' pins s σ H x y v u Q I rx ry q

theorem nomark (b : Expr) {op : CmpOp} (h : op ≠ .In := by decide) (h2 : op ≠ .NotIn := by decide) : behindInMarks op b = false := by
  have e1 : (op == CmpOp.In) = false := by cases op <;> first | rfl | exact absurd rfl h
  have e2 : (op == CmpOp.NotIn) = false := by cases op <;> first | rfl | exact absurd rfl h2
  cases b <;> simp [behindInMarks, e1, e2]
theorem pe_cmpR {op : CmpOp} {r : R2} (ho : OpR X (compareOp op) r) (ha : PE X a ta) (hb : PE X b tb) (hm : behindInMarks op b = false) : PE X (.Compare a [op] [b] pos) (tOp r ta tb) := by
  intro pins s σ H Q I h
  exact wpAny_Compare1 (binT ha hb I h fun v u s2 x y H2 I2 rx ry q => ho pins s2 σ H2 x y v u Q I2 rx ry q) hm
noncomputable def tTest (t : TE) : TT := fun σ H Q => t σ H fun x H' => ∃ k, x = .bl k ∧ Q k H'
theorem pt_cmpR {op : CmpOp} {r : R2} (ho : OpR X (compareOp op) r) (ha : PE X a ta) (hb : PE X b tb) (hm : behindInMarks op b = false) : PT X (.Compare a [op] [b] pos) (tTest (tOp r ta tb)) := by
  intro pins s σ H Q I h
  refine wpAny_isTrue_Compare1 (thn (ha pins s σ H _ I h) fun v s1 ⟨x, H1, I1, r1, q1⟩ => thn (hb pins s1 σ H1 _ I1 q1) fun u s2 ⟨y, H2, I2, r2, q2⟩ =>
    thn (ho pins s2 σ H2 x y v u _ I2 r1 r2 q2) fun c s3 ⟨z, H3, I3, r3, k, e, q3⟩ => ?_) hm
  subst e
  cases r3
  exact wpAny_truthy_bool ⟨H3, I3, q3⟩
noncomputable def tChain (r r' : R2) (ta tb tc : TE) : TE := fun σ H Q => ta σ H fun x H1 => tb σ H1 fun y H2 => r x y H2 fun z H3 => ∃ k, z = .bl k ∧
  (if k = true then tc σ H3 fun w' H4 => r' y w' H4 Q else Q (.bl false) H3)
theorem pe_chain {op op' : CmpOp} {r r' : R2} (ho : OpR X (compareOp op) r) (ho' : OpR X (compareOp op') r') (ha : PE X a ta) (hb : PE X b tb) (hc : PE X c tc)
    (hm : lastMarks [op, op'] [b, c] = false := by with_unfolding_all rfl) : PE X (.Compare a [op, op'] [b, c] pos) (tChain r r' ta tb tc) := by
  intro pins s σ H Q I h
  refine Compare_chain (thn (ha pins s σ H _ I h) fun v s1 ⟨x, H1, I1, r1, q1⟩ => chain_link (thn (hb pins s1 σ H1 _ I1 q1) fun u s2 ⟨y, H2, I2, r2, q2⟩ =>
    thn (ho pins s2 σ H2 x y v u _ I2 r1 r2 q2) fun d s3 ⟨z, H3, I3, r3, k, e, q3⟩ => ?_)) hm
  subst e
  cases r3
  refine wpAny_truthy_bool ?_
  cases k with
  | false => exact ite_ff ⟨.bl false, H3, I3, rfl, q3⟩
  | true => exact ite_tt (chain_last (thn (hc pins s3 σ H3 _ I3 q3) fun w' s4 ⟨z', H4, I4, r4, q4⟩ => ho' pins s4 σ H4 y z' u w' Q I4 r2 r4 q4))
theorem line63 : (sizeLine : Nat) < 2 ^ 63 := by rw [sizeLine_eq]; decide
theorem vals1 {x : V} {us : List Value} (r : Vals [x] us) : ∃ u, us = [u] ∧ RelV x u := by
  cases r with
  | cons r1 r2 => cases r2; exact ⟨_, rfl, r1⟩
theorem vals2 {x y : V} {us : List Value} (r : Vals [x, y] us) : ∃ u w', us = [u, w'] ∧ RelV x u ∧ RelV y w' := by
  cases r with
  | cons r1 r2 =>
    cases r2 with
    | cons r3 r4 => cases r4; exact ⟨_, _, rfl, r1, r3⟩
theorem call_int1 : CallR X (.type "int") (fun xs H Q => (∃ i, xs = [.int i] ∧ Q (.int i) H) ∨ ∃ k, xs = [.bl k] ∧ Q (.int (if k then 1 else 0)) H) := by
  intro pins s σ H xs us Q I r h
  rcases h with ⟨i, rfl, q⟩ | ⟨k, rfl, q⟩
  · obtain ⟨u, rfl, t, rfl⟩ := vals1 r
    exact call_int_int ⟨.int i, H, I, ⟨_, rfl⟩, q⟩
  · obtain ⟨u, rfl, r1⟩ := vals1 r
    cases r1
    exact call_int_bool ⟨.int (if k then 1 else 0), H, I.tok _, ⟨_, rfl⟩, q⟩
end
end L2

namespace L2
open PySem PySem.Spec PyProof.Rows

structure ObjM (h : Heap) (x dx C : Addr) (mA : Str → Option Value) : Prop where
  obj : h.get? x = some (PySem.W.instObj C dx)
  ns : h.Ns1 dx mA
  ne : dx ≠ x

theorem lookIn_ns {h : Heap} {dx : Addr} {mA : Str → Option Value} (n : h.Ns1 dx mA) : ∃ od, h.get? dx = some od ∧ ∀ name, PySem.W.lookIn name od = some (mA name) := by
  obtain ⟨o, es, ep, ho, hd, hk, _, hm⟩ := n
  refine ⟨o, ho, fun name => ?_⟩
  have e := hm name
  unfold nsFind findBy at e
  rw [← Array.find?_toList] at e
  unfold PySem.W.lookIn
  rw [hd]
  dsimp only
  split
  · rename_i y q
    rw [q] at e
    exact congrArg some e
  · rename_i q
    rw [q] at e
    have a : es.toList.any (·.refKey) = false := by
      rw [List.any_eq_false]
      intro y hy
      obtain ⟨z, t, hkey⟩ := hk y (Array.mem_toList_iff.mp hy)
      simp [DictEntry.refKey, hkey]
    have a' : ¬ es.toList.any (·.refKey) = true := by rw [a]; exact Bool.false_ne_true
    rw [if_neg a']
    exact congrArg some e

theorem ObjM.look {h : Heap} {x dx C : Addr} {mA : Str → Option Value} (I : ObjM h x dx C mA) : ∃ od, PySem.W.InstAt h x (PySem.W.instObj C dx) C (some od) ∧ ∀ name, PySem.W.lookIn name od = some (mA name) :=
  let ⟨od, ho, hl⟩ := lookIn_ns I.ns
  ⟨od, ⟨I.obj, rfl, rfl, ho⟩, hl⟩

section
variable {prog : Program} {w : World} {A : Around} {E : Value → Shared → Prop} {s : Shared} {K : PySem.W.Frag} {x dx C f : Addr} {mA : Str → Option Value} {name : Str} {v : Value}

theorem get_map {expr : Bool} {Q : Value → Shared → Prop} (X : K.In s.heap) (I : ObjM s.heap x dx C mA) (hg : PySem.W.plainGet K C name = true) (hh : PySem.W.hasDictIn K C = true)
    (ha : PySem.W.findIn K (.ref C) name = some none) (hv : mA name = some v) (hv' : PySem.W.handedIn v = true) (h : Q v { s with toks := s.toks + 1 }) :
    wpAny (model prog w) A (getAttr (.ref x) name expr) Q E s := by
  obtain ⟨od, J, hl⟩ := I.look
  exact PySem.W.get_value X J (PySem.W.plainGet_of hg).1 (PySem.W.findObj_own hh ha rfl (by rw [hl, hv])) hv' h

theorem set_map {ns : List Str} {Q : Unit → Shared → Prop} (X : K.In s.heap) (I : ObjM s.heap x dx C mA)
    (hs : PySem.W.findIn K (.ref C) "__setattr__" = some (some (.builtin "object.__setattr__"))) (hp : PySem.W.plainOver K C = true) (ht : PySem.W.takerIn K C name = some none) (hh : PySem.W.hasDictIn K C = true)
    (hw : PySem.Within mA ns) (hsz : ns.length ≤ sizeLine)
    (h : ∀ h', ObjM h' x dx C (fun y => if y = name then some v else mA y) → Heap.SameBut dx s.heap h' → Q () { s with heap := h', toks := s.toks + 2 }) :
    wpAny (model prog w) A (setAttr (.ref x) name v) Q E s := by
  obtain ⟨od, J, hl⟩ := I.look
  refine PySem.W.set_plain X J hs (PySem.W.osa_open (s := { s with toks := s.toks + 1 }) (r := none) X J hp ht fun b => ?_)
  obtain ⟨cd, hc, hd'⟩ := PySem.W.any_some hh
  have hx : s.heap.get? x = some ⟨.ref C, some dx, .plain, #[]⟩ := I.obj
  refine wpAny_bind (wpAny_pure (wpAny_bind (wpAny_bind (wpAny_loadPart hx (wpAny_bind (PySem.W.Looks.here (s := { s with toks := s.toks + 1 }) (PySem.W.looks_clsIn X hc) ?_))))))
  rw [hd']
  refine wpAny_pure (a := some dx) (wpAny_bind (wpAny_pure (wpAny_bind ?_)))
  refine wpAny_nsSet1 (s := { s with toks := s.toks + 1 }) I.ns fun h' hn2 hs2 => ?_
  obtain ⟨oD, esD, epD, hoD, hdD, hcD⟩ := hn2.count (PySem.Within.cons name v hw)
  refine wpAny_bind (wpAny_lookBehind hoD (by rw [hdD]; exact pastItsLine_dict (Nat.le_trans hcD (by rw [List.length_cons]; omega))) ?_)
  exact wpAny_pure (h _ ⟨(hs2.2 _ (Ne.symm I.ne)).trans I.obj, hn2, I.ne⟩ hs2)

theorem make_map {R : Result → Shared → Prop} {vs : List Value} {kw : List (Str × Value)} (X : K.In s.heap) (hm : PySem.W.makesIn K C = true)
    (hi : PySem.W.findIn K (.ref C) "__init__" = some (some (.ref f))) (hf : PySem.W.typeIn K (.ref f) = some (.type "function"))
    (h : codeAny (model prog w) (A.under (.builtin "type.__call__" ⟨.ref C :: vs, kw⟩)) (.call (.ref f) ⟨.ref (s.heap.objs.size + 1) :: vs, kw⟩) (PySem.W.InitBack (s.heap.objs.size + 1) R)
      { s with heap := (s.heap.push PySem.W.emptyDict).push (PySem.W.instObj C s.heap.objs.size) }) :
    codeAny (model prog w) A (.call (.ref C) ⟨vs, kw⟩) R s := by
  obtain ⟨hh, g, d, t, os⟩ := s
  exact PySem.W.make_core (PySem.W.makes_of X hm) (PySem.W.looks_findIn X hi) (fun self => PySem.W.bind_fn X self hf) (.inl rfl) h
end

noncomputable def putF (f : Str) (v : V) : List (Str × V) → List (Str × V)
  | [] => [(f, v)]
  | (g, x) :: r => if g = f then (g, v) :: r else (g, x) :: putF f v r
theorem lookup_putF (f g : Str) (v : V) : ∀ fs : List (Str × V), (putF f v fs).lookup g = if g = f then some v else fs.lookup g
  | [] => by
    show List.lookup g [(f, v)] = _
    by_cases h : g = f
    · have hb : (g == f) = true := beq_iff_eq.mpr h
      simp only [List.lookup, hb, if_pos h]
    · have hb : (g == f) = false := beq_eq_false_iff_ne.mpr h
      simp only [List.lookup, hb, if_neg h]
  | (k, x) :: r => by
    have ih := lookup_putF f g v r
    rw [show putF f v ((k, x) :: r) = (if k = f then (k, v) :: r else (k, x) :: putF f v r) from rfl]
    by_cases hk : k = f
    · rw [if_pos hk]
      by_cases h : g = k
      · have hb : (g == k) = true := beq_iff_eq.mpr h
        simp only [List.lookup, hb, if_pos (h.trans hk)]
      · have hb : (g == k) = false := beq_eq_false_iff_ne.mpr h
        simp only [List.lookup, hb, if_neg (fun e : g = f => h (e.trans hk.symm))]
    · rw [if_neg hk]
      by_cases h : g = k
      · have hb : (g == k) = true := beq_iff_eq.mpr h
        simp only [List.lookup, hb, if_neg (fun e : g = f => hk (h.symm.trans e))]
      · have hb : (g == k) = false := beq_eq_false_iff_ne.mpr h
        simp only [List.lookup, hb]
        exact ih
theorem keys_putF (f : Str) (v : V) : ∀ fs : List (Str × V), f ∈ (putF f v fs).map (·.1) ∧ ∀ g, g ∈ fs.map (·.1) → g ∈ (putF f v fs).map (·.1)
  | [] => ⟨by simp [putF], fun g h => by simp at h⟩
  | (k, x) :: r => by
    obtain ⟨i1, i2⟩ := keys_putF f v r
    rw [show putF f v ((k, x) :: r) = (if k = f then (k, v) :: r else (k, x) :: putF f v r) from rfl]
    by_cases hk : k = f
    · rw [if_pos hk]
      subst hk
      exact ⟨by simp, fun g h => by simpa using h⟩
    · rw [if_neg hk]
      refine ⟨?_, fun g h => ?_⟩
      · rw [List.map_cons]
        exact List.mem_cons_of_mem _ i1
      · rw [List.map_cons] at h ⊢
        rcases List.mem_cons.mp h with e | e
        · exact List.mem_cons.mpr (.inl e)
        · exact List.mem_cons_of_mem _ (i2 g e)
theorem length_putF (f : Str) (v : V) : ∀ fs : List (Str × V), (putF f v fs).length ≤ fs.length + 1
  | [] => by simp [putF]
  | (k, x) :: r => by
    have ih := length_putF f v r
    rw [show putF f v ((k, x) :: r) = (if k = f then (k, v) :: r else (k, x) :: putF f v r) from rfl]
    by_cases hk : k = f
    · rw [if_pos hk, List.length_cons, List.length_cons]; omega
    · rw [if_neg hk, List.length_cons, List.length_cons]; omega

theorem RelO.some_of {v : V} {o : Option Value} (r : RelO (some v) o) : ∃ u, o = some u ∧ RelV v u := by
  cases o with
  | none => exact (show False from r).elim
  | some u => exact ⟨u, rfl, r⟩
theorem handed_of {v : V} {u : Value} (r : RelV v u) : PySem.W.handedIn u = true := by
  cases v with
  | non => cases (show u = Value.none from r); rfl
  | bl b => cases (show u = Value.bool b from r); rfl
  | int i => obtain ⟨t, e⟩ := (show ∃ t, u = Value.int i t from r); cases e; rfl
  | str x => obtain ⟨t, e⟩ := (show ∃ t, u = Value.str x t from r); cases e; rfl
  | byt b => obtain ⟨t, e⟩ := (show ∃ t, u = Value.bytes b t from r); cases e; rfl
  | flt b => obtain ⟨t, e⟩ := (show ∃ t, u = Value.float b t from r); cases e; rfl
  | ref a => cases (show u = Value.ref a from r); rfl
  | ty n => cases (show u = Value.type n from r); rfl

section
variable {P : Program} {w : World} {H H' : Hp} {h h' : Heap} {a C dx : Addr} {fs fs' : List (Str × V)}
theorem ins_get (hok : HOk P w H h) (e : H a = some (.ins C dx fs)) : ∃ mA, ObjM h a dx C mA ∧ (∀ f, RelO (fs.lookup f) (mA f)) ∧ PySem.Within mA (fs.map (·.1)) ∧ fs.length ≤ 1000 ∧ H dx = some (.own a) := by
  obtain ⟨d, z, ne, ob, mA, n, r, q⟩ := (show ObjOk P w H h a (.ins C dx fs) from hok a _ e)
  exact ⟨mA, ⟨ob, n, ne⟩, r, q, z, d⟩
end

structure Cls (K : PySem.W.Frag) (C : Addr) : Prop where
  pg : PySem.W.plainGet K C Str.empty = true
  hd : PySem.W.hasDictIn K C = true
  po : PySem.W.plainOver K C = true
  sa : PySem.W.findIn K (.ref C) "__setattr__" = some (some (.builtin "object.__setattr__"))
theorem Cls.get {K : PySem.W.Frag} {C : Addr} (c : Cls K C) (f : Str) : PySem.W.plainGet K C f = true := c.pg
noncomputable def NoAttr (K : PySem.W.Frag) (C : Addr) (f : Str) : Prop := PySem.W.findIn K (.ref C) f = some none
theorem NoAttr.taker {K : PySem.W.Frag} {C : Addr} {f : Str} (n : NoAttr K C f) : PySem.W.takerIn K C f = some none := by
  unfold PySem.W.takerIn
  rw [show PySem.W.findIn K (.ref C) f = some none from n]
  rfl
section
variable {X : Cx} {pins : List (Addr × Obj)} {σ : St} {H : Hp} {s : Shared} {a C dx : Addr} {fs : List (Str × V)} {f : Str} {v : V} {A : Around} {E : Value → Shared → Prop}

theorem getattr_ok {b : Bool} {Q : Value → Shared → Prop} (I : Inv X pins σ H s) (e : H a = some (.ins C dx fs)) (c : Cls X.K C) (n : NoAttr X.K C f) (l : fs.lookup f = some v)
    (h : ∀ u s', Inv X pins σ H s' → RelV v u → Q u s') : wpAny (model X.prog X.w) A (getAttr (.ref a) f b) Q E s := by
  obtain ⟨mA, O, r, _, _, _⟩ := ins_get I.hok e
  obtain ⟨u, hu, ru⟩ := RelO.some_of (v := v) (o := mA f) (by rw [← l]; exact r f)
  exact get_map I.kIn O (c.get f) c.hd n hu (handed_of ru) (h u _ (I.tok _) ru)

theorem setattr_ok {y : V} {u : Value} {Q : Unit → Shared → Prop} (I : Inv X pins σ H s) (e : H a = some (.ins C dx fs)) (c : Cls X.K C) (n : NoAttr X.K C f) (hl : fs.length < 1000) (ry : RelV y u)
    (h : ∀ s', Inv X pins σ (upd H a (.ins C dx (putF f y fs))) s' → Q () s') : wpAny (model X.prog X.w) A (setAttr (.ref a) f u) Q E s := by
  obtain ⟨mA, O, r, wi, _, ho⟩ := ins_get I.hok e
  have hz : (fs.map (·.1)).length ≤ sizeLine := by rw [List.length_map, sizeLine_eq]; omega
  refine set_map I.kIn O c.sa c.po n.taker c.hd wi hz fun h' O' sb => h _ ?_
  have hd : ∃ o, h'.get? dx = some o := let ⟨o, _, _, e', _⟩ := O'.ns; ⟨o, e'⟩
  refine I.write (x := a) (e := dx) (by rw [e]; exact True.intro) (.inr ho) (fun b q hb z => (sb.2 b hb).trans z) hd ?_
  refine ⟨by rw [upd_ne O.ne]; exact ho, ?_, O.ne, O'.obj, _, O'.ns, fun g => ?_, fun g hg => ?_⟩
  · have := length_putF f y fs; omega
  · show RelO ((putF f y fs).lookup g) (if g = f then some u else mA g)
    rw [lookup_putF]
    by_cases q : g = f
    · rw [if_pos q, if_pos q]; exact ry
    · rw [if_neg q, if_neg q]; exact r g
  · by_cases q : g = f
    · rw [q]; exact (keys_putF f y fs).1
    · refine (keys_putF f y fs).2 g (wi g fun z => hg ?_)
      show (if g = f then some u else mA g) = none
      rw [if_neg q]; exact z

theorem Inv.made (I : Inv X pins σ H s) : Inv X pins σ (upd (upd H s.heap.objs.size (.own (s.heap.objs.size + 1))) (s.heap.objs.size + 1) (.ins C s.heap.objs.size []))
    { s with heap := (s.heap.push PySem.W.emptyDict).push (PySem.W.instObj C s.heap.objs.size) } := by
  have e1 : (s.heap.push PySem.W.emptyDict).get? s.heap.objs.size = some PySem.W.emptyDict := Heap.get?_push_size s.heap rfl
  have e2 : ((s.heap.push PySem.W.emptyDict).push (PySem.W.instObj C s.heap.objs.size)).get? (s.heap.objs.size + 1) = some (PySem.W.instObj C s.heap.objs.size) := by
    have := Heap.get?_push_size (s.heap.push PySem.W.emptyDict) (o := PySem.W.instObj C s.heap.objs.size) rfl
    rwa [Heap.size_push] at this
  have e3 : (s.heap.push PySem.W.emptyDict).Ns s.heap.objs.size (fun _ => none) := ⟨PySem.W.emptyDict, #[], _, e1, rfl, (fun e he => absurd he (by simp)), fun _ => rfl⟩
  have I1 := I.laid (a := s.heap.objs.size) (o := .own (s.heap.objs.size + 1)) (h' := s.heap.push PySem.W.emptyDict) (t' := s.toks) (fun b u q => Heap.get?_push_of_some _ q) (Nat.le_refl _) ⟨_, e1⟩
  refine I1.laid (a := s.heap.objs.size + 1) (o := .ins C s.heap.objs.size []) (t' := s.toks) (fun b u q => Heap.get?_push_of_some _ q) (Nat.le_of_eq (Heap.size_push _ _)) ?_
  have ne : s.heap.objs.size ≠ s.heap.objs.size + 1 := Nat.ne_of_lt (Nat.lt_succ_self _)
  refine ⟨by rw [upd_ne ne, upd_same], Nat.zero_le _, ne, e2, fun _ => none, (Heap.Ns1.of_empty e3).at fun o q => Heap.get?_push_of_some _ q, fun _ => True.intro, fun y hy => absurd rfl hy⟩

theorem attr_of {prog : Program} {w : World} {env : Env} {e : Expr} {f : Str} {pos : Pos} {s : Shared} {Q : Value → Shared → Prop} (hb : attributeBase e f env (eval e env) = eval e env)
    (h : wpAny (model prog w) A (eval e env) (fun o s₁ => wpAny (model prog w) A (getAttr o f true) Q E s₁) E s) : wpAny (model prog w) A (eval (.Attribute e f pos) env) Q E s :=
  Attribute_any_ h (by rw [arm_eval_Attribute, hb])
end

noncomputable def tFld (K : PySem.W.Frag) (ta : TE) (f : Str) : TE := fun σ H Q => ta σ H fun x H1 => ∃ a C dx fs v, x = .ref a ∧ H1 a = some (.ins C dx fs) ∧ Cls K C ∧ NoAttr K C f ∧ fs.lookup f = some v ∧ Q v H1
noncomputable def sFld (K : PySem.W.Frag) (ta tv : TE) (f : Str) : TS := fun D σ H => tv σ H fun y H1 => ta σ H1 fun x H2 => ∃ a C dx fs, x = .ref a ∧ H2 a = some (.ins C dx fs) ∧ Cls K C ∧ NoAttr K C f ∧ fs.length < 1000 ∧
  D.nx σ (upd H2 a (.ins C dx (putF f y fs)))
section
variable {X : Cx} {o e value : Expr} {f : Str} {pos pos' tpos : Pos} {ta tv : TE}
theorem pe_fld (he : PE X e ta) (hb : attributeBase e f X.env (eval e X.env) = eval e X.env) : PE X (.Attribute e f pos) (tFld X.K ta f) := by
  intro pins s σ H Q I h
  refine attr_of hb (thn (he pins s σ H _ I h) fun u s1 ⟨x, H1, I1, rx, a, C, dx, fs, v, ex, ea, c, n, l, q⟩ => ?_)
  subst ex
  obtain rfl : u = Value.ref a := rx
  exact getattr_ok I1 ea c n l fun u' s2 I2 ru => ⟨v, H1, I2, ru, q⟩
theorem ps_fld (ha : PE X o ta) (hv : PE X value tv) (hs : swapsWith value (some (.Attribute o f pos')) pos.line X.env = pure false) : PS X (.Assign [.Attribute o f pos'] value pos) (sFld X.K ta tv f) := by
  intro pins s σ H D I h
  refine plainObj_wpAny_Assign_Attribute (thn (hv pins s σ H _ I h) fun u s1 ⟨y, H1, I1, ry, q⟩ => thn (ha pins s1 σ H1 _ I1 q) fun ov s2 ⟨x, H2, I2, rx, a, C, dx, fs, ex, ea, c, n, l, q2⟩ => ?_) hs
  subst ex
  obtain rfl : ov = Value.ref a := rx
  exact setattr_ok I2 ea c n l ry fun s3 I3 => ⟨σ, _, I3, q2⟩
end

section
variable {X : Cx} {pins : List (Addr × Obj)} {σ : St} {H : Hp} {s : Shared} {A : Around} {E : Value → Shared → Prop} {Q : Value → Shared → Prop} {c : Value} {b : Bool}
inductive TyOf (K : PySem.W.Frag) (H : Hp) : V → Value → Prop where
  | non : TyOf K H .non (.type "NoneType")
  | bl (x : Bool) : TyOf K H (.bl x) (.type "bool")
  | int (i : Int) : TyOf K H (.int i) (.type "int")
  | str (x : Str) : TyOf K H (.str x) (.type "str")
  | flt (x : UInt64) : TyOf K H (.flt x) (.type "float")
  | lst {a : Addr} {xs : List V} (e : H a = some (.lst xs)) : TyOf K H (.ref a) (.type "list")
  | frz {a : Addr} {o : Obj} {xs : List V} (e : H a = some (.frz o (.lst xs))) : TyOf K H (.ref a) (.type "list")
  | tup {a : Addr} {xs : List V} (e : H a = some (.tup xs)) : TyOf K H (.ref a) (.type "tuple")
  | dK {a : Addr} {kvs : List (Key × V)} (e : H a = some (.dK kvs)) : TyOf K H (.ref a) (.type "dict")
  | dT {a : Addr} {kvs : List (List Key × V)} (e : H a = some (.dT kvs)) : TyOf K H (.ref a) (.type "dict")
  | ins {a C dx : Addr} {fs : List (Str × V)} (e : H a = some (.ins C dx fs)) (cl : Cls K C) (ha : PySem.W.findIn K (.ref C) "__class__" = some (some (.builtin "object.__class__")))
      (hn : PySem.W.specialIn K (.builtin "object.__class__") "__get__" = some (some (.builtin "getset_descriptor.__get__"))) (htk : PySem.W.takesIn K (.builtin "object.__class__") = some true)
      (hm : PySem.W.mroIn K C (.type "object") = some true) : TyOf K H (.ref a) (.ref C)
theorem isinst_ok {x : V} {u t : Value} (I : Inv X pins σ H s) (rx : RelV x u) (ty : TyOf X.K H x t) (e : PySem.W.kitOne X.K t c = some b) (h : ∀ tk, Q (.bool b) { s with toks := tk }) :
    wpAny (model X.prog X.w) A (call (.builtin "isinstance") [u, c]) Q E s := by
  cases ty with
  | non => cases (show u = Value.none from rx); exact PySem.W.kia_one PySem.W.kitx_none I.kIn True.intro e (fun z => nomatch z) h
  | bl y => cases (show u = Value.bool y from rx); exact PySem.W.kia_one PySem.W.kitx_bool I.kIn True.intro e (fun z => nomatch z) h
  | int i => obtain ⟨t, q⟩ := (show ∃ t, u = Value.int i t from rx); cases q; exact PySem.W.kia_one PySem.W.kitx_int I.kIn True.intro e (fun z => nomatch z) h
  | str y => obtain ⟨t, q⟩ := (show ∃ t, u = Value.str y t from rx); cases q; exact PySem.W.kia_one PySem.W.kitx_str I.kIn True.intro e (fun z => nomatch z) h
  | flt y => obtain ⟨t, q⟩ := (show ∃ t, u = Value.float y t from rx); cases q; exact PySem.W.kia_one PySem.W.kitx_float I.kIn True.intro e (fun z => nomatch z) h
  | @lst a xs ea =>
    cases (show u = Value.ref a from rx)
    obtain ⟨_, _, n, _, h1⟩ := (show ObjOk X.prog X.w H s.heap a (.lst xs) from I.hok a _ ea)
    exact PySem.W.kia_one PySem.W.kitx_list I.kIn ⟨_, h1, rfl⟩ e (fun z => nomatch z) h
  | @frz a ob xs ea =>
    cases (show u = Value.ref a from rx)
    obtain ⟨_, _, _, n, _, h1⟩ := (show ObjOk X.prog X.w H s.heap a (.frz ob (.lst xs)) from I.hok a _ ea)
    exact PySem.W.kia_one PySem.W.kitx_list I.kIn ⟨_, h1, rfl⟩ e (fun z => nomatch z) h
  | @tup a xs ea =>
    cases (show u = Value.ref a from rx)
    obtain ⟨_, _, _, p⟩ := (show ObjOk X.prog X.w H s.heap a (.tup xs) from I.hok a _ ea)
    obtain ⟨o, h1, h2, _⟩ := p
    exact PySem.W.kia_one PySem.W.kitx_tuple I.kIn ⟨o, h1, h2⟩ e (fun z => nomatch z) h
  | @dK a kvs ea =>
    cases (show u = Value.ref a from rx)
    obtain ⟨_, _, vs, _, p⟩ := (show ObjOk X.prog X.w H s.heap a (.dK kvs) from I.hok a _ ea)
    obtain ⟨o, es, ep, h1, h2, _⟩ := p
    exact PySem.W.kia_one PySem.W.kitx_dict I.kIn ⟨o, h1, h2.1⟩ e (fun z => nomatch z) h
  | @dT a kvs ea =>
    cases (show u = Value.ref a from rx)
    obtain ⟨_, _, xs, _, o, es, ep, h1, h2, _⟩ := (show ObjOk X.prog X.w H s.heap a (.dT kvs) from I.hok a _ ea)
    exact PySem.W.kia_one PySem.W.kitx_dict I.kIn ⟨o, h1, h2.1⟩ e (fun z => nomatch z) h
  | @ins a C dx fs ea cl ha hn htk hm =>
    cases (show u = Value.ref a from rx)
    obtain ⟨mA, O, _⟩ := ins_get I.hok ea
    obtain ⟨od, J, _⟩ := O.look
    exact PySem.W.kia_one (PySem.W.kitx_own (cl.get _) cl.hd ha hn htk hm) I.kIn J e (fun z => nomatch z) h
end
end L2

namespace L2
open PySem PySem.Spec PyProof.Rows

structure Room (k : Nat) (A : Around) : Prop where
  hd : A.handled = none
  dp : A.depth + 3 * k + 5 < recursionLimit
  un : A.units + 16 * k + 200 < cLine
theorem Room.mono {j k : Nat} {A : Around} (r : Room k A) (h : j ≤ k) : Room j A := ⟨r.hd, by have := r.dp; omega, by have := r.un; omega⟩
theorem Room.deeper {k : Nat} {A : Around} (r : Room (k + 1) A) (env : Env) : Room k (A.deeper env) :=
  ⟨r.hd, by have := r.dp; show A.depth + 1 + 3 * k + 5 < _; omega, by have := r.un; show A.units + 3 + 16 * k + 200 < _; omega⟩
theorem Room.in1 {k : Nat} {A : Around} (r : Room (k + 1) A) : Room k A.in1 :=
  ⟨r.hd, by have := r.dp; show A.depth + 3 * k + 5 < _; omega, by have := r.un; show A.units + 1 + 16 * k + 200 < _; omega⟩
theorem make_depth {A : Around} {C : Addr} {us : List Value} {kw : List (Str × Value)} : (A.under (.builtin "type.__call__" ⟨.ref C :: us, kw⟩)).depth = A.depth + 1 := by
  first | rfl | simp [Around.under, Code.weight, Code.isCreation, Code.isGuard, Code.isCaller, Code.frames, Code.isFrame, guardIds]
theorem make_units {A : Around} {C : Addr} {us : List Value} {kw : List (Str × Value)} : (A.under (.builtin "type.__call__" ⟨.ref C :: us, kw⟩)).units = A.units + 1 := by
  first | rfl | simp [Around.under, Code.cUnits, Code.frames, Code.isFrame]
theorem Room.make {k : Nat} {A : Around} (r : Room (k + 1) A) (C : Addr) (us : List Value) (kw : List (Str × Value)) : Room k (A.under (.builtin "type.__call__" ⟨.ref C :: us, kw⟩)) :=
  ⟨r.hd, by have := r.dp; rw [make_depth]; omega, by have := r.un; rw [make_units]; omega⟩
theorem Room.depth {k : Nat} {A : Around} (r : Room k A) : A.depth < recursionLimit := by have := r.dp; omega
theorem Room.units {k : Nat} {A : Around} (r : Room k A) : A.units + 64 < cLine := by have := r.un; omega
noncomputable def tNil : TA := fun _ H Q => Q [] H
noncomputable def tCons (ta : TE) (tr : TA) : TA := fun σ H Q => ta σ H fun x H1 => tr σ H1 fun xs H2 => Q (x :: xs) H2
section
variable {X : Cx} {e : Expr} {es : List Expr} {te : TE} {t : TA} {pos : Pos}
theorem pa_nil : PA X [] tNil := fun _ _ _ _ H Q I h => Calls.spliced_nil ⟨[], H, I, .nil, h⟩
theorem pa_cons (ha : PE X e te) (hr : PA X es t) (hs : starEach (e :: es) X.env = (false, eval e X.env) :: starEach es X.env := by rfl) : PA X (e :: es) (tCons te t) := by
  intro pos pins s σ H Q I h
  rw [hs]
  show wpAny _ _ (spliced ((false, eval e X.env) :: backTo pos (starEach es X.env))) _ _ s
  refine Calls.spliced_cons (thn (ha pins s σ H _ I h) fun u s1 ⟨x, H1, I1, r1, q1⟩ => ?_)
  exact thn (hr pos pins s1 σ H1 _ I1 q1) fun us s2 ⟨xs, H2, I2, r2, q2⟩ => ⟨x :: xs, H2, I2, .cons r1 r2, q2⟩

noncomputable def tTup (t : TA) : TE := fun σ H Q => t σ H fun xs H1 => xs.length ≤ sizeLine ∧ ∀ p, H1 p = none → Q (.ref p) (upd H1 p (.tup xs))
noncomputable def tLst (t : TA) : TE := fun σ H Q => t σ H fun xs H1 => xs.length ≤ sizeLine ∧ ∀ p, H1 p = none → Q (.ref p) (upd H1 p (.lst xs))
theorem pe_tup {x1} (h : PA X es t) : PE X (.Tuple es x1 pos) (tTup t) := by
  intro pins s σ H Q I hq
  refine wpAny_Tuple_spliced (thn (h pos pins s σ H _ I hq) fun us s1 ⟨xs, H1, I1, r, z, q⟩ => ⟨by rw [← r.length]; exact z, ?_⟩)
  have hf : H1 s1.heap.objs.size = none := I1.hok.fresh (Nat.le_refl _)
  refine ⟨.ref s1.heap.objs.size, upd H1 s1.heap.objs.size (.tup xs), I1.laid (t' := s1.toks) (fun b u e => Heap.get?_push_of_some _ e) (Nat.le_refl _) ?_, rfl, q _ hf⟩
  exact ⟨z, us, r, ⟨_, Heap.get?_push_size _ rfl, rfl, _, rfl⟩⟩
theorem pe_lst (h : PA X es t) : PE X (.List es pos) (tLst t) := by
  intro pins s σ H Q I hq
  refine wpAny_List_spliced (thn (h pos pins s σ H _ I hq) fun us s1 ⟨xs, H1, I1, r, z, q⟩ => ⟨by rw [← r.length]; exact z, ?_⟩)
  have hf : H1 s1.heap.objs.size = none := I1.hok.fresh (Nat.le_refl _)
  refine ⟨.ref s1.heap.objs.size, upd H1 s1.heap.objs.size (.lst xs), I1.laid (t' := s1.toks) (fun b u e => Heap.get?_push_of_some _ e) (Nat.le_refl _) ?_, rfl, q _ hf⟩
  exact ⟨z, us, 0, r, Heap.get?_push_size _ rfl⟩
end

noncomputable abbrev Sp := List V → Hp → VK → XK → Prop
noncomputable abbrev CXT := List Env → Hp → Shared → XK → Value → Shared → Prop

structure Env0 (P : Program) (w : World) (K : PySem.W.Frag) (mg : Str → Option Value) (base : Heap) (A : Around) (outer : List Env) (s : Shared) (H : Hp) : Prop where
  frames : A.frames = some outer
  mod : Mod K mg base
  bs : ∀ b o, base.get? b = some o → s.heap.get? b = some o ∧ H b = none
  bsz : base.objs.size ≤ s.heap.objs.size
  funs : s.heap.FunFrames base outer
  frf : ∀ b ∈ frs outer, H b = none
  hok : HOk P w H s.heap
  bare : AllBare s.gens
noncomputable def CE (outer : List Env) (P : Program) (w : World) (H : Hp) (s : Shared) (Q : VK) (u : Value) (s' : Shared) : Prop :=
  ∃ v H', s'.os = s.os ∧ AllBare s'.gens ∧ Un (frs outer) [] H H' s.heap s'.heap ∧ HOk P w H' s'.heap ∧ RelV v u ∧ Q v H'
noncomputable def CR (CX : CXT) (outer : List Env) (P : Program) (w : World) (H : Hp) (s : Shared) (Q : VK) (E : XK) (r : Result) (s' : Shared) : Prop :=
  match r with
  | .ok (.ret u) => CE outer P w H s Q u s'
  | .ok _ => False
  | .error e => CX outer H s E e s'
structure FnOk (P : Program) (w : World) (K : PySem.W.Frag) (mg : Str → Option Value) (base : Heap) (CX : CXT) (k : Nat) (f : Addr) (fd : FuncData) (ps : List Str) (sp : Sp) : Prop where
  len : ∀ vs H Q E, sp vs H Q E → vs.length = ps.length
  run : ∀ (A : Around) (outer : List Env) (s : Shared) (H : Hp) (args : Args) (us : List Value) (vs : List V) (Q : VK) (E : XK), Room k A → Env0 P w K mg base A outer s H → BindsTo s fd args (ps.zip us) → Vals vs us → sp vs H Q E →
    codeAny (model P w) A (.call (.ref f) args) (CR CX outer P w H s Q E) s
theorem FnOk.mono {P : Program} {w : World} {K : PySem.W.Frag} {mg : Str → Option Value} {base : Heap} {CX : CXT} {j k : Nat} {f : Addr} {fd : FuncData} {ps : List Str} {sp : Sp} (F : FnOk P w K mg base CX j f fd ps sp) (h : j ≤ k) :
    FnOk P w K mg base CX k f fd ps sp := ⟨F.len, fun A outer s H args us vs Q E hr => F.run A outer s H args us vs Q E (hr.mono h)⟩
theorem FnOk.imp {P : Program} {w : World} {K : PySem.W.Frag} {mg : Str → Option Value} {base : Heap} {CX : CXT} {k : Nat} {f : Addr} {fd : FuncData} {ps : List Str} {sp sp' : Sp} (F : FnOk P w K mg base CX k f fd ps sp)
    (h : ∀ vs H Q E, sp' vs H Q E → sp vs H Q E) : FnOk P w K mg base CX k f fd ps sp' :=
  ⟨fun vs H Q E q => F.len vs H Q E (h _ _ _ _ q), fun A outer s H args us vs Q E hr he hb hv hs => F.run A outer s H args us vs Q E hr he hb hv (h _ _ _ _ hs)⟩

theorem Env0.make {P : Program} {w : World} {K : PySem.W.Frag} {mg : Str → Option Value} {base : Heap} {A : Around} {outer : List Env} {s : Shared} {H : Hp} (e : Env0 P w K mg base A outer s H) (C : Addr) (us : List Value) (kw : List (Str × Value)) :
    Env0 P w K mg base (A.under (.builtin "type.__call__" ⟨.ref C :: us, kw⟩)) outer s H := ⟨by first | exact e.frames | (simpa [Around.under, Code.envs, Code.isFrame, pushEnvs] using e.frames), e.mod, e.bs, e.bsz, e.funs, e.frf, e.hok, e.bare⟩
theorem Env0.in1 {P : Program} {w : World} {K : PySem.W.Frag} {mg : Str → Option Value} {base : Heap} {A : Around} {outer : List Env} {s : Shared} {H : Hp} (e : Env0 P w K mg base A outer s H) :
    Env0 P w K mg base A.in1 outer s H := ⟨e.frames, e.mod, e.bs, e.bsz, e.funs, e.frf, e.hok, e.bare⟩

section
variable {X : Cx} {pins : List (Addr × Obj)} {σ : St} {H : Hp} {s s' : Shared}
theorem Inv.env0 (I : Inv X pins σ H s) : Env0 X.prog X.w X.K X.mg X.base X.A X.stack s H :=
  ⟨I.ok.frames, I.ok.mod, I.bs, Nat.le_trans I.ok.bsz I.sz, I.stack, I.stkFree, I.hok, I.bare⟩
theorem Inv.after {Q : VK} {u : Value} (I : Inv X pins σ H s) (h : CE X.stack X.prog X.w H s Q u s') : EP X pins σ Q u s' := by
  obtain ⟨v, H', os, bare, un, hok, r, q⟩ := h
  obtain ⟨hh, g, d, t, os'⟩ := s'
  obtain rfl : os' = s.os := os
  exact ⟨v, H', I.call (h' := hh) (g' := g) (d' := d) (t' := t) (ch := []) un hok bare (fun b z => absurd z (by simp)), r, q⟩
end

noncomputable def Binds (K : PySem.W.Frag) (fd : FuncData) (ps : List Str) (ds : List Value) : Prop :=
  ∀ (s : Shared) (us : List Value), K.In s.heap → (us ++ ds).length = ps.length → BindsTo s fd ⟨us, []⟩ (ps.zip (us ++ ds))
theorem Binds.all {K : PySem.W.Frag} {fd : FuncData} {ps : List Str} (h : ∀ us : List Value, us.length = ps.length → bindArgs fd ⟨us, []⟩ = pure (ps.zip us)) : Binds K fd ps [] := fun s us _ hl => by
  rw [List.append_nil] at hl ⊢
  exact .of_eq (h us hl)

section
variable {X : Cx} {CX : CXT} {k : Nat} {f C : Addr} {fd : FuncData} {ps : List Str} {sp : Sp} {dvs : List V} {ds : List Value} {E : XK} {x m : Str} {p pos apos : Pos} {e o : Expr} {es : List Expr} {ta : TE} {t : TA}

structure Mk (K : PySem.W.Frag) (C f : Addr) : Prop where
  makes : PySem.W.makesIn K C = true
  init : PySem.W.findIn K (.ref C) "__init__" = some (some (.ref f))
  fn : PySem.W.isFn K (.ref f) = true
  kp : PySem.W.keepIn K (.ref C) = true

end

section
variable {X : Cx} {CX : CXT} {k : Nat} {f C : Addr} {fd : FuncData} {ps ks : List Str} {sp : Sp} {E : XK} {x m : Str} {p pos apos kpos : Pos} {e o : Expr} {es : List Expr} {kws : List Keyword} {te ta : TE} {t tk : TA} {nm : Option Str}
variable {g : List Value → List Value → List Value} {gV : List V → List V → List V}
end

structure FnScope (N P : List Str) (sc : Scope) : Prop where
  kind : sc.kind = .function
  co : sc.isCoroutine = false
  gen : sc.isGenerator = false
  nd : N.Nodup
  pre : N.take P.length = P
  par : ∀ x ∈ P, sc.names.lookup x = some .local ∨ sc.names.lookup x = some .cell
  nofree : ∀ y ∈ sc.names, y.2 ≠ .free

theorem bindL_out {kindOf : Str → Option NameKind} {x : Str} : ∀ {binds : List (Str × Value)} {m : Str → Option Value}, (∀ v, (x, v) ∉ binds) → bindL kindOf binds m x = m x
  | [], _, _ => rfl
  | (n, v) :: r, m, h => by
    unfold bindL
    rw [bindL_out fun w hw => h w (List.mem_cons_of_mem _ hw)]
    split
    · have : x ≠ n := by rintro rfl; exact h v List.mem_cons_self
      simp [this]
    · rfl
theorem bindC_out {kindOf : Str → Option NameKind} {x : Str} : ∀ {binds : List (Str × Value)} {m : Str → Option Value}, (∀ v, (x, v) ∉ binds) → bindC kindOf binds m x = m x
  | [], _, _ => rfl
  | (n, v) :: r, m, h => by
    unfold bindC
    rw [bindC_out fun w hw => h w (List.mem_cons_of_mem _ hw)]
    split
    · rfl
    · have : x ≠ n := by rintro rfl; exact h v List.mem_cons_self
      simp [this]
theorem bindL_get {kindOf : Str → Option NameKind} {x : Str} {v : Value} : ∀ {P : List Str} {vs : List Value} {i : Nat} {m : Str → Option Value}, P.Nodup → P[i]? = some x → vs[i]? = some v → kindOf x = some .local →
    bindL kindOf (P.zip vs) m x = some v
  | [], _, _, _, _, h, _, _ => by simp at h
  | _ :: _, [], _, _, _, _, h, _ => by simp at h
  | p :: P, w :: vs, 0, m, nd, h1, h2, hk => by
    simp at h1 h2; subst h1; subst h2
    show bindL kindOf ((p, w) :: P.zip vs) m p = _
    unfold bindL
    rw [bindL_out fun v hv => (List.nodup_cons.mp nd).1 (List.of_mem_zip hv).1, if_pos hk]
    simp
  | p :: P, w :: vs, i + 1, m, nd, h1, h2, hk => by
    show bindL kindOf ((p, w) :: P.zip vs) m x = _
    unfold bindL
    exact bindL_get (i := i) (List.nodup_cons.mp nd).2 (by simpa using h1) (by simpa using h2) hk
theorem bindC_get {kindOf : Str → Option NameKind} {x : Str} {v : Value} : ∀ {P : List Str} {vs : List Value} {i : Nat} {m : Str → Option Value}, P.Nodup → P[i]? = some x → vs[i]? = some v → kindOf x ≠ some .local →
    bindC kindOf (P.zip vs) m x = some v
  | [], _, _, _, _, h, _, _ => by simp at h
  | _ :: _, [], _, _, _, _, h, _ => by simp at h
  | p :: P, w :: vs, 0, m, nd, h1, h2, hk => by
    simp at h1 h2; subst h1; subst h2
    show bindC kindOf ((p, w) :: P.zip vs) m p = _
    unfold bindC
    rw [bindC_out fun v hv => (List.nodup_cons.mp nd).1 (List.of_mem_zip hv).1, if_neg hk]
    simp
  | p :: P, w :: vs, i + 1, m, nd, h1, h2, hk => by
    show bindC kindOf ((p, w) :: P.zip vs) m x = _
    unfold bindC
    exact bindC_get (i := i) (List.nodup_cons.mp nd).2 (by simpa using h1) (by simpa using h2) hk

noncomputable def start (N : List Str) (vs : List V) : St := vs.map some ++ List.replicate (N.length - vs.length) none

noncomputable def cxOf (CX : CXT) (P : Program) (w : World) (K : PySem.W.Frag) (mg : Str → Option Value) (base : Heap) (N : List Str) (qual : Str) (scope : Scope) (f : Addr) (cd : Value) (A : Around) (outer : List Env) (s : Shared) (H : Hp) (E : XK) : Cx where
  prog := P
  w := w
  K := K
  mg := mg
  base := base
  A := A.deeper (envOfC qual scope s.heap.objs.size f cd)
  N := N
  s₀ := s
  H₀ := H
  env := envOfC qual scope s.heap.objs.size f cd
  outer := outer
  stack := envOfC qual scope s.heap.objs.size f cd :: outer
  ex := []
  calm := true
  fn := fun _ => true
  pn := []
  xe := fun e s' => wpAny (model P w) (A.deeper (envOfC qual scope s.heap.objs.size f cd)) (leaving (envOfC qual scope s.heap.objs.size f cd) e) (fun _ s'' => CX outer H s E e s'') (fun e' s'' => CX outer H s E e' s'') s'

theorem cell_has {sc : Scope} {n : Nat} {x : Str} (h : sc.names.lookup x = some .cell) : ∃ c, (cellsFrom n sc.names []).lookup x = some c := by
  have q := PySem.W.cellsFrom_some sc.names n [] (.inl h)
  exact Option.isSome_iff_exists.mp q

theorem inv_start {CX : CXT} {P : Program} {w : World} {K : PySem.W.Frag} {mg : Str → Option Value} {base : Heap} {N ps : List Str} {qual : Str} {scope : Scope} {f : Addr} {cd : Value} {A : Around} {outer : List Env} {s s1 : Shared} {H : Hp} {E : XK} {us : List Value} {vs : List V}
    (S : FnScope N ps scope) (hd : A.handled = none) (e0 : Env0 P w K mg base A outer s H) (hl : vs.length = ps.length) (r : Vals vs us)
    (x : InCallC s s.heap.objs.size (bindL (envOfC qual scope s.heap.objs.size f cd).kindOf (ps.zip us) fun _ => none) (cellsFrom (s.heap.objs.size + 1) scope.names []) (bindC (envOfC qual scope s.heap.objs.size f cd).kindOf (ps.zip us) fun _ => none) s1) :
    Inv (cxOf CX P w K mg base N qual scope f cd A outer s H E) [] (start N vs) H s1 := by
  have hpl : ps.length ≤ N.length := by have := congrArg List.length S.pre; rw [List.length_take] at this; omega
  obtain ⟨h1, tk, rfl, hk⟩ := x.done
  have noA : ∀ b : Addr, b ∉ (cxOf CX P w K mg base N qual scope f cd A outer s H E).ex := fun b z => absurd (show b ∈ ([] : List Addr) from z) (by simp)
  refine ⟨⟨e0.mod, S.kind, rfl, rfl, Nat.le_refl _, fun y z c h1 h2 => ?_, fun y hy => ?_, fun y c _ h => ?_, fun _ => hd, Around.frames_deeper e0.frames, .inr ⟨rfl, rfl⟩, fun b z => absurd z (noA b), e0.bs, e0.bsz, fun b _ _ => noA b, fun b z => absurd z (noA b), e0.funs, e0.frf⟩,
    rfl, e0.bare, Un.kept hk, ⟨_, x.toInCall.ns, fun i y v h1 h2 h3 => ?_⟩, fun y c h => ⟨_, x.cell y c h⟩, e0.hok.fresh (Nat.le_refl _), fun y c h => ?_, fun p hp => absurd (show p ∈ ([] : List (Addr × Obj)) from hp) (by simp), e0.hok.kept hk, ?_⟩
  · exact name_of_addr x.apart (PySem.mem_of_lookup h1) (PySem.mem_of_lookup h2)
  · have hy : scope.names.lookup y = some .cell ∨ scope.names.lookup y = some .free := hy
    rcases hy with hy | hy
    · exact cell_has hy
    · exact absurd rfl (S.nofree _ (PySem.mem_of_lookup hy))
  · exact Nat.le_of_lt (x.above y c (PySem.mem_of_lookup h))
  · have hi : i < vs.length := by
      unfold start at h2
      by_cases hi : i < vs.length
      · exact hi
      · rw [List.getElem?_append_right (by simpa using hi)] at h2
        rw [List.getElem?_replicate] at h2
        split at h2 <;> cases h2
    have ha : vs[i]? = some v := by
      unfold start at h2
      rw [List.getElem?_append_left (by simpa using hi), List.getElem?_map] at h2
      cases e : vs[i]? with
      | none => rw [e] at h2; cases h2
      | some a => rw [e] at h2; cases h2; rfl
    obtain ⟨u, hu, rv⟩ := r.get ha
    have hp : ps[i]? = some y := by
      rw [← S.pre, List.getElem?_take_of_lt (by omega)]; exact h1
    have ndP : ps.Nodup := by rw [← S.pre]; exact S.nd.sublist (List.take_sublist _ _)
    refine ⟨u, rv, ?_⟩
    rcases S.par y (List.mem_of_getElem? hp) with k | k
    · exact .inl ⟨k, bindL_get ndP hp hu k⟩
    · obtain ⟨c, e⟩ := cell_has (n := s.heap.objs.size + 1) k
      refine .inr ⟨.inl k, c, e, ?_⟩
      have q := x.cell y c e
      rw [bindC_get ndP hp hu (by show scope.names.lookup y ≠ _; rw [k]; decide)] at q
      exact q
  · exact e0.hok.fresh (Nat.le_of_lt (x.above y c (PySem.mem_of_lookup h)))
  · unfold start
    show _ = N.length
    rw [List.length_append, List.length_map, List.length_replicate]
    omega

theorem fn_of {CX : CXT} {P : Program} {w : World} {K : PySem.W.Frag} {mg : Str → Option Value} {base : Heap} {k : Nat} {f : Addr} {name qual : Str} {params : Arguments} {body : List Stmt} {scope : Scope} {dV kV doc pm cdv ct oc : Value} {an od : Option Addr}
    {osl : Array (Option Value)} {N ps : List Str} {sp : Sp} (lk : K.lookup f = some ⟨oc, od, .func (PySem.W.fnOf name qual params body scope dV kV doc pm an cdv ct), osl⟩) (hcd : PySem.W.codeIn K cdv qual = true) (S : FnScope N ps scope)
    (len : ∀ vs H Q E, sp vs H Q E → vs.length = ps.length)
    (hbody : ∀ (A : Around) (outer : List Env) (s : Shared) (H : Hp) (vs : List V) (Q : VK) (E : XK), Room k (A.deeper (envOfC qual scope s.heap.objs.size f cdv)) → sp vs H Q E →
      ∃ t, PSs (cxOf CX P w K mg base N qual scope f cdv A outer s H E) body t ∧ t { nx := fun _ H' => Q .non H', rt := Q } (start N vs) H) :
    FnOk P w K mg base CX (k + 1) f (PySem.W.fnOf name qual params body scope dV kV doc pm an cdv ct) ps sp := by
  refine ⟨len, fun A outer s H args us vs Q E hr e0 hb r hsp => ?_⟩
  have hl := len _ _ _ _ hsp
  have KX : K.In s.heap := e0.mod.kin.keeps fun b o e => (e0.bs b o e).1
  have lim : s.heap.NoLimit := e0.mod.nolimit.keeps fun b o e => (e0.bs b o e).1
  have hkind : ∀ y ∈ ps.zip us, scope.names.lookup y.1 = some .local ∨ (scope.names.lookup y.1 = some .cell ∧ ((cellsFrom (s.heap.objs.size + 1) scope.names []).lookup y.1).isSome = true) := fun ⟨n, v⟩ hy => by
    rcases S.par n (List.of_mem_zip hy).1 with q | q
    · exact .inl q
    · exact .inr ⟨q, PySem.W.cellsFrom_some _ _ _ (.inl q)⟩
  refine codeAny_call_function hr.depth (KX _ _ lk) rfl S.co S.gen rfl (PySem.W.codeRec_of KX hcd) (hb _ _ _ _ ?_)
  refine wpAny_newFunctionEnv_cells S.kind hkind fun env he s1 x => ?_
  subst he
  refine ⟨lim.keeps x.toInCall.keep, codeAny_func ?_⟩
  obtain ⟨t, ht, hq⟩ := hbody A outer s H vs Q E (hr.deeper _) hsp
  have I : Inv (cxOf CX P w K mg base N qual scope f cdv A outer s H E) [] (start N vs) H s1 := inv_start S hr.hd e0 hl r x
  refine wpAny_mono (ht [] s1 (start N vs) H _ I hq) (fun fl s' hs => ?_) fun e s' hs => hs
  have fin : ∀ {σ' : St} {H' : Hp} {v : V} {u : Value}, Inv (cxOf CX P w K mg base N qual scope f cdv A outer s H E) [] σ' H' s' → RelV v u → Q v H' → CE outer P w H s Q u s' :=
    fun {σ' H' v u} J rv q => ⟨v, H', J.os, J.bare, J.base, J.hok, rv, q⟩
  cases fl with
  | ret u =>
    obtain ⟨v, σ', H', J, rv, q⟩ := hs
    exact fin J rv q
  | next =>
    obtain ⟨σ', H', J, q⟩ := hs
    exact fin (v := V.non) (u := Value.none) J rfl q
  | brk =>
    obtain ⟨_, _, _, q⟩ := hs
    exact False.elim q
  | cont =>
    obtain ⟨_, _, _, q⟩ := hs
    exact False.elim q
end L2

namespace L2
open PySem PySem.Spec PyProof.Rows
section
variable {X : Cx} {x : Str} {p pos : Pos} {e : Expr} {es : List Expr} {t : TA} {id T : String} {r : List V → Hp → VK → Prop}

noncomputable def tCB (r : List V → Hp → VK → Prop) (t : TA) : TE := fun σ H Q => t σ H fun vs H1 => r vs H1 Q
theorem pe_callB (hc : CallR X (.builtin id) r) (hg : Gl X x) (hm : X.mg x = none) (hv : bootBuiltins x = some (.builtin id)) (ha : PA X (e :: es) t) (hn : x ≠ "__name__" := by decide) (hdb : (x == ("__debug__" : Str)) = false := by decide)
    (he : starEach (e :: es) X.env = (false, eval e X.env) :: starEach es X.env := by rfl) (hpl : (backTo pos (starEach es X.env)).any (·.1) = false := by rfl) : PE X (.Call (.Name x p) (e :: es) [] pos) (tCB r t) := by
  intro pins s σ H Q I h
  refine wpAny_Call_Name_kw (ld_blt I hg hm hv ?_ hn hdb)
  exact PyProof.Rows.callWith_builtin1 (thn (ha pos pins s σ H _ I h) fun us s1 ⟨vs, H1, I1, r1, q1⟩ => hc pins s1 σ H1 vs us Q I1 r1 q1) he hpl
theorem pe_callTy (hc : CallR X (.type T) r) (hg : Gl X x) (hm : X.mg x = none) (hv : bootBuiltins x = some (.type T)) (ha : PA X (e :: es) t) (hn : x ≠ "__name__" := by decide) (hdb : (x == ("__debug__" : Str)) = false := by decide)
    (he : starEach (e :: es) X.env = (false, eval e X.env) :: starEach es X.env := by rfl) (hpl : (backTo pos (starEach es X.env)).any (·.1) = false := by rfl) : PE X (.Call (.Name x p) (e :: es) [] pos) (tCB r t) := by
  intro pins s σ H Q I h
  refine wpAny_Call_Name_kw (ld_blt I hg hm hv ?_ hn hdb)
  exact PyProof.Rows.callWith_type1 (thn (ha pos pins s σ H _ I h) fun us s1 ⟨vs, H1, I1, r1, q1⟩ => hc pins s1 σ H1 vs us Q I1 r1 q1) he hpl
end
end L2

namespace HT
open PySem PyProof.Rows

section
open PySem.SeqAt
open PySem.AutoSeq1 (wpAny_loadPart')
open PySem.MeetsSeq PySem.MeetsSeq2 PySem.MeetsSeq3

end

section
variable {prog : Program} {w : World} {A : Around} {E : Value → Shared → Prop} {s : Shared}

noncomputable def sIx (n d : Nat) : Option Int → Nat
  | none => d
  | some v => if v < 0 then (v + (n : Int)).toNat else min v.toNat n
end
end HT

namespace L2
open PySem PySem.Spec PyProof.Rows

noncomputable abbrev TO := St → Hp → (Option Int → Hp → Prop) → Prop
noncomputable def PO (X : Cx) (e : Option Expr) (t : TO) : Prop :=
  ∀ (pins : List (Addr × Obj)) (s : Shared) (σ : St) (H : Hp) (Q : Option Int → Hp → Prop), Inv X pins σ H s → t σ H Q →
    wpAny (model X.prog X.w) X.A (evalPart e X.env) (fun u s' => ∃ o H', Inv X pins σ H' s' ∧ IsPart u o ∧ Q o H') X.xe s
noncomputable def tNoPart : TO := fun _ H Q => Q none H
noncomputable def tPart (t : TE) : TO := fun σ H Q => t σ H fun x H1 => ∃ i, x = .int i ∧ Q (some i) H1

theorem intsAre_of {ns : List Int} : ∀ {us : List Value}, Vals (ns.map V.int) us → IntsAre us ns := by
  induction ns with
  | nil => intro us r; rw [List.map_nil] at r; cases r; exact .nil
  | cons n ns ih =>
    intro us r
    rw [List.map_cons] at r
    cases r with
    | cons r1 r2 =>
      obtain ⟨t, e⟩ := r1
      subst e
      exact .cons n t (ih r2)

section
variable {X : Cx} {e : Expr} {te : TE} {lo hi : Option Expr} {tl th : TO} {pos p2 : Pos}

theorem po_none : PO X none tNoPart := by
  intro pins s σ H Q I h
  rw [evalPart_none]
  exact wpAny_pure ⟨none, H, I, .none, h⟩
theorem po_some (h : PE X e te) : PO X (some e) (tPart te) := by
  intro pins s σ H Q I hw
  rw [evalPart_some]
  refine thn (h pins s σ H _ I hw) fun u s1 ⟨x, H1, I1, r1, q1⟩ => ?_
  obtain ⟨i, rfl, q⟩ := q1
  obtain ⟨t, rfl⟩ := r1
  exact ⟨some i, H1, I1, .int i t, q⟩

noncomputable def SlR (X : Cx) (r : V → Option Int → Option Int → Hp → VK → Prop) : Prop :=
  ∀ (pins : List (Addr × Obj)) (s : Shared) (σ : St) (H : Hp) (x : V) (v vl vu : Value) (lo hi : Option Int) (sl : Addr) (Q : VK), Inv X pins σ H s → RelV x v → s.heap.IsSliceOf sl vl vu .none → IsPart vl lo → IsPart vu hi → r x lo hi H Q →
    ∃ T id, typeLookup (.type T) "__getitem__" = pure (some (.builtin id)) ∧ s.TypeIs v T ∧ wpAny (model X.prog X.w) X.A (getItem v (.ref sl)) (EP X pins σ Q) X.xe s
theorem SlR.or {r r' : V → Option Int → Option Int → Hp → VK → Prop} (h : SlR X r) (h' : SlR X r') : SlR X (fun x lo hi H Q => r x lo hi H Q ∨ r' x lo hi H Q) := by
  intro pins s σ H x v vl vu lo hi sl Q I rx hs pl pu q
  rcases q with q | q
  · exact h pins s σ H x v vl vu lo hi sl Q I rx hs pl pu q
  · exact h' pins s σ H x v vl vu lo hi sl Q I rx hs pl pu q
noncomputable def tSl (r : V → Option Int → Option Int → Hp → VK → Prop) (te : TE) (tl th : TO) : TE := fun σ H Q => te σ H fun x H1 => tl σ H1 fun l H2 => th σ H2 fun u H3 => r x l u H3 Q
theorem pe_slice {r : V → Option Int → Option Int → Hp → VK → Prop} (hr : SlR X r) (he : PE X e te) (hl : PO X lo tl) (hu : PO X hi th) : PE X (.Subscript e (.Slice lo hi none p2) pos) (tSl r te tl th) := by
  intro pins s σ H Q I h
  refine Subscript_ (thn (he pins s σ H _ I h) fun v s1 ⟨x, H1, I1, r1, q1⟩ => ?_)
  refine wpAny_Slice (thn (hl pins s1 σ H1 _ I1 q1) fun vl s2 ⟨l, H2, I2, pl, q2⟩ => thn (hu pins s2 σ H2 _ I2 q2) fun vu s3 ⟨u, H3, I3, pu, q3⟩ => ?_)
  rw [evalPart_none]
  refine wpAny_pure ?_
  have I4 : Inv X pins σ H3 { s3 with heap := s3.heap.push { cls := .type "slice", data := .fields #[vl, vu, .none] } } := I3.kept (t' := s3.toks) fun b ob q => Heap.get?_push_of_some _ q
  obtain ⟨T, id, hT, ht, hg⟩ := hr pins { s3 with heap := s3.heap.push { cls := .type "slice", data := .fields #[vl, vu, .none] } } σ H3 x v vl vu l u s3.heap.objs.size Q I4 r1 (Heap.IsSliceOf.new ..) pl pu q3
  show wpAny (model X.prog X.w) X.A (subscriptTail e (.Slice lo hi none p2) v (.ref s3.heap.objs.size)) (EP X pins σ Q) X.xe { s3 with heap := s3.heap.push { cls := .type "slice", data := .fields #[vl, vu, .none] } }
  exact tail_any (ops := [.ref s3.heap.objs.size, v]) ht hT hg (by with_unfolding_all rfl)

noncomputable def cutV (xs : List V) (lo hi : Option Int) : List V := (xs.drop (HT.sIx xs.length 0 lo)).take (HT.sIx xs.length xs.length hi - HT.sIx xs.length 0 lo)
theorem cutV_length (xs : List V) (lo hi : Option Int) : (cutV xs lo hi).length ≤ xs.length := by
  unfold cutV
  rw [List.length_take, List.length_drop]
  omega
end
end L2

namespace L2
open PySem PySem.Spec PyProof.Rows

noncomputable def ixN (n : Nat) (i : Int) : Option Nat := if 0 ≤ i then (if i < n then some i.toNat else none) else if -(n : Int) ≤ i then some (i + n).toNat else none
noncomputable def atI {α : Type} (xs : List α) (i : Int) : Option α := (ixN xs.length i).bind fun j => xs[j]?
theorem ixN_seq {n : Nat} {i : Int} {j : Nat} (h : ixN n i = some j) : seqIndex? i n = some j ∧ j < n ∧ -(n : Int) ≤ i ∧ i < n := by
  unfold ixN at h
  by_cases h0 : 0 ≤ i
  · rw [if_pos h0] at h
    by_cases h1 : i < n
    · rw [if_pos h1] at h
      have e : i.toNat = j := Option.some.inj h
      exact ⟨by rw [seqIndex_of h0 h1, e], by omega, by omega, h1⟩
    · rw [if_neg h1] at h; cases h
  · rw [if_neg h0] at h
    by_cases h1 : -(n : Int) ≤ i
    · rw [if_pos h1] at h
      have e : (i + n).toNat = j := Option.some.inj h
      exact ⟨by rw [seqIndex_neg (by omega) h1, e], by omega, h1, by omega⟩
    · rw [if_neg h1] at h; cases h
theorem atI_get {α : Type} {xs : List α} {i : Int} {v : α} (h : atI xs i = some v) : ∃ j, seqIndex? i xs.length = some j ∧ xs[j]? = some v ∧ j < xs.length ∧ -(xs.length : Int) ≤ i ∧ i < xs.length := by
  unfold atI at h
  cases e : ixN xs.length i with
  | none => rw [e] at h; cases h
  | some j =>
    rw [e] at h
    obtain ⟨h1, h2, h3, h4⟩ := ixN_seq e
    exact ⟨j, h1, h, h2, h3, h4⟩
noncomputable def PlainIx (b : Expr) : Prop := ∀ o i, subscripted b false o i = operate [o, i] (getItem o i)
noncomputable def IxR (X : Cx) (r : R2) : Prop :=
  ∀ (value slice : Expr) (pins : List (Addr × Obj)) (s : Shared) (σ : St) (H : Hp) (x y : V) (v u : Value) (Q : VK), Inv X pins σ H s → RelV x v → RelV y u → r x y H Q →
    subscripted slice false v u = operate [v, u] (getItem v u) → wpAny (model X.prog X.w) X.A (subscriptTail value slice v u) (EP X pins σ Q) X.xe s
noncomputable def MtR (X : Cx) (id : String) (r : V → List V → Hp → VK → Prop) : Prop :=
  ∀ (pins : List (Addr × Obj)) (s : Shared) (σ : St) (H : Hp) (x : V) (xs : List V) (v : Value) (us : List Value) (Q : VK), Inv X pins σ H s → RelV x v → Vals xs us → r x xs H Q →
    wpAny (model X.prog X.w) X.A (call (.builtin id) (v :: us)) (EP X pins σ Q) X.xe s
section
variable {X : Cx} {a b : Expr} {ta tb : TE} {pos : Pos}
theorem IxR.or {r r' : R2} (h : IxR X r) (h' : IxR X r') : IxR X (fun x y H Q => r x y H Q ∨ r' x y H Q) := by
  intro value slice pins s σ H x y v u Q I rx ry q hs
  rcases q with q | q
  · exact h value slice pins s σ H x y v u Q I rx ry q hs
  · exact h' value slice pins s σ H x y v u Q I rx ry q hs
theorem MtR.or {id : String} {r r' : V → List V → Hp → VK → Prop} (h : MtR X id r) (h' : MtR X id r') : MtR X id (fun x xs H Q => r x xs H Q ∨ r' x xs H Q) := by
  intro pins s σ H x xs v us Q I rx rs q
  rcases q with q | q
  · exact h pins s σ H x xs v us Q I rx rs q
  · exact h' pins s σ H x xs v us Q I rx rs q
theorem pe_ix {r : R2} (hr : IxR X r) (ha : PE X a ta) (hb : PE X b tb) (hs : PlainIx b) : PE X (.Subscript a b pos) (tOp r ta tb) := by
  intro pins s σ H Q I h
  exact Subscript_ (binT ha hb I h fun v u s2 x y H2 I2 rx ry q => hr a b pins s2 σ H2 x y v u Q I2 rx ry q (hs _ _))

noncomputable def rIxL (K : PySem.W.Frag) : R2 := fun x y H Q => ∃ p xs i v, x = .ref p ∧ y = .int i ∧ SqL K H p xs ∧ atI xs i = some v ∧ Q v H
noncomputable def rIxT (K : PySem.W.Frag) : R2 := fun x y H Q => ∃ p xs i v, x = .ref p ∧ y = .int i ∧ SqT K H p xs ∧ atI xs i = some v ∧ Q v H
noncomputable def rIxS : R2 := fun x y H Q => ∃ z i c, x = .str z ∧ y = .int i ∧ z.length ≤ sizeLine ∧ atI z.cps.toList i = some c ∧ Q (.str ⟨#[c]⟩) H
theorem ix_list : IxR X (rIxL X.K) := by
  intro value slice pins s σ H x y v u Q I rx ry h hs
  obtain ⟨p, xs, i, z, rfl, rfl, hq, he, q⟩ := h
  cases rx
  obtain ⟨t, rfl⟩ := ry
  obtain ⟨its, r, pl, hz⟩ := I.list hq
  obtain ⟨j, h1, h2, h3, h4, h5⟩ := atI_get he
  obtain ⟨w, ew, rw'⟩ := r.get h2
  have hl := r.length
  have hn := line63
  have fin : EP X pins σ Q w s := ⟨z, H, I, rw', q⟩
  by_cases h0 : 0 ≤ i
  · have hj : i.toNat = j := by
      rw [seqIndex_of h0 h5] at h1
      exact Option.some.inj h1
    exact item_listR pl.isList h0 (by omega) (by rw [hj]; simpa using ew) fin hs
  · have hj : (i + (its.toArray.size : Int)).toNat = j := by
      rw [seqIndex_neg (by omega) h4] at h1
      rw [List.size_toArray, ← hl]
      exact Option.some.inj h1
    exact subscriptTail_builtinR (x := w) pl.isList.typeIs slot_list_getitem.lookup
      (wpAny_getItem_list_neg (Q := fun r s' => r = w ∧ EP X pins σ Q r s') pl.isList (by omega) (by rw [List.size_toArray] <;> omega) (by omega) (by rw [hj]; simpa using ew) ⟨rfl, fin⟩) hs
theorem ix_tup : IxR X (rIxT X.K) := by
  intro value slice pins s σ H x y v u Q I rx ry h hs
  obtain ⟨p, xs, i, z, rfl, rfl, hq, he, q⟩ := h
  cases rx
  obtain ⟨t, rfl⟩ := ry
  obtain ⟨its, r, pl, hz⟩ := I.tuple hq
  obtain ⟨j, h1, h2, h3, h4, h5⟩ := atI_get he
  obtain ⟨w, ew, rw'⟩ := r.get h2
  have hl := r.length
  have hn := line63
  have fin : EP X pins σ Q w s := ⟨z, H, I, rw', q⟩
  exact subscriptTail_builtinR (x := w) pl.typeIs slot_tuple_getitem.lookup
    (getItem_tuple (j := j) (Q := fun r s' => r = w ∧ EP X pins σ Q r s') pl (by omega) (by omega) (by rw [List.size_toArray, ← hl]; exact h1) (by simpa using ew) ⟨rfl, fin⟩) hs
theorem ix_str : IxR X rIxS := by
  intro value slice pins s σ H x y v u Q I rx ry h hs
  obtain ⟨z, i, c, rfl, rfl, hz, he, q⟩ := h
  obtain ⟨t, rfl⟩ := rx
  obtain ⟨t', rfl⟩ := ry
  obtain ⟨j, h1, h2, h3, h4, h5⟩ := atI_get he
  have hl : z.cps.toList.length = z.length := by simp [Str.length]
  rw [hl] at h1 h4 h5
  have hn := line63
  exact tail_any (typeIs_str s z t) slot_str_getitem.lookup (getItem_str (c := c) (by
    have e1 : decide (i < -(2 ^ 63 : Int)) = false := decide_eq_false (by omega)
    have e2 : decide (i ≥ 2 ^ 63) = false := decide_eq_false (by omega)
    rw [e1, e2, Bool.or_false]) (by rw [h1]; simpa using h2) ⟨.str ⟨#[c]⟩, H, I.tok _, ⟨_, rfl⟩, q⟩) hs
noncomputable def rIx (K : PySem.W.Frag) : R2 := fun x y H Q => rIxL K x y H Q ∨ rIxT K x y H Q ∨ rIxS x y H Q
theorem ix_seq : IxR X (rIx X.K) := ix_list.or (ix_tup.or ix_str)

theorem mapSeq_set (its : List Value) (n j : Nat) (u : Value) : Obj.mapSeq (·.setIfInBounds j u) { cls := .type "list", data := .seq its.toArray n } = { cls := .type "list", data := .seq (its.set j u).toArray n } := by
  simp [Obj.mapSeq]
theorem Inv.lst {pins : List (Addr × Obj)} {σ : St} {H : Hp} {s : Shared} {p : Addr} {xs : List V} (I : Inv X pins σ H s) (h : H p = some (.lst xs)) :
    ∃ (its : List Value) (n : Nat), Vals xs its ∧ s.heap.get? p = some { cls := .type "list", data := .seq its.toArray n } ∧ xs.length ≤ sizeLine := by
  obtain ⟨z, its, n, r, e⟩ := I.hok p _ h
  exact ⟨its, n, r, e, z⟩
theorem Inv.lstUpd {pins : List (Addr × Obj)} {σ : St} {H : Hp} {s : Shared} {p : Addr} {xs ys : List V} {its its' : List Value} {n n' : Nat} {f : Obj → Obj} (I : Inv X pins σ H s) (h : H p = some (.lst xs))
    (ho : s.heap.get? p = some { cls := .type "list", data := .seq its.toArray n }) (hf : f { cls := .type "list", data := .seq its.toArray n } = { cls := .type "list", data := .seq its'.toArray n' }) (r : Vals ys its') (hz : ys.length ≤ sizeLine) (t : Nat) :
    Inv X pins σ (upd H p (.lst ys)) { s with heap := s.heap.update p f, toks := t } := by
  have e : (s.heap.update p f).get? p = some { cls := .type "list", data := .seq its'.toArray n' } := by
    rw [Heap.get?_update_self f ho (by rw [hf] <;> rfl), hf]
  refine I.write (x := p) (e := p) (by rw [h]; trivial) (.inl rfl) (fun b u hb q => (Heap.get?_update_other _ _ (Ne.symm hb)).trans q) ⟨_, e⟩ ?_
  exact ⟨hz, its', n', r, e⟩
noncomputable def rSetL : V → V → V → Hp → (Hp → Prop) → Prop := fun o i v H Q => ∃ p xs k j, o = .ref p ∧ i = .int k ∧ H p = some (.lst xs) ∧ ixN xs.length k = some j ∧ Q (upd H p (.lst (xs.set j v)))
theorem set_list : PSet X rSetL := by
  intro pins s σ H o i v ov iv u Q I ro ri rv h
  obtain ⟨p, xs, k, j, rfl, rfl, hp, hj, q⟩ := h
  cases ro
  obtain ⟨t, rfl⟩ := ri
  obtain ⟨its, n, r, ho, hz⟩ := I.lst hp
  obtain ⟨h1, h2, h3, h4⟩ := ixN_seq hj
  have hl := r.length
  have hn := line63
  have I' : Inv X pins σ (upd H p (.lst (xs.set j v))) { s with heap := s.heap.update p (Obj.mapSeq (·.setIfInBounds j u)) } :=
    I.lstUpd hp ho (mapSeq_set its n j u) (r.set rv j) (by rw [List.length_set]; exact hz) s.toks
  by_cases h0 : 0 ≤ k
  · have hk : k.toNat = j := by
      rw [seqIndex_of h0 h4] at h1
      exact Option.some.inj h1
    exact PySem.W.ki_setAt ho h0 (by omega) (by rw [List.size_toArray, ← hl]; exact h4) (by rw [hk]; exact ⟨_, I', q⟩)
  · have hk : (k + (its.toArray.size : Int)).toNat = j := by
      rw [seqIndex_neg (by omega) h3] at h1
      rw [List.size_toArray, ← hl]
      exact Option.some.inj h1
    exact PySem.W.ki_setBack ho (by omega) (by rw [List.size_toArray, ← hl]; exact h3) (by omega) (by rw [hk]; exact ⟨_, I', q⟩)

theorem slice_bounds (lo hi : Option Int) (n : Nat) : (sliceBounds lo hi none n).1 = ((HT.sIx n 0 lo : Nat) : Int) ∧ (sliceBounds lo hi none n).2.1 = ((HT.sIx n n hi : Nat) : Int) ∧ (sliceBounds lo hi none n).2.2 = 1 := by
  refine ⟨?_, ?_, rfl⟩
  · cases lo with
    | none => simp [sliceBounds, HT.sIx]
    | some i =>
      simp only [sliceBounds, HT.sIx, Option.getD_none, show (1 : Int) > 0 by decide, if_true]
      by_cases h : i < 0
      · simp only [h, if_true] <;> omega
      · simp only [h, if_false] <;> omega
  · cases hi with
    | none => simp [sliceBounds, HT.sIx]
    | some i =>
      simp only [sliceBounds, HT.sIx, Option.getD_none, show (1 : Int) > 0 by decide, if_true]
      by_cases h : i < 0
      · simp only [h, if_true] <;> omega
      · simp only [h, if_false] <;> omega
theorem slicePick_cut (its : List Value) (lo hi : Option Int) : slicePick its.toArray lo hi none = ((its.drop (HT.sIx its.length 0 lo)).take (HT.sIx its.length its.length hi - HT.sIx its.length 0 lo)).toArray := by
  obtain ⟨h1, h2, h3⟩ := slice_bounds lo hi its.toArray.size
  unfold slicePick
  rw [h1, h2, h3]
  simp only [sliceRange_one, pick_run, List.size_toArray] <;> rfl
noncomputable def rSlL (K : PySem.W.Frag) : V → Option Int → Option Int → Hp → VK → Prop := fun x lo hi H Q => ∃ a xs, x = .ref a ∧ SqL K H a xs ∧ ∀ p, H p = none → Q (.ref p) (upd H p (.lst (cutV xs lo hi)))
theorem sl_list : SlR X (rSlL X.K) := by
  intro pins s σ H x v vl vu lo hi sl Q I rx hs pl pu h
  obtain ⟨a, xs, rfl, hx, q⟩ := h
  cases rx
  obtain ⟨its, r, ht, hz⟩ := I.list hx
  have hlen := r.length
  refine ⟨"list", _, slot_list_getitem.lookup, ht.isList.typeIs, ?_⟩
  refine wpAny_getItem_list_slice ht.isList hs pl pu .none (by simp) ?_ (by rw [List.size_toArray] <;> omega)
  rw [slicePick_cut, ← hlen]
  refine ⟨.ref s.heap.objs.size, _, I.laid (t' := s.toks) (o := .lst (cutV xs lo hi)) (fun b ob q => Heap.get?_push_of_some _ q) (Nat.le_refl _) ?_, rfl, q _ (I.hok.fresh (Nat.le_refl _))⟩
  exact ⟨Nat.le_trans (cutV_length xs lo hi) hz, _, 0, (r.drop (HT.sIx xs.length 0 lo)).take (HT.sIx xs.length xs.length hi - HT.sIx xs.length 0 lo), Heap.get?_push_size _ rfl⟩

noncomputable def flatV : V → Bool
  | .non => true
  | .bl _ => true
  | .int _ => true
  | .str _ => true
  | _ => false
noncomputable def eqV : V → V → Bool
  | .non, .non => true
  | .bl a, .bl b => a == b
  | .bl a, .int b => (if a then 1 else 0) == b
  | .int a, .bl b => a == (if b then 1 else 0)
  | .int a, .int b => a == b
  | .str a, .str b => a == b
  | _, _ => false
theorem eqAt_V {A : Around} {s : Shared} {y x : V} {u v : Value} (ry : RelV y u) (rx : RelV x v) (fy : flatV y = true) (fx : flatV x = true) : SeqAt.EqAt A s u v (eqV y x) := by
  cases y with
  | non =>
    cases ry
    cases x with
    | non => cases rx; exact SeqAt.EqAt.same _
    | bl b => cases rx; exact SeqAt.EqAt.none_bool b
    | int b => obtain ⟨t, rfl⟩ := rx; exact SeqAt.EqAt.none_int b t
    | str b => obtain ⟨t, rfl⟩ := rx; exact SeqAt.EqAt.none_str b t
    | _ => exact absurd (show false = true from fx) Bool.false_ne_true
  | bl a =>
    cases ry
    cases x with
    | non => cases rx; exact SeqAt.EqAt.bool_none a
    | bl b => cases rx; exact SeqAt.EqAt.bool_bool a b
    | int b => obtain ⟨t, rfl⟩ := rx; exact SeqAt.EqAt.bool_int a b t
    | str b => obtain ⟨t, rfl⟩ := rx; exact SeqAt.EqAt.bool_str a b t
    | _ => exact absurd (show false = true from fx) Bool.false_ne_true
  | int a =>
    obtain ⟨t', rfl⟩ := ry
    cases x with
    | non => cases rx; exact SeqAt.EqAt.int_none a t'
    | bl b => cases rx; exact SeqAt.EqAt.int_bool a t' b
    | int b => obtain ⟨t, rfl⟩ := rx; exact SeqAt.EqAt.int_int a t' b t
    | str b => obtain ⟨t, rfl⟩ := rx; exact SeqAt.EqAt.int_str a t' b t
    | _ => exact absurd (show false = true from fx) Bool.false_ne_true
  | str a =>
    obtain ⟨t', rfl⟩ := ry
    cases x with
    | non => cases rx; exact SeqAt.EqAt.str_none a t'
    | bl b => cases rx; exact SeqAt.EqAt.str_bool a t' b
    | int b => obtain ⟨t, rfl⟩ := rx; exact SeqAt.EqAt.str_int a t' b t
    | str b => obtain ⟨t, rfl⟩ := rx; exact SeqAt.EqAt.str_str a t' b t
    | _ => exact absurd (show false = true from fx) Bool.false_ne_true
  | _ => exact absurd (show false = true from fy) Bool.false_ne_true
noncomputable def eqU (x : V) (u : Value) : Bool := match u with
  | .none => eqV .non x
  | .bool b => eqV (.bl b) x
  | .int i _ => eqV (.int i) x
  | .str z _ => eqV (.str z) x
  | _ => false
theorem eqU_of {x y : V} {u : Value} (r : RelV y u) (f : flatV y = true) : eqU x u = eqV y x := by
  cases y with
  | non => cases r; rfl
  | bl b => cases r; rfl
  | int i => obtain ⟨t, rfl⟩ := r; rfl
  | str z => obtain ⟨t, rfl⟩ := r; rfl
  | _ => exact absurd (show false = true from f) Bool.false_ne_true
theorem any_eqU {x : V} : ∀ {xs : List V} {us : List Value}, Vals xs us → xs.all flatV = true → us.any (eqU x) = xs.any fun y => eqV y x
  | _, _, .nil, _ => rfl
  | y :: xs, u :: us, .cons r t, f => by
    rw [List.all_cons, Bool.and_eq_true] at f
    rw [List.any_cons, List.any_cons, eqU_of r f.1, any_eqU t f.2]
theorem mem_eqAt {A : Around} {s : Shared} {x : V} {v : Value} (rx : RelV x v) (fx : flatV x = true) : ∀ {xs : List V} {us : List Value}, Vals xs us → xs.all flatV = true → ∀ u ∈ us, SeqAt.EqAt A s u v (eqU x u)
  | _, _, .nil, _ => fun u hu => by cases hu
  | y :: xs, u :: us, .cons r t, f => fun u' hu => by
    rw [List.all_cons, Bool.and_eq_true] at f
    rcases List.mem_cons.mp hu with rfl | hu
    · rw [eqU_of r f.1]; exact eqAt_V r rx f.1 fx
    · exact mem_eqAt rx fx t f.2 u' hu
noncomputable def inV (x : V) (xs : List V) : Bool := xs.any fun y => eqV y x
noncomputable def rIn (K : PySem.W.Frag) (neg : Bool) : R2 := fun x y H Q => ∃ p xs, y = .ref p ∧ (SqL K H p xs ∨ SqT K H p xs) ∧ flatV x = true ∧ xs.all flatV = true ∧ Q (.bl (if neg then !inV x xs else inV x xs)) H
theorem op_in_seq : OpR X (compareOp .In) (rIn X.K false) := by
  intro pins s σ H x y v u Q I rx ry h
  obtain ⟨p, xs, rfl, hq, fx, fs, q⟩ := h
  cases ry
  rcases hq with hq | hq
  · obtain ⟨its, r, pl, hz⟩ := I.list hq
    refine SeqAt.in_listAt (eqU x) pl.isList (fun w hw => mem_eqAt rx fx r fs w (by simpa using hw)) ⟨.bl _, H, I, rfl, ?_⟩
    rw [show its.toArray.any (eqU x) = its.any (eqU x) by simp, any_eqU r fs]
    exact q
  · obtain ⟨its, r, pl, hz⟩ := I.tuple hq
    refine SeqAt.in_tupleAt (eqU x) pl (fun w hw => mem_eqAt rx fx r fs w (by simpa using hw)) ⟨.bl _, H, I, rfl, ?_⟩
    rw [show its.toArray.any (eqU x) = its.any (eqU x) by simp, any_eqU r fs]
    exact q
theorem call_len_seq : CallR X (.builtin "len") (fun xs H Q => ∃ p ys, xs = [.ref p] ∧ (SqL X.K H p ys ∨ SqT X.K H p ys) ∧ Q (.int ys.length) H) := by
  intro pins s σ H xs us Q I r h
  obtain ⟨p, ys, rfl, hq, q⟩ := h
  obtain ⟨u, rfl, rx⟩ := vals1 r
  cases rx
  have hn := line63
  rcases hq with hq | hq
  · obtain ⟨its, r', pl, hz⟩ := I.list hq
    have hlen := r'.length
    exact Calls.call_len_list pl.isList (by simp only [List.size_toArray] <;> omega) ⟨.int ys.length, H, I.tok _, ⟨s.toks + 1, by rw [List.size_toArray, hlen]⟩, q⟩
  · obtain ⟨its, r', pl, hz⟩ := I.tuple hq
    have hlen := r'.length
    exact len_tuple pl (by simp only [List.size_toArray] <;> omega) ⟨.int ys.length, H, I.tok _, ⟨s.toks + 1, by rw [List.size_toArray, hlen]⟩, q⟩
theorem CallR.or {f : Value} {r r' : List V → Hp → VK → Prop} (h : CallR X f r) (h' : CallR X f r') : CallR X f (fun xs H Q => r xs H Q ∨ r' xs H Q) := by
  intro pins s σ H xs us Q I rs q
  rcases q with q | q
  · exact h pins s σ H xs us Q I rs q
  · exact h' pins s σ H xs us Q I rs q
theorem call_list_of : CallR X (.type "list") (fun xs H Q => ∃ p ys, xs = [.ref p] ∧ (SqL X.K H p ys ∨ SqT X.K H p ys) ∧ ∀ l, H l = none → Q (.ref l) (upd H l (.lst ys))) := by
  intro pins s σ H xs us Q I r h
  obtain ⟨p, ys, rfl, hq, q⟩ := h
  obtain ⟨u, rfl, rx⟩ := vals1 r
  cases rx
  have fin : ∀ (its : List Value), Vals ys its → ys.length ≤ sizeLine → ∀ (h' : Heap) (c' : Nat), (∀ b o', s.heap.get? b = some o' → h'.get? b = some o') →
      h'.get? s.heap.objs.size = some { cls := .type "list", dict := none, data := .seq its.toArray c', slots := #[] } → EP X pins σ Q (.ref s.heap.objs.size) { s with heap := h' } := fun its r' hz h' c' kp e =>
    ⟨.ref s.heap.objs.size, _, I.laid (t' := s.toks) kp (Nat.le_refl _) (show ObjOk X.prog X.w _ h' _ (.lst ys) from ⟨hz, its, c', r', e⟩), rfl, q _ (I.hok.fresh (Nat.le_refl _))⟩
  rcases hq with hq | hq
  · obtain ⟨its, r', pl, hz⟩ := I.list hq
    have hlen := r'.length
    obtain ⟨o, ho, hc, n, hd⟩ := pl.isList
    exact call_list_seq p (.inl rfl) ho hc hd (fun h' c' kp e => fin its r' hz h' c' kp e) (by simp only [List.size_toArray] <;> omega)
  · obtain ⟨its, r', pl, hz⟩ := I.tuple hq
    have hlen := r'.length
    obtain ⟨o, ho, hc, n, hd⟩ := pl
    exact call_list_seq p (.inr rfl) ho hc hd (fun h' c' kp e => fin its r' hz h' c' kp e) (by simp only [List.size_toArray] <;> omega)
theorem call_tuple_of : CallR X (.type "tuple") (fun xs H Q => ∃ p ys, xs = [.ref p] ∧ ((SqL X.K H p ys ∧ ∀ l, H l = none → Q (.ref l) (upd H l (.tup ys))) ∨ (SqT X.K H p ys ∧ Q (.ref p) H))) := by
  intro pins s σ H xs us Q I r h
  obtain ⟨p, ys, rfl, h⟩ := h
  obtain ⟨u, rfl, rx⟩ := vals1 r
  cases rx
  rcases h with ⟨hq, q⟩ | ⟨hq, q⟩
  · obtain ⟨its, r', pl, hz⟩ := I.list hq
    have hlen := r'.length
    refine call_tuple_list pl.isList (fun h' kp => ?_) (by simp only [List.size_toArray] <;> omega)
    have I1 : Inv X pins σ H { s with heap := h' } := I.kept (t' := s.toks) kp
    have I2 : Inv X pins σ (upd H h'.objs.size (.tup ys)) { s with heap := h'.push { cls := .type "tuple", data := .seq its.toArray } } :=
      I1.laid (t' := s.toks) (fun b o e => Heap.get?_push_of_some _ e) (Nat.le_refl _) (show ObjOk X.prog X.w _ _ _ (.tup ys) from ⟨hz, its, r', IsTup.new _ _⟩)
    exact ⟨.ref h'.objs.size, _, I2, rfl, q _ (I1.hok.fresh (Nat.le_refl _))⟩
  · obtain ⟨its, r', pl, hz⟩ := I.tuple hq
    exact call_tuple_same pl ⟨.ref p, H, I, rfl, q⟩

noncomputable def tyV (K : PySem.W.Frag) (T : String) (x : V) (H : Hp) : Prop := match x with
  | .str _ => T = "str"
  | .int _ => T = "int"
  | .ref p => (T = "list" ∧ ∃ xs, SqL K H p xs) ∨ (T = "tuple" ∧ ∃ o, K.lookup p = some o ∧ o.cls = .type "tuple" ∧ o.dict = none) ∨
      (T = "dict" ∧ ((∃ kvs, H p = some (.dK kvs)) ∨ ∃ kvs, H p = some (.dT kvs))) ∨ (T = "set" ∧ ∃ S n, H p = some (.set S n))
  | _ => False
theorem tyV_is {pins : List (Addr × Obj)} {σ : St} {H : Hp} {s : Shared} {T : String} {x : V} {v : Value} (I : Inv X pins σ H s) (r : RelV x v) (ty : tyV X.K T x H) :
    s.TypeIs v T ∧ ∀ a, v = .ref a → ∃ ob, s.heap.get? a = some ob ∧ ob.dict = none := by
  cases x with
  | str z =>
    obtain ⟨t, rfl⟩ := r
    cases (show T = "str" from ty)
    exact ⟨typeIs_str s z t, fun _ e => nomatch e⟩
  | int i =>
    obtain ⟨t, rfl⟩ := r
    cases (show T = "int" from ty)
    exact ⟨typeIs_int s i t, fun _ e => nomatch e⟩
  | ref p =>
    cases r
    rcases ty with ⟨rfl, xs, hq⟩ | ⟨rfl, o, hk, hc, hd⟩ | ⟨rfl, hk⟩ | ⟨rfl, S, n, hk⟩
    · obtain ⟨its, _, pl, _⟩ := I.list hq
      refine ⟨pl.isList.typeIs, fun a e => ?_⟩
      cases e
      obtain ⟨o, n, e, c, hd, _⟩ := pl
      exact ⟨o, e, hd⟩
    · refine ⟨⟨o, I.kIn p o hk, hc⟩, fun a e => ?_⟩
      cases e
      exact ⟨o, I.kIn _ o hk, hd⟩
    · have z : ∃ o, s.heap.get? p = some o ∧ o.ExactDict := by
        rcases hk with ⟨kvs, hk⟩ | ⟨kvs, hk⟩
        · obtain ⟨_, _, _, _, o, _, _, e, ex, _⟩ := I.hok p _ hk
          exact ⟨o, e, ex⟩
        · obtain ⟨_, _, _, _, o, _, _, e, ex, _⟩ := I.hok p _ hk
          exact ⟨o, e, ex⟩
      obtain ⟨o, e, ex⟩ := z
      refine ⟨⟨o, e, ex.1⟩, fun a e2 => ?_⟩
      cases e2
      exact ⟨o, e, ex.2.1⟩
    · obtain ⟨o, _, _, _, e, ex, _⟩ := I.hok p _ hk
      refine ⟨⟨o, e, ex.1⟩, fun a e2 => ?_⟩
      cases e2
      exact ⟨o, e, ex.2.1⟩
  | _ => exact False.elim ty
noncomputable def tBM (K : PySem.W.Frag) (T : String) (r : V → List V → Hp → VK → Prop) (to : TE) (t : TA) : TE := fun σ H Q => to σ H fun x H1 => tyV K T x H1 ∧ t σ H1 fun xs H2 => r x xs H2 Q
variable {o e : Expr} {es : List Expr} {to : TE} {t : TA} {name : Str} {apos cpos : Pos} {T id : String} {r : V → List V → Hp → VK → Prop}
theorem pe_bm (pa : PlainAttrs T) (slot : Slot T name id) (hty : typeOf (.builtin id) = pure (.type "method_descriptor")) (hm : MtR X id r) (ho : PE X o to) (ha : PA X (e :: es) t)
    (hbase : attributeBase o name X.env (eval o X.env) = eval o X.env := by rfl)
    (hfew : ((backTo cpos (starEach (e :: es) X.env)).all (fun x => !x.1) && (backToKw cpos (keywordEach [] X.env)).all (fun x => x.1.isSome)
      && decide ((e :: es).length + ([] : List Keyword).length + (if ([] : List Keyword).isEmpty then 0 else 1) < 30)) = true := by rfl)
    (hline : (apos.endLine == cpos.line) = true := by rfl) (hs : starEach (e :: es) X.env = (false, eval e X.env) :: starEach es X.env := by rfl) (hplain : (backTo cpos (starEach es X.env)).any (·.1) = false := by rfl) :
    PE X (.Call (.Attribute o name apos) (e :: es) [] cpos) (tBM X.K T r to t) := by
  intro pins s σ H Q I h
  refine wpAny_Call_method_late hbase hfew hline rfl (thn (ho pins s σ H _ I h) fun v s1 ⟨x, H1, I1, r1, ty, q1⟩ => ?_)
  obtain ⟨h1, h2⟩ := tyV_is I1 r1 ty
  refine ⟨T, id, pa, slot, hty, h1, h2, ?_⟩
  have hA := ha cpos pins s1 σ H1 _ I1 q1
  rw [hs] at hA ⊢
  refine Calls.callWith_builtin (by show (false || (backTo cpos (starEach es X.env)).any (·.1)) = false; rw [hplain] <;> rfl) (Calls.evalArgs_plain ?_)
  exact thn hA fun us s2 ⟨vs, H2, I2, r2, q2⟩ => hm pins s2 σ H2 x vs v us Q I2 r1 r2 q2
end
end L2

namespace L2
open PySem PySem.Spec PyProof.Rows

noncomputable def MtM (X : Cx) (id : String) (r : V → List V → Hp → VK → Prop) : Prop :=
  ∀ (pins : List (Addr × Obj)) (s : Shared) (σ : St) (H : Hp) (x : V) (xs : List V) (v : Value) (us : List Value) (Q : VK), Inv X pins σ H s → RelV x v → Vals xs us → r x xs H Q →
    wpAny (model X.prog X.w) X.A (call (.builtin id) (v :: us)) (EP X pins σ Q) X.xe s

theorem Vals.one : ∀ {x : V} {us : List Value}, Vals [x] us → ∃ u, us = [u] ∧ RelV x u
  | _, _, .cons r .nil => ⟨_, rfl, r⟩
theorem Vals.two : ∀ {x y : V} {us : List Value}, Vals [x, y] us → ∃ u v, us = [u, v] ∧ RelV x u ∧ RelV y v
  | _, _, _, .cons r (.cons q .nil) => ⟨_, _, rfl, r, q⟩
theorem Vals.zero : ∀ {us : List Value}, Vals [] us → us = []
  | _, .nil => rfl
theorem Vals.rep {xs : List V} {us : List Value} (h : Vals xs us) : ∀ k : Nat, Vals (List.replicate k xs).flatten (List.replicate k us).flatten
  | 0 => .nil
  | k + 1 => by
    rw [List.replicate_succ, List.replicate_succ, List.flatten_cons, List.flatten_cons]
    exact Vals.append h (Vals.rep h k)
theorem foldl_rep (its : List Value) : ∀ (k : Nat) (acc : List Value),
    List.foldl (fun x1 x2 => x1 ++ x2) acc.toArray (List.replicate k its.toArray) = (acc ++ (List.replicate k its).flatten).toArray
  | 0, acc => by simp
  | k + 1, acc => by
    have e : acc.toArray ++ its.toArray = (acc ++ its).toArray := by simp
    have e2 : (acc ++ its) ++ (List.replicate k its).flatten = acc ++ (List.replicate (k + 1) its).flatten := by
      rw [List.replicate_succ, List.flatten_cons, List.append_assoc]
    rw [← e2, ← foldl_rep its k (acc ++ its), ← e, List.replicate_succ, List.foldl_cons]

section
variable {X : Cx} {pins : List (Addr × Obj)} {σ : St} {H : Hp} {s : Shared} {l b : Addr} {xs ys zs : List V}

theorem Inv.lset {its its' : List Value} {n : Nat} {f : Array Value → Array Value} {t' : Nat} (I : Inv X pins σ H s) (hH : H l = some (.lst xs))
    (e : s.heap.get? l = some { cls := .type "list", data := .seq its.toArray n }) (hf : f its.toArray = its'.toArray) (hv : Vals ys its') (hz : ys.length ≤ sizeLine) :
    Inv X pins σ (upd H l (.lst ys)) { s with heap := s.heap.update l (Obj.mapSeq f), toks := t' } := by
  have q := PySem.IsL.update e f
  rw [hf] at q
  refine I.write (x := l) (e := l) (by rw [hH]; exact trivial) (.inl rfl) (fun b' u hb hu => (Heap.get?_update_other s.heap (Obj.mapSeq f) (Ne.symm hb)).trans hu) ⟨_, q⟩ ?_
  exact ⟨hz, its', _, hv, q⟩
theorem Inv.lnew {its : List Value} {t' : Nat} (I : Inv X pins σ H s) (hv : Vals ys its) (hz : ys.length ≤ sizeLine) :
    Inv X pins σ (upd H s.heap.objs.size (.lst ys)) { s with heap := s.heap.push { cls := .type "list", data := .seq its.toArray }, toks := t' } :=
  I.laid (fun _ _ q => Heap.get?_push_of_some _ q) (Nat.le_refl _) ⟨hz, its, 0, hv, Heap.get?_push_size _ rfl⟩
theorem Inv.fresh (I : Inv X pins σ H s) : H s.heap.objs.size = none := I.hok.fresh (Nat.le_refl _)
theorem Inv.lstM (I : Inv X pins σ H s) (hH : H l = some (.lst xs)) : xs.length ≤ sizeLine ∧ ∃ (its : List Value) (n : Nat), Vals xs its ∧ xs.length = its.length ∧ s.heap.get? l = some { cls := .type "list", data := .seq its.toArray n } := by
  obtain ⟨z, its, n, r, e⟩ := I.hok l _ hH
  exact ⟨z, its, n, r, r.length, e⟩

theorem notLongL {n : Nat} (h : n ≤ sizeLine) : Builtin.List.listTooLong n = false := by
  unfold Builtin.List.listTooLong
  exact decide_eq_false (by omega)
end

section
variable {X : Cx}

noncomputable def rAppend : V → List V → Hp → VK → Prop := fun x vs H Q => ∃ l xs y, x = .ref l ∧ vs = [y] ∧ H l = some (.lst xs) ∧ xs.length < sizeLine ∧ Q .non (upd H l (.lst (xs ++ [y])))
theorem mt_append : MtM X "list.append" rAppend := by
  intro pins s σ H x vs v us Q I rx rv h
  obtain ⟨l, xs, y, rfl, rfl, hH, hz, q⟩ := h
  cases rx
  obtain ⟨u, rfl, ru⟩ := rv.one
  obtain ⟨z, its, n, r, hl, e⟩ := I.lstM hH
  refine call_meets F.slot_list_append ⟨_, e, rfl⟩ F.entry_list_append (F.args_list_append_2 _ _) (PySem.list_append l its.toArray n u (by rw [List.size_toArray]; omega)) ⟨e, ?_⟩
  refine ⟨.non, _, I.lset (its' := its ++ [u]) hH e (by simp) (r.append (.cons ru .nil)) ?_, rfl, q⟩
  rw [List.length_append, List.length_singleton]
  omega

noncomputable def rCat : R2 := fun x y H Q => ∃ l b xs zs, x = .ref l ∧ y = .ref b ∧ H l = some (.lst xs) ∧ H b = some (.lst zs) ∧ xs.length + zs.length ≤ sizeLine ∧ ∀ p, H p = none → Q (.ref p) (upd H p (.lst (xs ++ zs)))
theorem op_cat : OpR X (binaryOp .Add) rCat := by
  intro pins s σ H x y v u Q I rx ry h
  obtain ⟨l, b, xs, zs, rfl, rfl, hH, hB, hz, q⟩ := h
  cases rx
  cases ry
  obtain ⟨z, its, n, r, hl, e⟩ := I.lstM hH
  obtain ⟨z2, its2, n2, r2, hl2, e2⟩ := I.lstM hB
  refine PySem.P.add_list e e2 ?_ (by rw [List.size_toArray, List.size_toArray]; omega)
  have ea : its.toArray ++ its2.toArray = (its ++ its2).toArray := by simp
  rw [ea]
  exact ⟨.ref _, _, I.lnew (t' := s.toks) (r.append r2) (by rw [List.length_append]; omega), rfl, q _ I.fresh⟩
noncomputable def rRep : R2 := fun x y H Q => ∃ l k xs, x = .ref l ∧ y = .int k ∧ H l = some (.lst xs) ∧ -(2 ^ 63) ≤ k ∧ k < 2 ^ 63 ∧ xs.length * k.toNat ≤ sizeLine ∧
  ∀ p, H p = none → Q (.ref p) (upd H p (.lst (List.replicate k.toNat xs).flatten))
theorem len_rep {α : Type} (xs : List α) (k : Nat) : (List.replicate k xs).flatten.length = k * xs.length := by
  induction k with
  | zero => simp
  | succ k ih => rw [List.replicate_succ, List.flatten_cons, List.length_append, ih, Nat.succ_mul, Nat.add_comm]
theorem op_rep : OpR X (binaryOp .Mult) rRep := by
  intro pins s σ H x y v u Q I rx ry h
  obtain ⟨l, k, xs, rfl, rfl, hH, h1, h2, hz, q⟩ := h
  cases rx
  obtain ⟨t, rfl⟩ := ry
  obtain ⟨z, its, n, r, hl, e⟩ := I.lstM hH
  have hlen : its.toArray.size * k.toNat ≤ sizeLine := by rw [List.size_toArray, ← hl]; exact hz
  have hcap : ¬ its.toArray.size * k.toNat > (2 ^ 63 - 1) / 8 := by
    have : (sizeLine : Nat) ≤ (2 ^ 63 - 1) / 8 := by decide
    omega
  have hfit : ¬ (!Builtin.List.listFitsIndex k) = true := by
    rw [fitsIndex_both h1 h2]
    exact Bool.false_ne_true
  have hlong : ¬ Builtin.List.listTooLong (its.toArray.size * k.toNat) = true := by
    rw [notLongL hlen]
    exact Bool.false_ne_true
  have hnew : List.foldl (fun x1 x2 => x1 ++ x2) #[] (List.replicate (if its.toArray.isEmpty = true then 0 else k.toNat) its.toArray) = (List.replicate k.toNat its).flatten.toArray := by
    have f0 : ∀ m : Nat, List.foldl (fun x1 x2 => x1 ++ x2) #[] (List.replicate m its.toArray) = (List.replicate m its).flatten.toArray := fun m => by
      have := foldl_rep its m []
      rw [List.nil_append] at this
      exact this
    rw [f0]
    cases its with
    | nil => simp
    | cons a r' => rw [if_neg (by simp)]
  refine wpAny_binaryOp_repeat_ref (T := "list") (U := "int") (by decide) ⟨_, e, rfl⟩ (fun s' => typeIs_int s' k t) noFill_list_mul F.fills_int_mul F.slot_int_rmul repeat_list F.slot_int_index.lookup
    (call_meets F.slot_int_rmul (typeIs_int s k t) F.entry_int_rmul (F.args_int_rmul_2 _ _) (int___rmul___int_list k t l its.toArray n)
      ⟨e, rfl, ⟨_, e, rfl⟩, call_meets F.slot_list_mul ⟨_, e, rfl⟩ F.entry_list_mul (F.args_list_mul_2 _ _) (AutoListH.list___mul___list_int_3 l its.toArray n k t hfit hcap hlong) ⟨e, ?_⟩⟩)
  rw [hnew]
  exact ⟨.ref _, _, I.lnew (t' := s.toks) (r.rep k.toNat) (by rw [len_rep, Nat.mul_comm]; exact hz), rfl, q _ I.fresh⟩

end

section
variable {prog : Program} {w : World} {A : Around} {E : Value → Shared → Prop} {s : Shared}
end

section
variable {X : Cx}
end
end L2

namespace Att
open PySem PySem.W PySem.Calls PyProof.Rows

theorem ints_of_wellAll {P : Params} {h : Heap} : ∀ (ns : List Int) (vs : List Value), WellAll P h vs (ns.map WData.int) → IntsAre vs ns := by
  intro ns
  induction ns with
  | nil =>
    intro vs w
    rw [List.map_nil] at w
    cases w
    exact .nil
  | cons n ns ih =>
    intro vs w
    rw [List.map_cons] at w
    cases w with
    | cons a b =>
      cases a
      exact .cons _ _ (ih _ b)

theorem script_of {l : OpenLaw} {n : Nat} (hn : l.most = some n) {P : Params} {h : Heap} {args : List WData} {vals : List Value}
    (hpre : l.row.toRowW.claim.pre args = true) (hwl : WellAll P h vals args) :
    ∃ a vs ns, vals = [Value.ref a] ∧ args = [WData.list (ns.map WData.int)] ∧ h.get? a = some { cls := .type "list", data := .seq vs.toArray } ∧ IntsAre vs ns ∧ ns.length ≤ n := by
  have hsh : WShape.hasAll [] args [.list .int] = true := (pre_splitW hpre).1
  have hc : l.pre.holds [] { args := args } = true := (pre_splitW hpre).2
  obtain ⟨d, r, rfl, h1, h2⟩ := hasAllW_cons hsh
  obtain rfl := hasAllW_nil h2
  obtain ⟨xs, rfl, h3⟩ := hasW_list h1
  obtain ⟨ns, rfl⟩ := items_int h3
  have hlen : ns.length ≤ n := by
    unfold OpenLaw.pre at hc
    have h4 : (WTm.not (.lt (.lit (.int (n : Int))) (.len (.arg 0)))).holds [] { args := [.list (ns.map .int)] } = true := by
      have h4 := (holds_andW hc).1
      rw [hn] at h4
      exact h4
    have h5 := condW_of h4 (w_not (w_lt w_lit (w_len_list (w_arg rfl))))
    rw [List.length_map] at h5
    refine Nat.le_of_not_lt fun q => ?_
    have q' : (n : Int) < ((ns.length : Nat) : Int) := by omega
    first
      | (rw [decide_eq_true q'] at h5; exact absurd h5 (by decide))
      | (simp at h5; omega)
  cases hwl with
  | cons w1 w2 =>
    cases w2
    cases w1 with
    | list ho hall => exact ⟨_, _, ns, rfl, rfl, ho, ints_of_wellAll ns _ hall, hlen⟩

theorem post_true (l : OpenLaw) (args : List WData) : l.row.toRowW.claim.post args (.bool true) args = true :=
  postW_of (r := l.row.toRowW) (X := (true == true))
    (show WShape.has [] (.bool true) .bool = true by first | rfl | decide | simp [WShape.has, WShape.arms, WShape.armsAll])
    (show (WTm.eq .res (.lit (.bool true))).value [] { args := args, res := some (.bool true), after := args } = some (.bool (true == true)) from w_eq_bool (w_res rfl) w_lit) rfl

theorem attach_call {l : OpenLaw} {n : Nat} {q : Program} {loose : List Str} {XP : (Str → Option Value) → Heap → Prop} {YP : World → Heap → Prop} {d : DefRec}
    (hn : l.most = some n) (hdf : d.params.defaults = [])
    (call : ∀ (w : World) (s₀ s₁ : Shared) (mg mb : Str → Option Value) (fa : Addr) (o : Obj) (pm cd doc : Value) (a : Addr) (vs : List Value) (ns : List Int),
      Ground q loose [] XP w s₀ mg mb s₁.heap → YP w s₁.heap →
      s₁.heap.get? fa = some o → o.data = .func (docDef d.name d.params d.body d.scope pm cd doc) → s₁.heap.CodeRec cd d.name → mg d.name = some (.ref fa) →
      s₁.heap.get? a = some { cls := .type "list", data := .seq vs.toArray } → IntsAre vs ns → ns.length ≤ n → s₁.gens = #[] →
      codeAny (model l.prog w) callerA (.call (.ref fa) ⟨[.ref a], []⟩) (fun r s' => r = .ok (.ret (.bool true)) ∧ OldK s₁.heap s'.heap ∧ s'.os = s₁.os ∧ AllBare s'.gens) s₁) :
    WalkO q loose XP YP l.row.toRowW d [] (fun f vs => PySem.call f vs) := by
  intro w s₀ s₁ mg mb G Y fa o pm cd doc dV kV ho hd hcd hD hmg hg args vals as hpre hlay hrd hwl hlo
  obtain rfl : dV = .none := Dflts.none hD hdf
  obtain rfl : kV = .none := Dflts.noKw hD
  obtain ⟨a, vs, ns, rfl, rfl, hobj, hints, hlen⟩ := script_of hn hpre hwl
  refine enter_call (codeAny_mono (call w s₀ s₁ mg mb fa o pm cd doc a vs ns G Y ho (fd_plain hd) hcd hmg hobj hints hlen hg) fun r s' hq => ?_)
  obtain ⟨rfl, h2, h3, h4⟩ := hq
  exact ⟨.inl ⟨.bool true, .bool true, [], rfl, fun _ => rfl, .bool true, post_true l _, fun _ => ⟨List.Pairwise.nil, fun _ hm => (nomatch hm)⟩⟩, h2, h3, h4⟩

section
variable {prog : Program} {w : World} {A : Around} {E : Value → Shared → Prop} {s : Shared} {K : Frag}

end
end Att

namespace L2
open PySem PySem.Spec PyProof.Rows

theorem vals_ints : ∀ {vs : List Value} {ns : List Int}, IntsAre vs ns → Vals (ns.map V.int) vs
  | _, _, .nil => .nil
  | _, _, .cons n t h => .cons ⟨t, rfl⟩ (vals_ints h)

noncomputable def Only (H : Hp) : Prop := ∀ b, H b = none ∨ ∃ o xs, H b = some (.frz o (.lst xs))

theorem law_call {P : Program} {w : World} {K : PySem.W.Frag} {mg mb : Str → Option Value} {CX : CXT} {k : Nat} {fa a : Addr} {fd : FuncData} {x : Str} {sp : Sp} {s₁ : Shared} {vs : List Value} {ns : List Int}
    (KX : K.In s₁.heap) (hns : s₁.heap.Ns mainGlobals mg) (hb : s₁.heap.Ns builtinsNs mb) (hbb : ∀ x : Str, x ≠ "__name__" → mb x = bootBuiltins x) (hlim : s₁.heap.NoLimit) (hg : s₁.gens = #[])
    (ha : s₁.heap.get? a = some { cls := .type "list", data := .seq vs.toArray }) (hi : IntsAre vs ns) (hl : ns.length ≤ sizeLine) (hr : Room k callerA)
    (F : ∀ base : Heap, K.In base → base.Ns mainGlobals mg → FnOk P w K mg base CX k fa fd [x] sp) (hbind : ∀ (s : Shared) (u : Value), BindsTo s fd ⟨[u], []⟩ [(x, u)])
    (hsp : ∀ H : Hp, Only H → SqL K H a (ns.map V.int) → sp [.ref a] H (fun v _ => v = .bl true) fun _ _ _ => False)
    (hCX : ∀ H e s', CX [] H s₁ (fun _ _ _ => False) e s' → False) :
    codeAny (model P w) callerA (.call (.ref fa) ⟨[.ref a], []⟩) (fun r s' => r = .ok (.ret (.bool true)) ∧ OldK s₁.heap s'.heap ∧ s'.os = s₁.os ∧ AllBare s'.gens) s₁ := by
  have rv := vals_ints hi
  have lenV := hi.length
  -- from an abstract heap in which nothing but the script may be tracked
  have core : ∀ H : Hp, Only H → SqL K H a (ns.map V.int) → HOk P w H s₁.heap → (∀ b, H b ≠ none → b = a) → (H a ≠ none → K.lookup a = none) →
      codeAny (model P w) callerA (.call (.ref fa) ⟨[.ref a], []⟩) (fun r s' => r = .ok (.ret (.bool true)) ∧ OldK s₁.heap s'.heap ∧ s'.os = s₁.os ∧ AllBare s'.gens) s₁ := by
    intro H hO hS hok hA hK
    have base_of : ∀ {b : Addr} {o : Obj}, s₁.heap.get? b = some o → H b = none → (hidT s₁.heap H).get? b = some o := fun e n => hidT_get e n
    have noA : ∀ {b : Addr} {o : Obj} {es : Array DictEntry} {ep : Nat}, s₁.heap.get? b = some o → o.data = .dict es ep → H b = none := fun {b o es ep} e d => by
      cases q : H b with
      | none => rfl
      | some u =>
        have e' : b = a := hA b (by rw [q]; simp)
        subst e'
        rw [ha] at e; cases e
        have d' : Data.seq vs.toArray _ = Data.dict es ep := d
        cases d'
    have nsK : ∀ {b : Addr} {m : Str → Option Value}, s₁.heap.Ns b m → (hidT s₁.heap H).Ns b m := fun {b m} ⟨o, es, ep, e, d, r⟩ => ⟨o, es, ep, base_of e (noA e d), d, r⟩
    have hKb : K.In (hidT s₁.heap H) := fun b o e => base_of (KX b o e) (by
      cases q : H b with
      | none => rfl
      | some u =>
        have e' : b = a := hA b (by rw [q]; simp)
        subst e'
        rw [hK (by rw [q]; simp)] at e; cases e)
    have hM : Mod K mg (hidT s₁.heap H) := ⟨hKb, nsK hns, ⟨mb, nsK hb, hbb⟩, let ⟨mc, h1, h2⟩ := hlim; ⟨mc, nsK h1, h2⟩⟩
    have e0 : Env0 P w K mg (hidT s₁.heap H) callerA [] s₁ H := ⟨rfl, hM, fun b o e => of_hidT e, Nat.le_of_eq (hidT_size _ _), trivial, fun b hb => absurd (show b ∈ ([] : List Addr) from hb) (by simp), hok, .of_eq hg⟩
    refine codeAny_mono ((F _ hKb (nsK hns)).run callerA [] s₁ H ⟨[.ref a], []⟩ [.ref a] [.ref a] _ _ hr e0 (hbind s₁ (.ref a)) (.cons rfl .nil) (hsp H hO hS)) fun r s' h => ?_
    cases r with
    | error e => exact (hCX H e s' h).elim
    | ok fl =>
      cases fl with
      | next => exact False.elim h
      | brk => exact False.elim h
      | cont => exact False.elim h
      | ret u =>
        obtain ⟨v, H', os, bare, un, hok', r', q⟩ := h
        have q' : v = .bl true := q
        subst q'
        obtain rfl : u = Value.bool true := r'
        refine ⟨rfl, OldK.of_keep fun b o e => ?_, os, bare⟩
        cases q : H b with
        | none => exact un.keep b o e q (by intro z; exact absurd (show b ∈ ([] : List Addr) from z) (by simp)) (by simp)
        | some u =>
          rcases hO b with z | ⟨ob, xs, z⟩
          · rw [q] at z; cases z
          · have z2 := un.frzs b ob _ z
            obtain ⟨e1, _⟩ := hok b _ z
            obtain ⟨e2, _⟩ := hok' b _ z2
            rw [e] at e1; cases e1
            exact e2
  cases hk : K.lookup a with
  | some o =>
    -- the script is one of the module's own objects
    have e := KX a o hk
    rw [ha] at e
    cases e
    refine core (fun _ => none) (fun _ => .inl rfl) (.inr ⟨_, vs.toArray, _, hk, rfl, rfl, rfl, by rw [List.size_toArray, lenV]; exact hl, by simpa using rv⟩) (fun b u z => by have z' : (none : Option HO) = some u := z; cases z') (fun b z => absurd rfl z) fun z => absurd rfl z
  | none =>
    refine core (fun b => if b = a then some (.frz { cls := .type "list", data := .seq vs.toArray } (.lst (ns.map V.int))) else none) (fun b => ?_) (.inl (.inr ⟨{ cls := .type "list", data := .seq vs.toArray }, if_pos rfl⟩)) (fun b u z => ?_) (fun b z => ?_) fun _ => hk
    · by_cases hb : b = a
      · exact .inr ⟨_, _, if_pos hb⟩
      · exact .inl (if_neg hb)
    · by_cases hb : b = a
      · have z' := (if_pos hb).symm.trans z
        cases z'
        subst hb
        exact ⟨ha, by rw [List.length_map]; exact hl, vs, _, rv, ha⟩
      · have z' := (if_neg hb).symm.trans z
        cases z'
    · by_cases hb : b = a
      · exact hb
      · exact absurd (if_neg hb) z
end L2

namespace L2
open PySem PySem.Spec PyProof.Rows

theorem walk_of {l : PySem.W.OpenLaw} {n k : Nat} {q : Program} {loose : List Str} {XP : (Str → Option Value) → Heap → Prop} {YP : World → Heap → Prop} {d : DefRec} {K : Params → PySem.W.Frag} {CX : World → CXT} {sp : World → Sp} {x : Str}
    (hn : l.most = some n) (hn2 : n ≤ sizeLine) (hdf : d.params.defaults = []) (hr : Room k callerA)
    (hY : ∀ (w : World) (h : Heap), YP w h → (K w.params).In h)
    (F : ∀ (w : World) (mg : Str → Option Value) (fa : Addr) (h : Heap), (K w.params).In h → h.Ns mainGlobals mg → mg d.name = some (.ref fa) →
      ∃ fd : FuncData, (∀ (s : Shared) (u : Value), BindsTo s fd ⟨[u], []⟩ [(x, u)]) ∧
        ∀ base : Heap, (K w.params).In base → base.Ns mainGlobals mg → FnOk l.prog w (K w.params) mg base (CX w) k fa fd [x] (sp w))
    (hsp : ∀ (w : World) (H : Hp) (a : Addr) (ns : List Int), ns.length ≤ n → Only H → SqL (K w.params) H a (ns.map V.int) → sp w [.ref a] H (fun v _ => v = .bl true) fun _ _ _ => False)
    (hCX : ∀ (w : World) (H : Hp) (s : Shared) (e : Value) (s' : Shared), CX w [] H s (fun _ _ _ => False) e s' → False) :
    PySem.W.WalkO q loose XP YP l.row.toRowW d [] (fun f vs => PySem.call f vs) := by
  refine Att.attach_call hn hdf fun w s₀ s₁ mg mb fa o pm cd doc a vs ns G Y ho hd hcd hmg hobj hints hlen hg => ?_
  have KX := hY w _ Y
  obtain ⟨fd, hb, hF⟩ := F w mg fa _ KX G.T.g hmg
  exact law_call KX G.T.g G.T.b G.T.builtins G.T.nolimit hg hobj hints (Nat.le_trans hlen hn2) hr hF hb (fun H hO hS => hsp w H a ns hlen hO hS) fun H e s' => hCX w H s₁ e s'
end L2



namespace L2
open PySem PySem.Spec PyProof.Rows

noncomputable def inClass (s : Stmt) (j : Nat) : Stmt := match s with
  | .ClassDef _ _ _ body _ _ _ _ _ _ _ => body.getD j (.Pass ⟨0, 0, 0, 0⟩)
  | _ => .Pass ⟨0, 0, 0, 0⟩
noncomputable def defArgs (s : Stmt) : Arguments := match s with
  | .FunctionDef _ a _ _ _ _ _ _ _ _ => a
  | _ => { posonlyargs := [], args := [], vararg := none, kwonlyargs := [], kw_defaults := [], kwarg := none, defaults := [] }
noncomputable def defBody (s : Stmt) : List Stmt := match s with
  | .FunctionDef _ _ b _ _ _ _ _ _ _ => b
  | _ => []
noncomputable def defScope (s : Stmt) : Scope := match s with
  | .FunctionDef _ _ _ _ _ _ sc _ _ _ => sc
  | _ => { kind := .function, names := [], isGenerator := false, isCoroutine := false }

noncomputable abbrev CX0 : CXT := fun _ _ _ _ _ _ => False
structure Fun (K : PySem.W.Frag) (x qual : Str) (st : Stmt) (f : Addr) (fd : FuncData) : Prop where
  ex : ∃ (oc : Value) (od : Option Addr) (kV doc pm : Value) (an : Option Addr) (cdv ct : Value) (osl : Array (Option Value)),
    fd = PySem.W.fnOf x qual (defArgs st) (defBody st) (defScope st) .none kV doc pm an cdv ct ∧ K.lookup f = some ⟨oc, od, .func fd, osl⟩ ∧ PySem.W.codeIn K cdv qual = true
  kp : PySem.W.keepIn K (.ref f) = true
section
variable {P : Program} {w : World} {K : PySem.W.Frag} {mg : Str → Option Value} {base : Heap}
theorem Fun.ok {x qual : Str} {st : Stmt} {f : Addr} {fd : FuncData} {N ps : List Str} {k : Nat} {sp : Sp} (F : Fun K x qual st f fd) (S : FnScope N ps (defScope st)) (len : ∀ vs H Q E, sp vs H Q E → vs.length = ps.length)
    (hbody : ∀ (cdv : Value) (A : Around) (outer : List Env) (s : Shared) (H : Hp) (vs : List V) (Q : VK) (E : XK), Room k (A.deeper (envOfC qual (defScope st) s.heap.objs.size f cdv)) → sp vs H Q E →
      ∃ t, PSs (cxOf CX0 P w K mg base N qual (defScope st) f cdv A outer s H E).nox (defBody st) t ∧ t { nx := fun _ H' => Q .non H', rt := Q } (start N vs) H) : FnOk P w K mg base CX0 (k + 1) f fd ps sp := by
  obtain ⟨oc, od, kV, doc, pm, an, cdv, ct, osl, rfl, lk, hcd⟩ := F.ex
  refine fn_of lk hcd S len fun A outer s H vs Q E hr hsp => ?_
  obtain ⟨t, h, q⟩ := hbody cdv A outer s H vs Q E hr hsp
  exact ⟨t, h.nox, q⟩
theorem Fun.binds {x qual : Str} {st : Stmt} {f : Addr} {fd : FuncData} {ps : List Str} (F : Fun K x qual st f fd)
    (h : ∀ (kV doc pm : Value) (an : Option Addr) (cdv ct : Value) (us : List Value), us.length = ps.length → bindArgs (PySem.W.fnOf x qual (defArgs st) (defBody st) (defScope st) .none kV doc pm an cdv ct) ⟨us, []⟩ = pure (ps.zip us)) : Binds K fd ps [] := by
  obtain ⟨oc, od, kV, doc, pm, an, cdv, ct, osl, rfl, lk, hcd⟩ := F.ex
  exact .all (h kV doc pm an cdv ct)
theorem fun_mk {x qual : Str} {st : Stmt} {f : Addr} {oc : Value} {od an : Option Addr} {osl : Array (Option Value)} {kV doc pm cdv ct : Value} (l : K.lookup f = some ⟨oc, od, .func (PySem.W.fnOf x qual (defArgs st) (defBody st) (defScope st) .none kV doc pm an cdv ct), osl⟩)
    (c : PySem.W.codeIn K cdv qual = true) (k : PySem.W.keepIn K (.ref f) = true) : Fun K x qual st f (PySem.W.fnOf x qual (defArgs st) (defBody st) (defScope st) .none kV doc pm an cdv ct) := ⟨⟨oc, od, kV, doc, pm, an, cdv, ct, osl, rfl, l, c⟩, k⟩
end
section
variable {X : Cx}
end

noncomputable def Same (H H' : Hp) : Prop := ∀ b o, H b = some o → H' b = some o
theorem Same.refl (H : Hp) : Same H H := fun _ _ h => h
theorem Same.trans {H H1 H2 : Hp} (a : Same H H1) (b : Same H1 H2) : Same H H2 := fun c o h => b c o (a c o h)
theorem Same.free {H H' : Hp} (e : Same H H') {l : Addr} (h : H' l = Option.none) : H l = Option.none := by
  cases q : H l with
  | none => rfl
  | some o =>
    rw [e l o q] at h
    cases h
theorem Same.seq {K : PySem.W.Frag} {H H' : Hp} {a : Addr} {xs : List V} (e : Same H H') (h : SqL K H a xs) : SqL K H' a xs := by
  rcases h with (h | ⟨o, h⟩) | h
  · exact .inl (.inl (e _ _ h))
  · exact .inl (.inr ⟨o, e _ _ h⟩)
  · exact .inr h

end L2

set_option maxHeartbeats 4000000
section
namespace L3
open PySem

noncomputable abbrev Xc := Nat × Option Nat
inductive D where
  | non | bl (b : Bool) | int (i : Int) | str (s : Str) | ref (n : Nat) | tup (ds : List D) | fl (ds : List D)
inductive GO where
  | lst (ds : List D) | ins (c : Nat) (fs : List (Str × D)) | dct (kvs : List (Sum Int Str × D)) | exc (x : Xc)
noncomputable abbrev G := List GO
noncomputable abbrev S3 := List (Option D)
inductive Res (α : Type) where
  | ok (a : α) (g : G) | raise (x : Xc) (g : G) | stuck
noncomputable def Res.bind {α β : Type} : Res α → (α → G → Res β) → Res β
  | .ok a g, k => k a g
  | .raise e g, _ => .raise e g
  | .stuck, _ => .stuck
inductive Out where
  | nx (σ : S3) (g : G) | rt (d : D) (g : G) | bk (σ : S3) (g : G) | ct (σ : S3) (g : G) | raise (x : Xc) (σ : S3) (g : G) | stuck
noncomputable abbrev ME := S3 → G → Res D
noncomputable abbrev MT := S3 → G → Res Bool
noncomputable abbrev MA := S3 → G → Res (List D)
noncomputable abbrev MS := S3 → G → Out
noncomputable abbrev MF := List D → G → Res D
theorem Res.bind_ok {α β : Type} (a : α) (g : G) (k : α → G → Res β) : (Res.ok a g).bind k = k a g := rfl
noncomputable def SZ : Nat := 1000000
noncomputable def mVar (i : Nat) : ME := fun σ g => match σ[i]? with
  | some (some d) => .ok d g
  | _ => .stuck
noncomputable def mLit (d : D) : ME := fun _ g => .ok d g
noncomputable def mOp1 (f : D → G → Res D) (a : ME) : ME := fun σ g => (a σ g).bind f
noncomputable def mOp2 (f : D → D → G → Res D) (a b : ME) : ME := fun σ g => (a σ g).bind fun x g1 => (b σ g1).bind fun y g2 => f x y g2
noncomputable def mNil : MA := fun _ g => .ok [] g
noncomputable def mCons (a : ME) (r : MA) : MA := fun σ g => (a σ g).bind fun x g1 => (r σ g1).bind fun xs g2 => .ok (x :: xs) g2
noncomputable def mOpA (f : List D → G → Res D) (a : MA) : ME := fun σ g => (a σ g).bind f
noncomputable def mTest (a : ME) : MT := fun σ g => (a σ g).bind fun d g1 => match d with
  | .bl b => .ok b g1
  | _ => .stuck
noncomputable def mNotT (a : MT) : MT := fun σ g => (a σ g).bind fun b g1 => .ok (!b) g1
noncomputable def mAndT (a b : MT) : MT := fun σ g => (a σ g).bind fun c g1 => if c = true then b σ g1 else .ok false g1
noncomputable def mOrT (a b : MT) : MT := fun σ g => (a σ g).bind fun c g1 => if c = true then .ok true g1 else b σ g1
noncomputable def mNot (a : ME) : ME := fun σ g => (a σ g).bind fun d g1 => match d with
  | .bl b => .ok (.bl (!b)) g1
  | _ => .stuck
noncomputable def mAnd (a b : ME) : ME := fun σ g => (a σ g).bind fun d g1 => match d with
  | .bl c => if c = true then b σ g1 else .ok (.bl false) g1
  | _ => .stuck
noncomputable def mIfE (c : MT) (a b : ME) : ME := fun σ g => (c σ g).bind fun t g1 => if t = true then a σ g1 else b σ g1
noncomputable def mChain (f f' : D → D → G → Res D) (a b c : ME) : ME := fun σ g => (a σ g).bind fun x g1 => (b σ g1).bind fun y g2 => (f x y g2).bind fun z g3 => match z with
  | .bl true => (c σ g3).bind fun w g4 => f' y w g4
  | .bl false => .ok (.bl false) g3
  | _ => .stuck
noncomputable def mSkip : MS := fun σ g => .nx σ g
noncomputable def mSeq (a b : MS) : MS := fun σ g => match a σ g with
  | .nx σ' g' => b σ' g'
  | o => o
noncomputable def mExpr (a : ME) : MS := fun σ g => match a σ g with
  | .ok _ g' => .nx σ g'
  | .raise e g' => .raise e σ g'
  | .stuck => .stuck
noncomputable def mRet (a : ME) : MS := fun σ g => match a σ g with
  | .ok d g' => .rt d g'
  | .raise e g' => .raise e σ g'
  | .stuck => .stuck
noncomputable def mIf (c : MT) (a b : MS) : MS := fun σ g => match c σ g with
  | .ok t g' => if t = true then a σ g' else b σ g'
  | .raise e g' => .raise e σ g'
  | .stuck => .stuck
noncomputable def mRaise (c : Nat) (a : MA) : MS := fun σ g => match a σ g with
  | .ok ds g' => if ds.length ≤ SZ then .raise (c, none) σ g' else .stuck
  | .raise e g' => .raise e σ g'
  | .stuck => .stuck
structure MH where
  cs : List Nat
  no : List Nat
  nm : Option Nat
  suite : MS
noncomputable def unName (i : Nat) : Out → Out
  | .nx σ g => .nx (σ.set i none) g
  | .rt d g => .rt d g
  | _ => .stuck
noncomputable def runH : List MH → Xc → S3 → G → Out
  | [], x, σ, g => .raise x σ g
  | h :: r, x, σ, g => if x.1 ∈ h.cs then (match h.nm with
    | none => (match h.suite σ g with
      | .nx σ' g' => .nx σ' g'
      | .rt d g' => .rt d g'
      | _ => .stuck)
    | some i => unName i (h.suite (σ.set i (some (.ref g.length))) (g ++ [.exc x]))) else if x.1 ∈ h.no then runH r x σ g else .stuck
noncomputable def mTry (b : MS) (hs : List MH) : MS := fun σ g => match b σ g with
  | .raise x σ' g' => runH hs x σ' g'
  | o => o
noncomputable abbrev MG := D → S3 → Option S3
noncomputable def gSet (i : Nat) : MG := fun d σ => some (σ.set i (some d))
noncomputable def gSets : List MG → List D → S3 → Option S3
  | [], [], σ => some σ
  | t :: ts, d :: ds, σ => (t d σ).bind fun σ' => gSets ts ds σ'
  | _, _, _ => none
noncomputable def gTup3 (ts : List MG) : MG := fun d σ => match d with
  | .tup ds => gSets ts ds σ
  | _ => none
noncomputable def mAsg (t : MG) (a : ME) : MS := fun σ g => match a σ g with
  | .ok d g' => (match t d σ with
    | some σ' => .nx σ' g'
    | none => .stuck)
  | .raise e g' => .raise e σ g'
  | .stuck => .stuck
structure Src where
  at' : G → Nat → Option (Option D)
  top : Nat
noncomputable abbrev MI := S3 → G → Res Src
noncomputable def forL (src : Src) (t : MG) (body : MS) : Nat → Nat → S3 → G → Out
  | 0, _, _, _ => .stuck
  | f + 1, i, σ, g => match src.at' g i with
    | some (some d) => (match t d σ with
      | some σ1 => (match body σ1 g with
        | .nx σ2 g2 => forL src t body f (i + 1) σ2 g2
        | .ct σ2 g2 => forL src t body f (i + 1) σ2 g2
        | .bk σ2 g2 => .nx σ2 g2
        | o => o)
      | none => .stuck)
    | some none => .nx σ g
    | none => .stuck
noncomputable def mFor (it : MI) (t : MG) (body : MS) : MS := fun σ g => match it σ g with
  | .ok src g' => forL src t body (src.top + 1) 0 σ g'
  | .raise e g' => .raise e σ g'
  | .stuck => .stuck
noncomputable def compL (src : Src) (t : MG) (c : MT) (e : ME) : Nat → Nat → S3 → G → List D → Res (List D)
  | 0, _, _, _, _ => .stuck
  | f + 1, i, σ, g, acc => match src.at' g i with
    | some (some d) => (match t d σ with
      | some σ1 => (match c σ1 g with
        | .ok b g1 => if b = true then (match e σ1 g1 with
          | .ok y g2 => compL src t c e f (i + 1) σ1 g2 (acc ++ [y])
          | _ => .stuck) else compL src t c e f (i + 1) σ1 g1 acc
        | _ => .stuck)
      | none => .stuck)
    | some none => .ok acc g
    | none => .stuck
noncomputable def capt (n : Nat) (cap : List Nat) (σ : S3) : S3 := List.replicate n none ++ cap.map fun i => (σ[i]?).getD none
noncomputable def newL (ds : List D) (g : G) : Res D := if ds.length ≤ SZ then .ok (.ref g.length) (g ++ [.lst ds]) else .stuck
noncomputable def pTup (xs : List D) (g : G) : Res D := if xs.length ≤ SZ then .ok (.tup xs) g else .stuck
noncomputable def mComp (it : MI) (n : Nat) (cap : List Nat) (t : MG) (c : MT) (e : ME) : ME := fun σ g => match it σ g with
  | .ok src g1 => if src.top ≤ SZ then (match compL src t c e (src.top + 1) 0 (capt n cap σ) g1 [] with
    | .ok ds g2 => .ok (.ref g2.length) (g2 ++ [.lst ds])
    | _ => .stuck) else .stuck
  | _ => .stuck
noncomputable def mTrue : MT := fun _ g => .ok true g
noncomputable def mDef (k n : Nat) (body : MS) : MF := fun ds g => if ds.length = k then (match body (ds.map some ++ List.replicate n none) g with
  | .nx _ g' => .ok .non g'
  | .rt d g' => .ok d g'
  | .raise e _ g' => .raise e g'
  | _ => .stuck) else .stuck
noncomputable def mCall (f : MF) (a : MA) : ME := fun σ g => (a σ g).bind f
noncomputable def mMake (c : Nat) (f : MF) (a : MA) : ME := fun σ g => (a σ g).bind fun xs g1 => (f (.ref g1.length :: xs) (g1 ++ [.ins c []])).bind fun d g2 => match d with
  | .non => .ok (.ref g1.length) g2
  | _ => .stuck
noncomputable def mAttr (cs : List Nat) (f : Str) (o : ME) : ME := mOp1 (fun x g => match x with
  | .ref n => (match g[n]? with
    | some (.ins c fs) => if c ∈ cs then (match fs.lookup f with
      | some d => .ok d g
      | none => .stuck) else .stuck
    | _ => .stuck)
  | _ => .stuck) o
noncomputable def putG (f : Str) (v : D) : List (Str × D) → List (Str × D)
  | [] => [(f, v)]
  | (g, x) :: r => if g = f then (g, v) :: r else (g, x) :: putG f v r
noncomputable def mSetAttr (cs : List Nat) (f : Str) (o v : ME) : MS := fun σ g => match v σ g with
  | .ok y g1 => (match o σ g1 with
    | .ok (.ref n) g2 => (match g2[n]? with
      | some (.ins c fs) => if c ∈ cs ∧ fs.length < 100 then .nx σ (g2.set n (.ins c (putG f y fs))) else .stuck
      | _ => .stuck)
    | .raise e g' => .raise e σ g'
    | _ => .stuck)
  | .raise e g' => .raise e σ g'
  | .stuck => .stuck
noncomputable def ixD (n : Nat) (i : Int) : Option Nat := if 0 ≤ i then (if i < n then some i.toNat else none) else if -(n : Int) ≤ i then some (i + n).toNat else none
noncomputable def mSetIx (o i v : ME) : MS := fun σ g => match v σ g with
  | .ok y g1 => (match o σ g1 with
    | .ok (.ref n) g2 => (match i σ g2 with
      | .ok (.int k) g3 => (match g3[n]? with
        | some (.lst ds) => (match ixD ds.length k with
          | some j => .nx σ (g3.set n (.lst (ds.set j y)))
          | none => .stuck)
        | _ => .stuck)
      | .raise e g' => .raise e σ g'
      | _ => .stuck)
    | .raise e g' => .raise e σ g'
    | _ => .stuck)
  | .raise e g' => .raise e σ g'
  | .stuck => .stuck

noncomputable def srcSeq (d : D) (g : G) : Res Src := match d with
  | .tup ds => .ok ⟨fun _ i => some ds[i]?, ds.length⟩ g
  | .fl ds => .ok ⟨fun _ i => some ds[i]?, ds.length⟩ g
  | .ref n => (match g[n]? with
    | some (.lst ds) => .ok ⟨fun g i => (match g[n]? with | some (.lst es) => some es[i]? | _ => none), ds.length⟩ g
    | _ => .stuck)
  | _ => .stuck
noncomputable def mItSeq (a : ME) : MI := fun σ g => (a σ g).bind srcSeq
noncomputable def srcRange (lo : Int) (n : Nat) : Src := ⟨fun _ i => some (if i < n then some (.int (lo + i)) else none), n⟩
noncomputable def inR (j : Int) : Prop := -(2 ^ 62) ≤ j ∧ j < 2 ^ 62
noncomputable instance (j : Int) : Decidable (inR j) := inferInstanceAs (Decidable (_ ∧ _))
noncomputable def mItRange1 (a : ME) : MI := fun σ g => (a σ g).bind fun d g1 => match d with
  | .int j => if inR j then .ok (srcRange 0 j.toNat) g1 else .stuck
  | _ => .stuck
noncomputable def mItRange2 (a b : ME) : MI := fun σ g => (a σ g).bind fun d g1 => (b σ g1).bind fun d' g2 => match d, d' with
  | .int i, .int j => if inR i ∧ inR j then .ok (srcRange i (j - i).toNat) g2 else .stuck
  | _, _ => .stuck
noncomputable def seqOf (g : G) : D → Option (Bool × List D)
  | .tup ds => some (false, ds)
  | .fl ds => some (true, ds)
  | .ref n => (match g[n]? with
    | some (.lst ds) => some (true, ds)
    | _ => none)
  | _ => none
noncomputable def srcZip (d1 d2 : D) (g : G) : Res Src := match seqOf g d1, seqOf g d2 with
  | some (_, xs), some (_, ys) => .ok ⟨fun g i => (match seqOf g d1, seqOf g d2 with
    | some (_, xs), some (_, ys) => (match xs[i]?, ys[i]? with
      | some x, some y => some (some (.tup [x, y]))
      | _, _ => some none)
    | _, _ => none), min xs.length ys.length⟩ g
  | _, _ => .stuck
noncomputable def mItZip (a b : ME) : MI := fun σ g => (a σ g).bind fun x g1 => (b σ g1).bind fun y g2 => srcZip x y g2

noncomputable def pAdd (x y : D) (g : G) : Res D := match x, y with
  | .int i, .int j => .ok (.int (i + j)) g
  | .ref n, .ref m => (match g[n]?, g[m]? with
    | some (.lst xs), some (.lst ys) => if xs.length + ys.length ≤ SZ then .ok (.ref g.length) (g ++ [.lst (xs ++ ys)]) else .stuck
    | _, _ => .stuck)
  | _, _ => .stuck
noncomputable def pSub (x y : D) (g : G) : Res D := match x, y with
  | .int i, .int j => .ok (.int (i - j)) g
  | _, _ => .stuck
noncomputable def cM (i : Int) : Prop := -(2 ^ 64) < i ∧ i < 2 ^ 64
noncomputable instance (j : Int) : Decidable (cM j) := inferInstanceAs (Decidable (_ ∧ _))
noncomputable def pMul (x y : D) (g : G) : Res D := match x, y with
  | .int i, .int j => if cM i ∨ cM j then .ok (.int (i * j)) g else .stuck
  | .ref n, .int k => (match g[n]? with
    | some (.lst xs) => if xs.length * k.toNat ≤ SZ ∧ -(2 ^ 63) ≤ k ∧ k < 2 ^ 63 then .ok (.ref g.length) (g ++ [.lst (List.replicate k.toNat xs).flatten]) else .stuck
    | _ => .stuck)
  | _, _ => .stuck
noncomputable def pFdiv (x y : D) (g : G) : Res D := match x, y with
  | .int i, .int j => if 0 < j ∧ j < 1073741824 then .ok (.int (i / j)) g else .stuck
  | _, _ => .stuck
noncomputable def pMod (x y : D) (g : G) : Res D := match x, y with
  | .int i, .int j => if 0 < j then .ok (.int (i % j)) g else .stuck
  | _, _ => .stuck
noncomputable def pNeg (x : D) (g : G) : Res D := match x with
  | .int i => .ok (.int (-i)) g
  | _ => .stuck
noncomputable def pCmp (r : Int → Int → Bool) (x y : D) (g : G) : Res D := match x, y with
  | .int i, .int j => .ok (.bl (r i j)) g
  | _, _ => .stuck
noncomputable def pLt := pCmp fun i j => decide (i < j)
noncomputable def pLe := pCmp fun i j => decide (i ≤ j)
noncomputable def pGt := pCmp fun i j => decide (j < i)
noncomputable def b2I (b : Bool) : Int := if b then 1 else 0
noncomputable def eqT (_ : G) (x y : D) : Option Bool := match x, y with
  | .int i, .int j => some (i == j)
  | .str s, .str t => some (s == t)
  | .bl a, .bl b => some (a == b)
  | _, _ => none
noncomputable def pEq (x y : D) (g : G) : Res D := match eqT g x y with
  | some b => .ok (.bl b) g
  | none => .stuck
noncomputable def intsD : List D → Option (List Int)
  | [] => some []
  | .int i :: r => (intsD r).map (i :: ·)
  | _ :: _ => none
noncomputable def neT (g : G) (x y : D) : Option Bool := match x, y with
  | .non, .non => some true
  | .non, .int _ => some false
  | .int _, .non => some false
  | .ref n, .ref m => (match g[n]?, g[m]? with
    | some (.lst xs), some (.lst ys) => (match intsD xs, intsD ys with
      | some is, some js => some (decide (is = js))
      | _, _ => none)
    | _, _ => none)
  | x, y => eqT g x y
noncomputable def pNe (x y : D) (g : G) : Res D := match neT g x y with
  | some b => .ok (.bl (!b)) g
  | none => .stuck
noncomputable def lolD (g : G) : List D → Option (List (List Int))
  | [] => some []
  | .ref n :: r => (match g[n]? with
    | some (.lst ds) => (match intsD ds, lolD g r with
      | some is, some rs => some (is :: rs)
      | _, _ => none)
    | _ => none)
  | _ :: _ => none
noncomputable def pNeLL (x y : D) (g : G) : Res D := match x, y with
  | .ref n, .ref m => (match g[n]?, g[m]? with
    | some (.lst xs), some (.lst ys) => (match lolD g xs, lolD g ys with
      | some a, some b => .ok (.bl (!decide (a = b))) g
      | _, _ => .stuck)
    | _, _ => .stuck)
  | _, _ => .stuck
noncomputable def isNon : D → Bool
  | .non => true
  | _ => false
noncomputable def pIs (x y : D) (g : G) : Res D := match y with
  | .non => .ok (.bl (isNon x)) g
  | _ => .stuck
noncomputable def pIsNot (x y : D) (g : G) : Res D := match y with
  | .non => .ok (.bl (!isNon x)) g
  | _ => .stuck
noncomputable def atD {α : Type} (xs : List α) (i : Int) : Option α := (ixD xs.length i).bind fun j => xs[j]?
noncomputable def pIx (x y : D) (g : G) : Res D := match x, y with
  | .tup ds, .int i => (match atD ds i with
    | some d => .ok d g
    | none => .stuck)
  | .fl ds, .int i => (match atD ds i with
    | some d => .ok d g
    | none => .stuck)
  | .ref n, .int i => (match g[n]? with
    | some (.lst ds) => (match atD ds i with
      | some d => .ok d g
      | none => .stuck)
    | _ => .stuck)
  | .str s, .int i => if s.length ≤ SZ then (match atD s.cps.toList i with
    | some c => .ok (.str ⟨#[c]⟩) g
    | none => .stuck) else .stuck
  | _, _ => .stuck
noncomputable def sIxD (n d : Nat) : Option Int → Nat
  | none => d
  | some v => if v < 0 then (v + (n : Int)).toNat else min v.toNat n
noncomputable def cutD {α : Type} (xs : List α) (lo hi : Option Int) : List α := (xs.drop (sIxD xs.length 0 lo)).take (sIxD xs.length xs.length hi - sIxD xs.length 0 lo)
noncomputable def pSlice (x : D) (lo hi : Option Int) (g : G) : Res D := match x with
  | .fl ds => .ok (.ref g.length) (g ++ [.lst (cutD ds lo hi)])
  | .ref n => (match g[n]? with
    | some (.lst ds) => .ok (.ref g.length) (g ++ [.lst (cutD ds lo hi)])
    | _ => .stuck)
  | _ => .stuck
noncomputable abbrev MO := S3 → G → Res (Option Int)
noncomputable def mNoPart : MO := fun _ g => .ok none g
noncomputable def mPart (a : ME) : MO := fun σ g => (a σ g).bind fun d g1 => match d with
  | .int i => .ok (some i) g1
  | _ => .stuck
noncomputable def mSlice (a : ME) (lo hi : MO) : ME := fun σ g => (a σ g).bind fun x g1 => (lo σ g1).bind fun l g2 => (hi σ g2).bind fun h g3 => pSlice x l h g3
noncomputable def pLen (x : D) (g : G) : Res D := match x with
  | .tup ds => .ok (.int ds.length) g
  | .fl ds => .ok (.int ds.length) g
  | .ref n => (match g[n]? with
    | some (.lst ds) => .ok (.int ds.length) g
    | _ => .stuck)
  | _ => .stuck
noncomputable def pTuple (x : D) (g : G) : Res D := match x with
  | .tup ds => .ok (.tup ds) g
  | .fl ds => .ok (.tup ds) g
  | .ref n => (match g[n]? with
    | some (.lst ds) => .ok (.tup ds) g
    | _ => .stuck)
  | _ => .stuck
noncomputable def pList (x : D) (g : G) : Res D := match x with
  | .tup ds => .ok (.ref g.length) (g ++ [.lst ds])
  | .fl ds => .ok (.ref g.length) (g ++ [.lst ds])
  | .ref n => (match g[n]? with
    | some (.lst ds) => .ok (.ref g.length) (g ++ [.lst ds])
    | _ => .stuck)
  | _ => .stuck
noncomputable def pInt (x : D) (g : G) : Res D := match x with
  | .int i => .ok (.int i) g
  | .bl b => .ok (.int (if b then 1 else 0)) g
  | _ => .stuck
noncomputable def mAppend (o e : ME) : ME := fun σ g => (o σ g).bind fun x g1 => match x with
  | .ref n => (match g1[n]? with
    | some (.lst _) => (e σ g1).bind fun y g2 => (match g2[n]? with
      | some (.lst ds) => if ds.length < SZ then .ok .non (g2.set n (.lst (ds ++ [y]))) else .stuck
      | _ => .stuck)
    | _ => .stuck)
  | _ => .stuck
inductive Ty where
  | non | bool | int | str | tuple | list | dict
  deriving DecidableEq
noncomputable def Ty.name : Ty → String
  | .non => "NoneType" | .bool => "bool" | .int => "int" | .str => "str" | .tuple => "tuple" | .list => "list" | .dict => "dict"
noncomputable def tyLe (t c : Ty) : Bool := t == c || (t == .bool && c == .int)
noncomputable def tyOf (g : G) : D → Option Ty
  | .non => some .non
  | .bl _ => some .bool
  | .int _ => some .int
  | .str _ => some .str
  | .tup _ => some .tuple
  | .fl _ => some .list
  | .ref n => (match g[n]? with
    | some (.lst _) => some .list
    | some (.dct _) => some .dict
    | _ => none)
noncomputable def pIsin (c : Ty) (x : D) (g : G) : Res D := match tyOf g x with
  | some t => .ok (.bl (tyLe t c)) g
  | none => .stuck
noncomputable def pIsinX (all cs : List Nat) (x : D) (g : G) : Res D := match x with
  | .ref n => (match g[n]? with
    | some (.exc e) => if e.1 ∈ all then .ok (.bl (decide (e.1 ∈ cs))) g else .stuck
    | _ => .stuck)
  | .non => .ok (.bl false) g
  | _ => .stuck
noncomputable def allB : List D → Option Bool
  | [] => some true
  | .bl b :: r => (allB r).map (b && ·)
  | _ :: _ => none
noncomputable def pAll (x : D) (g : G) : Res D := match x with
  | .ref n => (match g[n]? with
    | some (.lst ds) => (match allB ds with
      | some b => .ok (.bl b) g
      | none => .stuck)
    | _ => .stuck)
  | _ => .stuck
noncomputable def flatD : D → Bool
  | .non => true
  | .bl _ => true
  | .int _ => true
  | .str _ => true
  | _ => false
noncomputable def eqF (x y : D) : Bool := match x, y with
  | .non, .non => true
  | .bl a, .bl b => a == b
  | .int i, .int j => i == j
  | .str s, .str t => s == t
  | .bl a, .int j => b2I a == j
  | .int i, .bl b => i == b2I b
  | _, _ => false
noncomputable def pIn (neg : Bool) (x y : D) (g : G) : Res D := match seqOf g y with
  | some (_, ds) => if flatD x = true ∧ ds.all flatD = true then .ok (.bl (if neg = true then !(ds.any fun d => eqF d x) else ds.any fun d => eqF d x)) g else .stuck
  | none => .stuck
end L3

end
section
namespace L3
open PySem PySem.Spec PyProof.Rows L2

noncomputable def SqF (K : PySem.W.Frag) (H : Hp) (a : Addr) (xs : List V) : Prop := (∃ o, H a = some (.frz o (.lst xs))) ∨ SqL K (fun _ => none) a xs
theorem SqF.sq {K : PySem.W.Frag} {H : Hp} {a : Addr} {xs : List V} (h : SqF K H a xs) : SqL K H a xs := by
  rcases h with ⟨o, h⟩ | (h | ⟨o, h⟩) | h
  · exact .inl (.inr ⟨o, h⟩)
  · cases h
  · cases h
  · exact .inr h
mutual
inductive Den (K : PySem.W.Frag) (μ : List Addr) (H : Hp) : V → D → Prop where
  | non : Den K μ H .non .non
  | bl (b : Bool) : Den K μ H (.bl b) (.bl b)
  | int (i : Int) : Den K μ H (.int i) (.int i)
  | str (x : Str) : Den K μ H (.str x) (.str x)
  | ref {n : Nat} {a : Addr} (h : μ[n]? = some a) : Den K μ H (.ref a) (.ref n)
  | tup {a : Addr} {vs : List V} {ds : List D} (h : SqT K H a vs) (hs : Dens K μ H vs ds) : Den K μ H (.ref a) (.tup ds)
  | fl {a : Addr} {vs : List V} {ds : List D} (h : SqF K H a vs) (hs : Dens K μ H vs ds) : Den K μ H (.ref a) (.fl ds)
inductive Dens (K : PySem.W.Frag) (μ : List Addr) (H : Hp) : List V → List D → Prop where
  | nil : Dens K μ H [] []
  | cons {v : V} {d : D} {vs : List V} {ds : List D} (h : Den K μ H v d) (hs : Dens K μ H vs ds) : Dens K μ H (v :: vs) (d :: ds)
end

structure Ext (K : PySem.W.Frag) (μ : List Addr) (H : Hp) (μ' : List Addr) (H' : Hp) : Prop where
  pre : ∃ t, μ' = μ ++ t
  tup : ∀ a xs, SqT K H a xs → SqT K H' a xs
  fl : ∀ a xs, SqF K H a xs → SqF K H' a xs
section
variable {K : PySem.W.Frag} {ca : Nat → Addr} {μ μ' μ'' : List Addr} {H H' H'' : Hp}
theorem Ext.refl : Ext K μ H μ H := ⟨⟨[], by simp⟩, fun _ _ h => h, fun _ _ h => h⟩
theorem Ext.trans (a : Ext K μ H μ' H') (b : Ext K μ' H' μ'' H'') : Ext K μ H μ'' H'' := by
  obtain ⟨t, e⟩ := a.pre
  obtain ⟨u, f⟩ := b.pre
  exact ⟨⟨t ++ u, by rw [f, e, List.append_assoc]⟩, fun x xs h => b.tup x xs (a.tup x xs h), fun x xs h => b.fl x xs (a.fl x xs h)⟩
theorem Ext.at (e : Ext K μ H μ' H') {n : Nat} {a : Addr} (h : μ[n]? = some a) : μ'[n]? = some a := by
  obtain ⟨t, rfl⟩ := e.pre
  have hl : n < μ.length := (List.getElem?_eq_some_iff.mp h).1
  rw [List.getElem?_append_left hl]
  exact h
mutual
theorem Den.mono (e : Ext K μ H μ' H') : ∀ {v : V} {d : D}, Den K μ H v d → Den K μ' H' v d
  | _, _, .non => .non
  | _, _, .bl b => .bl b
  | _, _, .int i => .int i
  | _, _, .str x => .str x
  | _, _, .ref h => .ref (e.at h)
  | _, _, .tup h hs => .tup (e.tup _ _ h) (Dens.mono e hs)
  | _, _, .fl h hs => .fl (e.fl _ _ h) (Dens.mono e hs)
theorem Dens.mono (e : Ext K μ H μ' H') : ∀ {vs : List V} {ds : List D}, Dens K μ H vs ds → Dens K μ' H' vs ds
  | _, _, .nil => .nil
  | _, _, .cons h hs => .cons (Den.mono e h) (Dens.mono e hs)
end
theorem Dens.length : ∀ {vs : List V} {ds : List D}, Dens K μ H vs ds → vs.length = ds.length
  | _, _, .nil => rfl
  | _, _, .cons _ t => by rw [List.length_cons, List.length_cons, Dens.length t]
theorem Dens.get : ∀ {vs : List V} {ds : List D} {i : Nat} {d : D}, Dens K μ H vs ds → ds[i]? = some d → ∃ v, vs[i]? = some v ∧ Den K μ H v d
  | _, _, _, _, .nil, e => by simp at e
  | _, _, 0, _, .cons r _, e => by simp at e; subst e; exact ⟨_, rfl, r⟩
  | _, _, i + 1, x, .cons _ t, e => by
    obtain ⟨u, h1, h2⟩ := Dens.get (i := i) (d := x) t (by simpa using e)
    exact ⟨u, by simpa using h1, h2⟩
theorem Dens.append : ∀ {vs ws : List V} {ds es : List D}, Dens K μ H vs ds → Dens K μ H ws es → Dens K μ H (vs ++ ws) (ds ++ es)
  | _, _, _, _, .nil, h => h
  | _, _, _, _, .cons a b, h => .cons a (Dens.append b h)
theorem Dens.set {x : V} {u : D} (r : Den K μ H x u) : ∀ {xs : List V} {us : List D} (i : Nat), Dens K μ H xs us → Dens K μ H (xs.set i x) (us.set i u)
  | _, _, _, .nil => .nil
  | _, _, 0, .cons _ t => .cons r t
  | _, _, i + 1, .cons q t => .cons q (Dens.set r i t)
theorem Dens.take : ∀ {xs : List V} {us : List D} (n : Nat), Dens K μ H xs us → Dens K μ H (xs.take n) (us.take n)
  | _, _, 0, _ => .nil
  | _, _, _ + 1, .nil => .nil
  | _, _, n + 1, .cons r t => .cons r (Dens.take n t)
theorem Dens.drop : ∀ {xs : List V} {us : List D} (n : Nat), Dens K μ H xs us → Dens K μ H (xs.drop n) (us.drop n)
  | _, _, 0, r => r
  | _, _, _ + 1, .nil => .nil
  | _, _, n + 1, .cons _ t => Dens.drop n t
theorem Dens.ints (ns : List Int) : Dens K μ H (ns.map V.int) (ns.map D.int) := by
  induction ns with
  | nil => exact .nil
  | cons n r ih => exact .cons (.int n) ih

noncomputable def FRel (K : PySem.W.Frag) (μ : List Addr) (H : Hp) : List (Str × V) → List (Str × D) → Prop := Paired fun p q => p.1 = q.1 ∧ Den K μ H p.2 q.2
noncomputable def KRel (K : PySem.W.Frag) (μ : List Addr) (H : Hp) : List (Key × V) → List (Key × D) → Prop := Paired fun p q => p.1 = q.1 ∧ Den K μ H p.2 q.2
noncomputable def XOb (ca : Nat → Addr) (x : Xc) (o : Obj) : Prop := o.cls = .ref (ca x.1) ∧ o.dict = none
theorem XOb.map {ca : Nat → Addr} {x : Xc} {o : Obj} (h : XOb ca x o) (f : Array Value → Array Value) : XOb ca x (o.mapFields f) := by
  obtain ⟨c, d, dt, sl⟩ := o
  cases dt <;> exact h
noncomputable def XO (ca : Nat → Addr) (a : Addr) (x : Xc) : HO := .ext fun h => ∃ o vs, h.get? a = some o ∧ XOb ca x o ∧ o.data = .fields vs
noncomputable def ORep (K : PySem.W.Frag) (ca : Nat → Addr) (μ : List Addr) (H : Hp) (a : Addr) : GO → Prop
  | .dct ks => ∃ kv, H a = some (.dK kv) ∧ KRel K μ H kv ks
  | .exc x => H a = some (XO ca a x)
  | .lst ds => ∃ vs, H a = some (.lst vs) ∧ Dens K μ H vs ds
  | .ins c fs => ∃ dx fv, H a = some (.ins (ca c) dx fv) ∧ FRel K μ H fv fs
structure GRep (K : PySem.W.Frag) (ca : Nat → Addr) (μ : List Addr) (H : Hp) (g : G) : Prop where
  len : μ.length = g.length
  nd : μ.Nodup
  obj : ∀ (n : Nat) (a : Addr) (o : GO), μ[n]? = some a → g[n]? = some o → ORep K ca μ H a o
structure Rep (K : PySem.W.Frag) (ca : Nat → Addr) (μ : List Addr) (σ3 : S3) (g : G) (σ : L2.St) (H : Hp) : Prop where
  g : GRep K ca μ H g
  len : σ.length = σ3.length
  st : ∀ (i : Nat) (d : D), σ3[i]? = some (some d) → ∃ v, σ[i]? = some (some v) ∧ Den K μ H v d
theorem FRel.mono (e : Ext K μ H μ' H') {fv : List (Str × V)} {fs : List (Str × D)} (h : FRel K μ H fv fs) : FRel K μ' H' fv fs := Paired.imp' (fun _ _ q => ⟨q.1, q.2.mono e⟩) h
theorem KRel.mono (e : Ext K μ H μ' H') {fv : List (Key × V)} {fs : List (Key × D)} (h : KRel K μ H fv fs) : KRel K μ' H' fv fs := Paired.imp' (fun _ _ q => ⟨q.1, q.2.mono e⟩) h
theorem Rep.go {σ3 : S3} {g g' : G} {σ : L2.St} (r : Rep K ca μ σ3 g σ H) (e : Ext K μ H μ' H') (h : GRep K ca μ' H' g') : Rep K ca μ' σ3 g' σ H' :=
  ⟨h, r.len, fun i d z => by obtain ⟨v, h1, h2⟩ := r.st i d z; exact ⟨v, h1, h2.mono e⟩⟩
theorem GRep.addr {g : G} (r : GRep K ca μ H g) {n : Nat} {o : GO} (h : g[n]? = some o) : ∃ a, μ[n]? = some a ∧ ORep K ca μ H a o := by
  have hl : n < g.length := (List.getElem?_eq_some_iff.mp h).1
  have hm : n < μ.length := by rw [r.len]; exact hl
  exact ⟨μ[n], by simp [hm], r.obj n _ o (by simp [hm]) h⟩
theorem ORep.is {a : Addr} {o : GO} (h : ORep K ca μ H a o) : ∃ u, H a = some u := by
  cases o with
  | lst ds => obtain ⟨_, h, _⟩ := h; exact ⟨_, h⟩
  | ins c fs => obtain ⟨_, _, h, _⟩ := h; exact ⟨_, h⟩
  | dct ks => obtain ⟨_, h, _⟩ := h; exact ⟨_, h⟩
  | exc x => exact ⟨_, h⟩
theorem GRep.known {g : G} (r : GRep K ca μ H g) {a : Addr} (h : a ∈ μ) : ∃ u, H a = some u := by
  obtain ⟨n, hn⟩ := List.getElem?_of_mem h
  have hl : n < μ.length := (List.getElem?_eq_some_iff.mp hn).1
  have hg : n < g.length := by rw [← r.len]; exact hl
  exact (r.obj n a g[n] hn (by simp [hg])).is
theorem ext_new {p : Addr} {o : HO} (hp : H p = none) : Ext K μ H μ (upd H p o) := ⟨⟨[], by simp⟩, fun a xs h => by
  rcases h with (h | ⟨u, h⟩) | h
  · exact .inl (.inl (by rw [upd_ne (ne_of_none h hp)]; exact h))
  · exact .inl (.inr ⟨u, by rw [upd_ne (ne_of_none h hp)]; exact h⟩)
  · exact .inr h, fun a xs h => by
  rcases h with ⟨u, h⟩ | h
  · exact .inl ⟨u, by rw [upd_ne (ne_of_none h hp)]; exact h⟩
  · exact .inr h⟩
theorem ORep.mono {a : Addr} {o : GO} (e : Ext K μ H μ' H') (ha : ∀ u, H a = some u → H' a = some u) (h : ORep K ca μ H a o) : ORep K ca μ' H' a o := by
  cases o with
  | lst ds => obtain ⟨vs, h, q⟩ := h; exact ⟨vs, ha _ h, q.mono e⟩
  | ins c fs => obtain ⟨dx, fv, h, q⟩ := h; exact ⟨dx, fv, ha _ h, q.mono e⟩
  | dct ks => obtain ⟨kv, h, q⟩ := h; exact ⟨kv, ha _ h, q.mono e⟩
  | exc x => exact ha _ h
theorem GRep.new {g : G} {p : Addr} {o : HO} (r : GRep K ca μ H g) (hp : H p = none) : GRep K ca μ (upd H p o) g :=
  ⟨r.len, r.nd, fun n a u h1 h2 => (r.obj n a u h1 h2).mono (ext_new hp) fun z hz => by rw [upd_ne (ne_of_none hz hp)]; exact hz⟩
theorem ext_push {p : Addr} {o : HO} (hp : H p = none) : Ext K μ H (μ ++ [p]) (upd H p o) := ⟨⟨[p], rfl⟩, (ext_new (μ := μ) hp).tup, (ext_new (μ := μ) hp).fl⟩
theorem GRep.push {g : G} {p : Addr} {o : HO} {u : GO} (r : GRep K ca μ H g) (hp : H p = none) (ho : ORep K ca (μ ++ [p]) (upd H p o) p u) : GRep K ca (μ ++ [p]) (upd H p o) (g ++ [u]) := by
  have nm : p ∉ μ := fun h => by
    obtain ⟨z, hz⟩ := r.known h
    rw [hp] at hz; cases hz
  refine ⟨by rw [List.length_append, List.length_append, r.len]; rfl, ?_, fun n a w h1 h2 => ?_⟩
  · rw [List.nodup_append]
    exact ⟨r.nd, by simp, fun x hx y hy e => nm (by rw [List.mem_singleton.mp hy] at e; rw [← e]; exact hx)⟩
  · by_cases hn : n < g.length
    · rw [List.getElem?_append_left hn] at h2
      rw [List.getElem?_append_left (by rw [r.len]; exact hn)] at h1
      exact (r.obj n a w h1 h2).mono (ext_push hp) fun z hz => by rw [upd_ne (ne_of_none hz hp)]; exact hz
    · rw [List.getElem?_append_right (by omega)] at h2
      rw [List.getElem?_append_right (by rw [r.len]; omega)] at h1
      have e0 : n - g.length = 0 := by
        have := (List.getElem?_eq_some_iff.mp h2).1
        simp at this; omega
      rw [e0] at h2
      rw [r.len, e0] at h1
      simp at h1 h2
      subst h1 h2
      exact ho
theorem ext_set {a : Addr} {o o' : HO} (h : H a = some o) (no : ∀ xs, o ≠ .tup xs) (nf : ∀ b u, o ≠ .frz b u) : Ext K μ H μ (upd H a o') := ⟨⟨[], by simp⟩, fun b xs hb => by
  rcases hb with (z | ⟨u, z⟩) | z
  · exact .inl (.inl (by rw [upd_ne (ne_of z h (Ne.symm (no xs)))]; exact z))
  · exact .inl (.inr ⟨u, by rw [upd_ne (ne_of z h (Ne.symm (nf u _)))]; exact z⟩)
  · exact .inr z, fun b xs hb => by
  rcases hb with ⟨u, z⟩ | z
  · exact .inl ⟨u, by rw [upd_ne (ne_of z h (Ne.symm (nf u _)))]; exact z⟩
  · exact .inr z⟩
theorem GRep.set {g : G} {n : Nat} {a : Addr} {o o' : HO} {u : GO} (r : GRep K ca μ H g) (hn : μ[n]? = some a) (h : H a = some o) (no : ∀ xs, o ≠ .tup xs) (nf : ∀ b u, o ≠ .frz b u) (ho : ORep K ca μ (upd H a o') a u) :
    GRep K ca μ (upd H a o') (g.set n u) := by
  refine ⟨by rw [List.length_set, r.len], r.nd, fun m b w h1 h2 => ?_⟩
  by_cases e : m = n
  · subst e
    rw [hn] at h1; cases h1
    have hl : m < g.length := by
      rw [← r.len]; exact (List.getElem?_eq_some_iff.mp hn).1
    rw [List.getElem?_set_self hl] at h2; cases h2
    exact ho
  · rw [List.getElem?_set_ne (Ne.symm e)] at h2
    have nb : b ≠ a := fun z => by
      subst z
      have e1 := (List.getElem?_eq_some_iff.mp h1)
      have e2 := (List.getElem?_eq_some_iff.mp hn)
      obtain ⟨l1, q1⟩ := e1
      obtain ⟨l2, q2⟩ := e2
      exact e ((List.getElem_inj r.nd).mp (q1.trans q2.symm))
    exact (r.obj m b w h1 h2).mono (ext_set h no nf) fun z hz => by rw [upd_ne nb]; exact hz

noncomputable abbrev XS := Xc → L2.St → Hp → Prop
noncomputable def FpW (X : Cx) (pins : List (Addr × Obj)) (H : Hp) (b : Addr) : Prop :=
  H b = none ∧ b ≠ X.env.locals ∧ b ∉ X.fs ∧ (b ∈ X.ex ∨ X.s₀.heap.get? b = none) ∧ (∀ x c, X.env.cells.lookup x = some c → c ≠ b) ∧ ∀ p ∈ X.pn ++ pins, p.1 ≠ b
structure Fl (X : Cx) (ca : Nat → Addr) (a : Addr) (x : Xc) (H : Hp) (h : Heap) : Prop where
  fp : FpW X [] H a
  ln : x.2 = none
  ex : ∃ oe vs, h.get? a = some oe ∧ XOb ca x oe ∧ oe.data = .fields vs ∧ 1 < vs.size ∧
    (vs[1]? = some .none ∨ ∃ T oT ts, vs[1]? = some (.ref T) ∧ T ≠ a ∧ FpW X [] H T ∧ h.get? T = some oT ∧ oT.data = .fields ts ∧ 3 < ts.size ∧ (ts[3]? = some .none ∨ ts[3]? = some (rawInt X.env.locals)))
noncomputable def XE (X : Cx) (ca : Nat → Addr) (Φ : XS) : Value → Shared → Prop := fun v s => ∃ a x σ H, v = .ref a ∧ Inv X [] σ H s ∧ Fl X ca a x H s.heap ∧ Φ x σ H
noncomputable abbrev xon (X : Cx) (pn : List (Addr × Obj)) : Cx := { X with pn := pn, xe := fun _ _ => False }
noncomputable abbrev xat (X : Cx) (ca : Nat → Addr) (pn : List (Addr × Obj)) (Φ : XS) : Cx := { X with pn := pn, xe := XE (xon X pn) ca Φ }
noncomputable def RaP (K : PySem.W.Frag) (ca : Nat → Addr) (Φ : XS) (σ : L2.St) (H : Hp) (μ : List Addr) (x : Xc) (g' : G) : Prop := ∀ H' μ', Ext K μ H μ' H' → GRep K ca μ' H' g' → Φ x σ H'
noncomputable def Post (K : PySem.W.Frag) (ca : Nat → Addr) (Φ : XS) (σ : L2.St) (Q : VK) (H : Hp) (μ : List Addr) : Res D → Prop
  | .ok d g' => ∀ v H' μ', Ext K μ H μ' H' → GRep K ca μ' H' g' → Den K μ' H' v d → Q v H'
  | .raise x g' => RaP K ca Φ σ H μ x g'
  | .stuck => False
noncomputable def PostT (K : PySem.W.Frag) (ca : Nat → Addr) (Φ : XS) (σ : L2.St) (Q : Bool → Hp → Prop) (H : Hp) (μ : List Addr) : Res Bool → Prop
  | .ok b g' => ∀ H' μ', Ext K μ H μ' H' → GRep K ca μ' H' g' → Q b H'
  | .raise x g' => RaP K ca Φ σ H μ x g'
  | .stuck => False
noncomputable def PostA (K : PySem.W.Frag) (ca : Nat → Addr) (Φ : XS) (σ : L2.St) (Q : List V → Hp → Prop) (H : Hp) (μ : List Addr) : Res (List D) → Prop
  | .ok ds g' => ∀ vs H' μ', Ext K μ H μ' H' → GRep K ca μ' H' g' → Dens K μ' H' vs ds → Q vs H'
  | .raise x g' => RaP K ca Φ σ H μ x g'
  | .stuck => False
noncomputable def PostS (K : PySem.W.Frag) (ca : Nat → Addr) (Φ : XS) (E : Ends) (H : Hp) (μ : List Addr) : Out → Prop
  | .nx σ3 g' => ∀ σ' H' μ', Ext K μ H μ' H' → Rep K ca μ' σ3 g' σ' H' → E.nx σ' H'
  | .bk σ3 g' => ∀ σ' H' μ', Ext K μ H μ' H' → Rep K ca μ' σ3 g' σ' H' → E.bk σ' H'
  | .ct σ3 g' => ∀ σ' H' μ', Ext K μ H μ' H' → Rep K ca μ' σ3 g' σ' H' → E.ct σ' H'
  | .rt d g' => ∀ v H' μ', Ext K μ H μ' H' → GRep K ca μ' H' g' → Den K μ' H' v d → E.rt v H'
  | .raise x σ3 g' => ∀ σ' H' μ', Ext K μ H μ' H' → Rep K ca μ' σ3 g' σ' H' → Φ x σ' H'
  | .stuck => False
noncomputable def up (K : PySem.W.Frag) (ca : Nat → Addr) (Φ : XS) (m : ME) : TE := fun σ H Q => ∃ σ3 g μ, Rep K ca μ σ3 g σ H ∧ Post K ca Φ σ Q H μ (m σ3 g)
noncomputable def upT (K : PySem.W.Frag) (ca : Nat → Addr) (Φ : XS) (m : MT) : TT := fun σ H Q => ∃ σ3 g μ, Rep K ca μ σ3 g σ H ∧ PostT K ca Φ σ Q H μ (m σ3 g)
noncomputable def upA (K : PySem.W.Frag) (ca : Nat → Addr) (Φ : XS) (m : MA) : TA := fun σ H Q => ∃ σ3 g μ, Rep K ca μ σ3 g σ H ∧ PostA K ca Φ σ Q H μ (m σ3 g)
noncomputable def upS (K : PySem.W.Frag) (ca : Nat → Addr) (Φ : XS) (m : MS) : TS := fun E σ H => ∃ σ3 g μ, Rep K ca μ σ3 g σ H ∧ PostS K ca Φ E H μ (m σ3 g)
noncomputable def PE3 (ca : Nat → Addr) (X : Cx) (e : Expr) (m : ME) : Prop := ∀ pn Φ, PE (xat X ca pn Φ) e (up X.K ca Φ m)
noncomputable def PT3 (ca : Nat → Addr) (X : Cx) (e : Expr) (m : MT) : Prop := ∀ pn Φ, PT (xat X ca pn Φ) e (upT X.K ca Φ m)
noncomputable def PW3 (ca : Nat → Addr) (X : Cx) (e : Expr) (m : MT) : Prop := ∀ pn Φ, PW (xat X ca pn Φ) e (upT X.K ca Φ m)
noncomputable def PA3 (ca : Nat → Addr) (X : Cx) (es : List Expr) (m : MA) : Prop := ∀ pn Φ, PA (xat X ca pn Φ) es (upA X.K ca Φ m)
noncomputable def PS3 (ca : Nat → Addr) (X : Cx) (st : Stmt) (m : MS) : Prop := ∀ pn Φ, PS (xat X ca pn Φ) st (upS X.K ca Φ m)
noncomputable def PSs3 (ca : Nat → Addr) (X : Cx) (sts : List Stmt) (m : MS) : Prop := ∀ pn Φ, PSs (xat X ca pn Φ) sts (upS X.K ca Φ m)
variable {Φ : XS} {σ : L2.St}
theorem RaP.go {x : Xc} {g' : G} (e : Ext K μ H μ' H') (h : RaP K ca Φ σ H μ x g') : RaP K ca Φ σ H' μ' x g' := fun H2 μ2 e2 => h H2 μ2 (e.trans e2)
theorem Post.go {Q : VK} {r : Res D} (e : Ext K μ H μ' H') (h : Post K ca Φ σ Q H μ r) : Post K ca Φ σ Q H' μ' r := by
  cases r with
  | ok d g' => exact fun v H2 μ2 e2 => h v H2 μ2 (e.trans e2)
  | raise _ _ => exact RaP.go e h
  | stuck => exact h
theorem PostT.go {Q : Bool → Hp → Prop} {r : Res Bool} (e : Ext K μ H μ' H') (h : PostT K ca Φ σ Q H μ r) : PostT K ca Φ σ Q H' μ' r := by
  cases r with
  | ok d g' => exact fun H2 μ2 e2 => h H2 μ2 (e.trans e2)
  | raise _ _ => exact RaP.go e h
  | stuck => exact h
theorem PostA.go {Q : List V → Hp → Prop} {r : Res (List D)} (e : Ext K μ H μ' H') (h : PostA K ca Φ σ Q H μ r) : PostA K ca Φ σ Q H' μ' r := by
  cases r with
  | ok d g' => exact fun v H2 μ2 e2 => h v H2 μ2 (e.trans e2)
  | raise _ _ => exact RaP.go e h
  | stuck => exact h
theorem PostS.go {E : Ends} {r : Out} (e : Ext K μ H μ' H') (h : PostS K ca Φ E H μ r) : PostS K ca Φ E H' μ' r := by
  cases r with
  | nx _ _ => exact fun v H2 μ2 e2 => h v H2 μ2 (e.trans e2)
  | bk _ _ => exact fun v H2 μ2 e2 => h v H2 μ2 (e.trans e2)
  | ct _ _ => exact fun v H2 μ2 e2 => h v H2 μ2 (e.trans e2)
  | rt _ _ => exact fun v H2 μ2 e2 => h v H2 μ2 (e.trans e2)
  | raise _ _ _ => exact fun v H2 μ2 e2 => h v H2 μ2 (e.trans e2)
  | stuck => exact h
theorem Post.pure {Q : VK} {g : G} {v : V} {d : D} (h : Post K ca Φ σ Q H μ (.ok d g)) (r : GRep K ca μ H g) (q : Den K μ H v d) : Q v H := h v H μ .refl r q
theorem RaP.stmt {x : Xc} {σ3 : S3} {g g' : G} {E : Ends} (R : Rep K ca μ σ3 g σ H) (h : PostS K ca Φ E H μ (.raise x σ3 g')) : RaP K ca Φ σ H μ x g' := fun H' μ' e r => h σ H' μ' e (R.go e r)
theorem up_bind {m : ME} {α : Type} {k : D → G → Res α} {σ3 : S3} {g : G} (R : Rep K ca μ σ3 g σ H) {P : Res α → Hp → List Addr → Prop} (hp : P ((m σ3 g).bind k) H μ)
    (hst : ∀ H μ, ¬ P .stuck H μ) (hra : ∀ e g H μ, P (.raise e g) H μ → RaP K ca Φ σ H μ e g) (hgo : ∀ r H μ H' μ', Ext K μ H μ' H' → P r H μ → P r H' μ') :
    up K ca Φ m σ H fun x H1 => ∃ d g1 μ1, Ext K μ H μ1 H1 ∧ Rep K ca μ1 σ3 g1 σ H1 ∧ Den K μ1 H1 x d ∧ P (k d g1) H1 μ1 := by
  refine ⟨σ3, g, μ, R, ?_⟩
  cases hm : m σ3 g with
  | ok d g1 =>
    rw [hm] at hp
    exact fun v H1 μ1 e1 r1 d1 => ⟨d, g1, μ1, e1, R.go e1 r1, d1, hgo _ _ _ _ _ e1 hp⟩
  | raise e g1 => rw [hm] at hp; exact hra _ _ _ _ hp
  | stuck => rw [hm] at hp; exact (hst _ _ hp).elim
theorem bindE {m : ME} {k : D → G → Res D} {σ3 : S3} {g : G} {Q : VK} (R : Rep K ca μ σ3 g σ H) (hp : Post K ca Φ σ Q H μ ((m σ3 g).bind k)) :
    up K ca Φ m σ H fun x H1 => ∃ d g1 μ1, Ext K μ H μ1 H1 ∧ Rep K ca μ1 σ3 g1 σ H1 ∧ Den K μ1 H1 x d ∧ Post K ca Φ σ Q H1 μ1 (k d g1) :=
  up_bind (P := fun r H μ => Post K ca Φ σ Q H μ r) R hp (fun _ _ h => h) (fun _ _ _ _ h => h) fun _ _ _ _ _ e h => h.go e
theorem bindT {m : ME} {k : D → G → Res Bool} {σ3 : S3} {g : G} {Q : Bool → Hp → Prop} (R : Rep K ca μ σ3 g σ H) (hp : PostT K ca Φ σ Q H μ ((m σ3 g).bind k)) :
    up K ca Φ m σ H fun x H1 => ∃ d g1 μ1, Ext K μ H μ1 H1 ∧ Rep K ca μ1 σ3 g1 σ H1 ∧ Den K μ1 H1 x d ∧ PostT K ca Φ σ Q H1 μ1 (k d g1) :=
  up_bind (P := fun r H μ => PostT K ca Φ σ Q H μ r) R hp (fun _ _ h => h) (fun _ _ _ _ h => h) fun _ _ _ _ _ e h => h.go e
theorem bindA {m : ME} {k : D → G → Res (List D)} {σ3 : S3} {g : G} {Q : List V → Hp → Prop} (R : Rep K ca μ σ3 g σ H) (hp : PostA K ca Φ σ Q H μ ((m σ3 g).bind k)) :
    up K ca Φ m σ H fun x H1 => ∃ d g1 μ1, Ext K μ H μ1 H1 ∧ Rep K ca μ1 σ3 g1 σ H1 ∧ Den K μ1 H1 x d ∧ PostA K ca Φ σ Q H1 μ1 (k d g1) :=
  up_bind (P := fun r H μ => PostA K ca Φ σ Q H μ r) R hp (fun _ _ h => h) (fun _ _ _ _ h => h) fun _ _ _ _ _ e h => h.go e
theorem upT_bind {m : MT} {α : Type} {k : Bool → G → Res α} {σ3 : S3} {g : G} (R : Rep K ca μ σ3 g σ H) {P : Res α → Hp → List Addr → Prop} (hp : P ((m σ3 g).bind k) H μ)
    (hst : ∀ H μ, ¬ P .stuck H μ) (hra : ∀ e g H μ, P (.raise e g) H μ → RaP K ca Φ σ H μ e g) (hgo : ∀ r H μ H' μ', Ext K μ H μ' H' → P r H μ → P r H' μ') :
    upT K ca Φ m σ H fun b H1 => ∃ g1 μ1, Ext K μ H μ1 H1 ∧ Rep K ca μ1 σ3 g1 σ H1 ∧ P (k b g1) H1 μ1 := by
  refine ⟨σ3, g, μ, R, ?_⟩
  cases hm : m σ3 g with
  | ok d g1 =>
    rw [hm] at hp
    exact fun H1 μ1 e1 r1 => ⟨g1, μ1, e1, R.go e1 r1, hgo _ _ _ _ _ e1 hp⟩
  | raise e g1 => rw [hm] at hp; exact hra _ _ _ _ hp
  | stuck => rw [hm] at hp; exact (hst _ _ hp).elim
theorem bindTE {m : MT} {k : Bool → G → Res D} {σ3 : S3} {g : G} {Q : VK} (R : Rep K ca μ σ3 g σ H) (hp : Post K ca Φ σ Q H μ ((m σ3 g).bind k)) :
    upT K ca Φ m σ H fun b H1 => ∃ g1 μ1, Ext K μ H μ1 H1 ∧ Rep K ca μ1 σ3 g1 σ H1 ∧ Post K ca Φ σ Q H1 μ1 (k b g1) :=
  upT_bind (P := fun r H μ => Post K ca Φ σ Q H μ r) R hp (fun _ _ h => h) (fun _ _ _ _ h => h) fun _ _ _ _ _ e h => h.go e
theorem bindTT {m : MT} {k : Bool → G → Res Bool} {σ3 : S3} {g : G} {Q : Bool → Hp → Prop} (R : Rep K ca μ σ3 g σ H) (hp : PostT K ca Φ σ Q H μ ((m σ3 g).bind k)) :
    upT K ca Φ m σ H fun b H1 => ∃ g1 μ1, Ext K μ H μ1 H1 ∧ Rep K ca μ1 σ3 g1 σ H1 ∧ PostT K ca Φ σ Q H1 μ1 (k b g1) :=
  upT_bind (P := fun r H μ => PostT K ca Φ σ Q H μ r) R hp (fun _ _ h => h) (fun _ _ _ _ h => h) fun _ _ _ _ _ e h => h.go e
theorem upA_bind {m : MA} {α : Type} {k : List D → G → Res α} {σ3 : S3} {g : G} (R : Rep K ca μ σ3 g σ H) {P : Res α → Hp → List Addr → Prop} (hp : P ((m σ3 g).bind k) H μ)
    (hst : ∀ H μ, ¬ P .stuck H μ) (hra : ∀ e g H μ, P (.raise e g) H μ → RaP K ca Φ σ H μ e g) (hgo : ∀ r H μ H' μ', Ext K μ H μ' H' → P r H μ → P r H' μ') :
    upA K ca Φ m σ H fun xs H1 => ∃ ds g1 μ1, Ext K μ H μ1 H1 ∧ Rep K ca μ1 σ3 g1 σ H1 ∧ Dens K μ1 H1 xs ds ∧ P (k ds g1) H1 μ1 := by
  refine ⟨σ3, g, μ, R, ?_⟩
  cases hm : m σ3 g with
  | ok d g1 =>
    rw [hm] at hp
    exact fun v H1 μ1 e1 r1 d1 => ⟨d, g1, μ1, e1, R.go e1 r1, d1, hgo _ _ _ _ _ e1 hp⟩
  | raise e g1 => rw [hm] at hp; exact hra _ _ _ _ hp
  | stuck => rw [hm] at hp; exact (hst _ _ hp).elim
theorem bindAE {m : MA} {k : List D → G → Res D} {σ3 : S3} {g : G} {Q : VK} (R : Rep K ca μ σ3 g σ H) (hp : Post K ca Φ σ Q H μ ((m σ3 g).bind k)) :
    upA K ca Φ m σ H fun xs H1 => ∃ ds g1 μ1, Ext K μ H μ1 H1 ∧ Rep K ca μ1 σ3 g1 σ H1 ∧ Dens K μ1 H1 xs ds ∧ Post K ca Φ σ Q H1 μ1 (k ds g1) :=
  upA_bind (P := fun r H μ => Post K ca Φ σ Q H μ r) R hp (fun _ _ h => h) (fun _ _ _ _ h => h) fun _ _ _ _ _ e h => h.go e
theorem bindAA {m : MA} {k : List D → G → Res (List D)} {σ3 : S3} {g : G} {Q : List V → Hp → Prop} (R : Rep K ca μ σ3 g σ H) (hp : PostA K ca Φ σ Q H μ ((m σ3 g).bind k)) :
    upA K ca Φ m σ H fun xs H1 => ∃ ds g1 μ1, Ext K μ H μ1 H1 ∧ Rep K ca μ1 σ3 g1 σ H1 ∧ Dens K μ1 H1 xs ds ∧ PostA K ca Φ σ Q H1 μ1 (k ds g1) :=
  upA_bind (P := fun r H μ => PostA K ca Φ σ Q H μ r) R hp (fun _ _ h => h) (fun _ _ _ _ h => h) fun _ _ _ _ _ e h => h.go e
theorem up_mono {m : ME} {Q Q' : VK} (h : up K ca Φ m σ H Q) (i : ∀ x H1, Q x H1 → Q' x H1) : up K ca Φ m σ H Q' := by
  obtain ⟨σ3, g, μ, R, p⟩ := h
  refine ⟨σ3, g, μ, R, ?_⟩
  cases hm : m σ3 g with
  | ok d g1 => rw [hm] at p; exact fun v H1 μ1 e r q => i _ _ (p v H1 μ1 e r q)
  | raise e g1 => rw [hm] at p; exact p
  | stuck => rw [hm] at p; exact p
theorem upT_mono {m : MT} {Q Q' : Bool → Hp → Prop} (h : upT K ca Φ m σ H Q) (i : ∀ x H1, Q x H1 → Q' x H1) : upT K ca Φ m σ H Q' := by
  obtain ⟨σ3, g, μ, R, p⟩ := h
  refine ⟨σ3, g, μ, R, ?_⟩
  cases hm : m σ3 g with
  | ok d g1 => rw [hm] at p; exact fun H1 μ1 e r => i _ _ (p H1 μ1 e r)
  | raise e g1 => rw [hm] at p; exact p
  | stuck => rw [hm] at p; exact p
theorem upA_mono {m : MA} {Q Q' : List V → Hp → Prop} (h : upA K ca Φ m σ H Q) (i : ∀ x H1, Q x H1 → Q' x H1) : upA K ca Φ m σ H Q' := by
  obtain ⟨σ3, g, μ, R, p⟩ := h
  refine ⟨σ3, g, μ, R, ?_⟩
  cases hm : m σ3 g with
  | ok d g1 => rw [hm] at p; exact fun v H1 μ1 e r q => i _ _ (p v H1 μ1 e r q)
  | raise e g1 => rw [hm] at p; exact p
  | stuck => rw [hm] at p; exact p
end
theorem conseq {X : Cx} {e : Expr} {t t' : TE} (h : PE X e t) (i : ∀ σ H Q, t' σ H Q → t σ H Q) : PE X e t' := fun pins s σ H Q I q => h pins s σ H Q I (i σ H Q q)
theorem conseqT {X : Cx} {e : Expr} {t t' : TT} (h : PT X e t) (i : ∀ σ H Q, t' σ H Q → t σ H Q) : PT X e t' := fun pins s σ H Q I q => h pins s σ H Q I (i σ H Q q)
theorem conseqW {X : Cx} {e : Expr} {t t' : TT} (h : PW X e t) (i : ∀ σ H Q, t' σ H Q → t σ H Q) : PW X e t' := fun w pins s σ H Q I q => h w pins s σ H Q I (i σ H Q q)
theorem conseqA {X : Cx} {e : List Expr} {t t' : TA} (h : PA X e t) (i : ∀ σ H Q, t' σ H Q → t σ H Q) : PA X e t' := fun p pins s σ H Q I q => h p pins s σ H Q I (i σ H Q q)
theorem conseqS {X : Cx} {e : Stmt} {t t' : TS} (h : PS X e t) (i : ∀ D σ H, t' D σ H → t D σ H) : PS X e t' := fun pins s σ H D I q => h pins s σ H D I (i D σ H q)
theorem conseqSs {X : Cx} {e : List Stmt} {t t' : TS} (h : PSs X e t) (i : ∀ D σ H, t' D σ H → t D σ H) : PSs X e t' := fun pins s σ H D I q => h pins s σ H D I (i D σ H q)

section
variable {X : Cx} {ca : Nat → Addr} {a b c e : Expr} {es rest : List Expr} {ma mb me : ME} {tc ta tb : MT} {mr : MA} {pos : Pos}
theorem r_var (i : Nat) {x : Str} (hN : X.N[i]? = some x := by rfl) (hv : Vis X.env.scope x := by first | exact Or.inl rfl | exact Or.inr (Or.inl rfl) | exact Or.inr (Or.inr rfl)) (hd : (x == ("__debug__" : Str)) = false := by decide)
    (hcd : (x == ("__classdict__" : Str)) = false := by decide) : PE3 ca X (.Name x pos) (mVar i) :=
  fun pn Φ => conseq (pe_var (X := xat X ca pn Φ) hN hv hd hcd) fun σ H Q hQ => by
    obtain ⟨σ3, g, μ, R, p⟩ := hQ
    unfold mVar at p
    cases e : σ3[i]? with
    | none => rw [e] at p; exact p.elim
    | some o =>
      cases o with
      | none => rw [e] at p; exact p.elim
      | some d =>
        rw [e] at p
        obtain ⟨v, h1, h2⟩ := R.st i d e
        exact ⟨v, h1, p v H μ .refl R.g h2⟩
theorem r_lit {v : V} {d : D} (h : ∀ pn Φ, PE (xat X ca pn Φ) e (tC v)) (hd : ∀ K μ H, Den K μ H v d) : PE3 ca X e (mLit d) :=
  fun pn Φ => conseq (h pn Φ) fun _ H _ ⟨_, _, μ, R, p⟩ => p v H μ .refl R.g (hd _ _ _)
theorem r_int {i : Int} {j : Nat} : PE3 ca X (.Constant (.int i) j pos) (mLit (.int i)) := r_lit (fun _ _ => pe_int) fun _ _ _ => .int i
theorem r_str {x : Str} {j : Nat} : PE3 ca X (.Constant (.str x) j pos) (mLit (.str x)) := r_lit (fun _ _ => pe_str) fun _ _ _ => .str x
theorem r_bl {x : Bool} {j : Nat} : PE3 ca X (.Constant (.bool x) j pos) (mLit (.bl x)) := r_lit (fun _ _ => pe_bl) fun _ _ _ => .bl x
theorem r_non {j : Nat} : PE3 ca X (.Constant .none j pos) (mLit .non) := r_lit (fun _ _ => pe_non) fun _ _ _ => .non
theorem r_glob {x : Str} {v : V} {u : Value} {d : D} (hm : X.mg x = some u) (r : RelV v u) (hd' : ∀ K μ H, Den K μ H v d) (hg : Gl X x := by rfl) (hd : (x == ("__debug__" : Str)) = false := by decide) : PE3 ca X (.Name x pos) (mLit d) :=
  r_lit (fun pn Φ => pe_glob (X := xat X ca pn Φ) hg hm r hd) hd'
noncomputable def Prim2 (K : PySem.W.Frag) (ca : Nat → Addr) (r : R2) (f : D → D → G → Res D) : Prop :=
  ∀ (Φ : XS) (σ : L2.St) (H : Hp) (μ : List Addr) (g : G) (x y : V) (dx dy : D) (Q : VK), GRep K ca μ H g → Den K μ H x dx → Den K μ H y dy → Post K ca Φ σ Q H μ (f dx dy g) → r x y H Q
theorem up_op2 {K : PySem.W.Frag} {Φ : XS} {r : R2} {f : D → D → G → Res D} (hp : Prim2 K ca r f) (σ : L2.St) (H : Hp) (Q : VK) (h : up K ca Φ (mOp2 f ma mb) σ H Q) : tOp r (up K ca Φ ma) (up K ca Φ mb) σ H Q := by
  obtain ⟨σ3, g, μ, R, p⟩ := h
  refine up_mono (bindE R p) fun x H1 ⟨dx, g1, μ1, e1, R1, q1, p1⟩ => ?_
  refine up_mono (bindE R1 p1) fun y H2 ⟨dy, g2, μ2, e2, R2, q2, p2⟩ => ?_
  exact hp Φ σ H2 μ2 g2 x y dx dy Q R2.g (q1.mono e2) q2 p2
theorem r_bin {op : Operator} {r : R2} {f : D → D → G → Res D} (ho : ∀ pn Φ, OpR (xat X ca pn Φ) (binaryOp op) r) (hp : Prim2 X.K ca r f) (ha : PE3 ca X a ma) (hb : PE3 ca X b mb) : PE3 ca X (.BinOp a op b pos) (mOp2 f ma mb) :=
  fun pn Φ => conseq (pe_op (ho pn Φ) (ha pn Φ) (hb pn Φ)) (up_op2 hp)
theorem r_cmp {op : CmpOp} {r : R2} {f : D → D → G → Res D} (ho : ∀ pn Φ, OpR (xat X ca pn Φ) (compareOp op) r) (hp : Prim2 X.K ca r f) (ha : PE3 ca X a ma) (hb : PE3 ca X b mb) (hm : behindInMarks op b = false) : PE3 ca X (.Compare a [op] [b] pos) (mOp2 f ma mb) :=
  fun pn Φ => conseq (pe_cmpR (ho pn Φ) (ha pn Φ) (hb pn Φ) hm) (up_op2 hp)
theorem r_ix {r : R2} {f : D → D → G → Res D} (ho : ∀ pn Φ, IxR (xat X ca pn Φ) r) (hp : Prim2 X.K ca r f) (ha : PE3 ca X a ma) (hb : PE3 ca X b mb) (hs : PlainIx b := by exact fun _ _ => rfl) : PE3 ca X (.Subscript a b pos) (mOp2 f ma mb) :=
  fun pn Φ => conseq (pe_ix (ho pn Φ) (ha pn Φ) (hb pn Φ) hs) (up_op2 hp)
theorem r_un {op : UnaryOp} {r : V → Hp → VK → Prop} {f : D → G → Res D} (ho : ∀ pn Φ, UnR (xat X ca pn Φ) (unaryOp op) r)
    (hp : ∀ (Φ : XS) (σ : L2.St) (H : Hp) (μ : List Addr) (g : G) (x : V) (dx : D) (Q : VK), GRep X.K ca μ H g → Den X.K μ H x dx → Post X.K ca Φ σ Q H μ (f dx g) → r x H Q) (ha : PE3 ca X a ma) : PE3 ca X (.UnaryOp op a pos) (mOp1 f ma) :=
  fun pn Φ => conseq (pe_un (ho pn Φ) (ha pn Φ)) fun σ H Q ⟨σ3, g, μ, R, p⟩ => up_mono (bindE R p) fun x H1 ⟨dx, g1, μ1, e1, R1, q1, p1⟩ => hp Φ σ H1 μ1 g1 x dx Q R1.g q1 p1
theorem r_nil : PA3 ca X [] mNil := fun pn Φ => conseqA (pa_nil (X := xat X ca pn Φ)) fun _ H _ ⟨_, _, μ, R, p⟩ => p [] H μ .refl R.g .nil
theorem r_cons (ha : PE3 ca X e me) (hr : PA3 ca X es mr) (hs : starEach (e :: es) X.env = (false, eval e X.env) :: starEach es X.env := by rfl) : PA3 ca X (e :: es) (mCons me mr) :=
  fun pn Φ => conseqA (pa_cons (X := xat X ca pn Φ) (ha pn Φ) (hr pn Φ) hs) fun σ H Q ⟨σ3, g, μ, R, p⟩ => up_mono (bindA R p) fun x H1 ⟨d, g1, μ1, e1, R1, q1, p1⟩ =>
    upA_mono (bindAA R1 p1) fun xs H2 ⟨ds, g2, μ2, e2, R2, q2, p2⟩ => p2 (x :: xs) H2 μ2 .refl R2.g (.cons (q1.mono e2) q2)
theorem r_test (ha : PE3 ca X a ma) (he : ∀ whole, isTrue a X.env whole = (do let v ← whole; standAt a.pos; holding [v] (truthy v)) := by intro _; rfl) : PT3 ca X a (mTest ma) :=
  fun pn Φ => conseqT (pt_val (X := xat X ca pn Φ) (ha pn Φ) he) fun σ H Q ⟨σ3, g, μ, R, p⟩ => up_mono (bindT R p) fun x H1 hQ => by
    obtain ⟨d, g1, μ1, e1, R1, q1, p1⟩ := hQ
    cases q1 with
    | bl b => exact ⟨b, rfl, p1 H1 μ1 .refl R1.g⟩
    | _ => exact p1.elim
theorem r_testC {op : CmpOp} {r : R2} {f : D → D → G → Res D} (ho : ∀ pn Φ, OpR (xat X ca pn Φ) (compareOp op) r) (hp : Prim2 X.K ca r f) (ha : PE3 ca X a ma) (hb : PE3 ca X b mb) (hm : behindInMarks op b = false) : PT3 ca X (.Compare a [op] [b] pos) (mTest (mOp2 f ma mb)) :=
  fun pn Φ => conseqT (pt_cmpR (ho pn Φ) (ha pn Φ) (hb pn Φ) hm) fun σ H Q hQ => by
    obtain ⟨σ3, g, μ, R, p⟩ := hQ
    have q : up X.K ca Φ (mOp2 f ma mb) σ H fun x H' => ∃ k, x = .bl k ∧ Q k H' := up_mono (bindT R p) fun x H1 hQ => by
      obtain ⟨d, g1, μ1, e1, R1, q1, p1⟩ := hQ
      cases q1 with
      | bl b => exact ⟨b, rfl, p1 H1 μ1 .refl R1.g⟩
      | _ => exact p1.elim
    exact up_op2 hp σ H _ q
theorem r_notT (ha : PT3 ca X a ta) : PT3 ca X (.UnaryOp .Not a pos) (mNotT ta) :=
  fun pn Φ => conseqT (pt_not (X := xat X ca pn Φ) (ha pn Φ)) fun σ H Q ⟨σ3, g, μ, R, p⟩ => upT_mono (bindTT R p) fun b H1 ⟨g1, μ1, e1, R1, p1⟩ => p1 H1 μ1 .refl R1.g
theorem r_andT1 (ha : PT3 ca X a ta) : PW3 ca X (.BoolOp .And [a] pos) ta := fun pn Φ => pw_and1 (X := xat X ca pn Φ) (ha pn Φ)
theorem r_orT1 (ha : PT3 ca X a ta) : PW3 ca X (.BoolOp .Or [a] pos) ta := fun pn Φ => pw_or1 (X := xat X ca pn Φ) (ha pn Φ)
theorem r_andT (ha : PT3 ca X a ta) (hb : PW3 ca X (.BoolOp .And (b :: rest) pos) tb) : PW3 ca X (.BoolOp .And (a :: b :: rest) pos) (mAndT ta tb) :=
  fun pn Φ => conseqW (pw_and (X := xat X ca pn Φ) (ha pn Φ) (hb pn Φ)) fun σ H Q ⟨σ3, g, μ, R, p⟩ => upT_mono (bindTT R p) fun b H1 hQ => by
    obtain ⟨g1, μ1, e1, R1, p1⟩ := hQ
    cases b with
    | true => rw [if_pos rfl] at p1 ⊢; exact ⟨σ3, g1, μ1, R1, p1⟩
    | false => rw [if_neg Bool.false_ne_true] at p1 ⊢; exact p1 H1 μ1 .refl R1.g
theorem r_orT (ha : PT3 ca X a ta) (hb : PW3 ca X (.BoolOp .Or (b :: rest) pos) tb) : PW3 ca X (.BoolOp .Or (a :: b :: rest) pos) (mOrT ta tb) :=
  fun pn Φ => conseqW (pw_or (X := xat X ca pn Φ) (ha pn Φ) (hb pn Φ)) fun σ H Q ⟨σ3, g, μ, R, p⟩ => upT_mono (bindTT R p) fun b H1 hQ => by
    obtain ⟨g1, μ1, e1, R1, p1⟩ := hQ
    cases b with
    | true => rw [if_pos rfl] at p1 ⊢; exact p1 H1 μ1 .refl R1.g
    | false => rw [if_neg Bool.false_ne_true] at p1 ⊢; exact ⟨σ3, g1, μ1, R1, p1⟩
theorem r_w (h : PW3 ca X e ta) : PT3 ca X e ta := fun pn Φ => (h pn Φ).pt
theorem r_not (ha : PE3 ca X a ma) : PE3 ca X (.UnaryOp .Not a pos) (mNot ma) :=
  fun pn Φ => conseq (pe_not (X := xat X ca pn Φ) (ha pn Φ)) fun σ H Q ⟨σ3, g, μ, R, p⟩ => up_mono (bindE R p) fun x H1 hQ => by
    obtain ⟨d, g1, μ1, e1, R1, q1, p1⟩ := hQ
    cases q1 with
    | bl b => exact ⟨b, rfl, p1 _ H1 μ1 .refl R1.g (.bl _)⟩
    | _ => exact p1.elim
theorem r_one {op : BoolOp} (ha : PE3 ca X a ma) : PE3 ca X (.BoolOp op [a] pos) ma := fun pn Φ => pe_one (X := xat X ca pn Φ) (ha pn Φ)
theorem r_and (ha : PE3 ca X a ma) (hb : PE3 ca X (.BoolOp .And (b :: rest) pos) mb) : PE3 ca X (.BoolOp .And (a :: b :: rest) pos) (mAnd ma mb) :=
  fun pn Φ => conseq (pe_and (X := xat X ca pn Φ) (ha pn Φ) (hb pn Φ)) fun σ H Q ⟨σ3, g, μ, R, p⟩ => up_mono (bindE R p) fun x H1 hQ => by
    obtain ⟨d, g1, μ1, e1, R1, q1, p1⟩ := hQ
    cases q1 with
    | bl b =>
      refine ⟨b, rfl, ?_⟩
      cases b with
      | true => rw [if_pos rfl]; exact ⟨σ3, g1, μ1, R1, p1⟩
      | false => rw [if_neg Bool.false_ne_true]; exact p1 _ H1 μ1 .refl R1.g (.bl _)
    | _ => exact p1.elim
theorem r_ifE (hc : PT3 ca X c tc) (ha : PE3 ca X a ma) (hb : PE3 ca X b mb) : PE3 ca X (.IfExp c a b pos) (mIfE tc ma mb) :=
  fun pn Φ => conseq (pe_ifExp (X := xat X ca pn Φ) (hc pn Φ) (ha pn Φ) (hb pn Φ)) fun σ H Q ⟨σ3, g, μ, R, p⟩ => upT_mono (bindTE R p) fun b H1 hQ => by
    obtain ⟨g1, μ1, e1, R1, p1⟩ := hQ
    cases b with
    | true => rw [if_pos rfl] at p1 ⊢; exact ⟨σ3, g1, μ1, R1, p1⟩
    | false => rw [if_neg Bool.false_ne_true] at p1 ⊢; exact ⟨σ3, g1, μ1, R1, p1⟩
theorem sz_line : SZ ≤ sizeLine := by rw [sizeLine_eq]; decide
theorem Dens.sz {K : PySem.W.Frag} {μ : List Addr} {H : Hp} {vs : List V} {ds : List D} (h : Dens K μ H vs ds) (z : ds.length ≤ SZ) : vs.length ≤ sizeLine := by rw [h.length]; exact Nat.le_trans z sz_line
theorem r_tup {k : Nat} (h : PA3 ca X es mr) : PE3 ca X (.Tuple es k pos) (mOpA pTup mr) :=
  fun pn Φ => conseq (pe_tup (X := xat X ca pn Φ) (h pn Φ)) fun σ H Q ⟨σ3, g, μ, R, p⟩ => upA_mono (bindAE R p) fun xs H1 hQ => by
    obtain ⟨ds, g1, μ1, e1, R1, q1, p1⟩ := hQ
    unfold pTup at p1
    by_cases z : ds.length ≤ SZ
    · rw [if_pos z] at p1
      exact ⟨q1.sz z, fun t ht => p1 _ _ μ1 (ext_new ht) (R1.g.new ht) (.tup (.of upd_same) (q1.mono (ext_new ht)))⟩
    · rw [if_neg z] at p1; exact p1.elim
theorem r_lst (h : PA3 ca X es mr) : PE3 ca X (.List es pos) (mOpA newL mr) :=
  fun pn Φ => conseq (pe_lst (X := xat X ca pn Φ) (h pn Φ)) fun σ H Q ⟨σ3, g, μ, R, p⟩ => upA_mono (bindAE R p) fun xs H1 hQ => by
    obtain ⟨ds, g1, μ1, e1, R1, q1, p1⟩ := hQ
    unfold newL at p1
    by_cases z : ds.length ≤ SZ
    · rw [if_pos z] at p1
      refine ⟨q1.sz z, fun t ht => p1 _ _ (μ1 ++ [t]) (ext_push ht) (R1.g.push ht ⟨xs, upd_same, q1.mono (ext_push ht)⟩) (.ref ?_)⟩
      rw [← R1.g.len]; simp
    · rw [if_neg z] at p1; exact p1.elim
end
end L3

end
section
namespace L3
open PySem PySem.Spec PyProof.Rows L2
section
variable {X : Cx} {ca : Nat → Addr} {pins : List (Addr × Obj)} {σ : L2.St} {H : Hp} {s : Shared} {a : Addr} {x : Xc} {E : Value → Shared → Prop}
theorem inv_on {pn : List (Addr × Obj)} {Φ : XS} (I : Inv (xat X ca pn Φ) pins σ H s) : Inv (xon X pn) pins σ H s := (Inv.wish I fun _ _ => False)
theorem fpW_of {b : Addr} {H' : Hp} (I : Inv X pins σ H s) (hb : s.heap.get? b = none) (hn : H' b = none) : FpW X pins H' b := by
  refine ⟨hn, fun z => ?_, fun z => ?_, ?_, fun x c e z => ?_, fun p hp z => ?_⟩
  · obtain ⟨m, ⟨o, _, _, ho, _⟩, _⟩ := I.loc
    rw [z, ho] at hb; cases hb
  · obtain ⟨_, o, ho, _⟩ := I.funs.mem z
    rw [ho] at hb; cases hb
  · by_cases hx : b ∈ X.ex
    · exact .inl hx
    · refine .inr ?_
      cases q : X.s₀.heap.get? b with
      | none => rfl
      | some o =>
        obtain ⟨o', e'⟩ := I.base.there b o q hx
        rw [e'] at hb; cases hb
  · obtain ⟨v, o, ho, _⟩ := I.cell x c e
    rw [z, hb] at ho; cases ho
  · rw [← z, (I.pin p hp).1] at hb; cases hb
theorem inv_stepW {H' : Hp} {h' : Heap} {g' : Array GenState} {t' : Nat} {d' : Drawn} {ch : List Addr} (I : Inv X pins σ H s)
    (hch : ∀ b ∈ ch, (b ∈ X.ex ∨ X.s₀.heap.get? b = none) ∧ b ≠ X.env.locals ∧ (∀ x c, X.env.cells.lookup x = some c → c ≠ b) ∧ ∀ p ∈ X.pn ++ pins, p.1 ≠ b)
    (keep : ∀ b o, b ≠ X.env.locals → b ∉ X.fs → b ∉ ch → s.heap.get? b = some o → H b = none → h'.get? b = some o)
    (slot : ∀ b o, b ≠ X.env.locals → b ∈ X.fs → b ∉ ch → s.heap.get? b = some o → H b = none → ∃ sl, h'.get? b = some { o with slots := sl }) (free : ∀ b o, b ∉ ch → s.heap.get? b = some o → H b = none → H' b = none)
    (there : ∀ b o, b ∉ ch → s.heap.get? b = some o → ∃ o', h'.get? b = some o')
    (tups : ∀ b xs, H b = some (.tup xs) → H' b = some (.tup xs)) (frzs : ∀ b o u, H b = some (.frz o u) → H' b = some (.frz o u)) (tbls : ∀ b ps, H b = some (.tbl ps) → ∃ more, H' b = some (.tbl (ps ++ more)))
    (ns : ∀ m, s.heap.Ns X.env.locals m → h'.Ns X.env.locals m) (hok : HOk X.prog X.w H' h') (hg : AllBare g') :
    Inv X pins σ H' { s with heap := h', gens := g', drawn := d', toks := t' } := by
  have neL : ∀ b o, X.s₀.heap.get? b = some o → b ≠ X.env.locals := fun b o e => Nat.ne_of_lt (Nat.lt_of_lt_of_le (Heap.lt_size e) I.ok.above)
  have neC : ∀ b o, X.s₀.heap.get? b = some o → b ∉ X.ex → b ∉ ch := fun b o e hx hb => by
    rcases (hch b hb).1 with z | z
    · exact hx z
    · rw [z] at e; cases e
  have cellK : ∀ x c, X.env.cells.lookup x = some c → ∀ v, s.heap.IsCell c v → h'.IsCell c v := fun x c e v hQ => by
    obtain ⟨o, ho, hd⟩ := hQ
    have nch : c ∉ ch := fun z => (hch c z).2.2.1 x c e rfl
    by_cases hc : c ∈ X.fs
    · obtain ⟨sl, q⟩ := slot c o (I.cne x c e) hc nch ho (I.freeC x c e)
      exact ⟨_, q, hd⟩
    · exact ⟨o, keep c o (I.cne x c e) hc nch ho (I.freeC x c e), hd⟩
  refine ⟨I.ok, I.os, hg, ⟨fun b o e n hb hx => ?_, fun b o e n hb hx => ?_, fun b o e n hx => ?_, fun b o e hx => ?_, fun b xs e => tups b xs (I.base.tups b xs e), fun b o xs e => frzs b o xs (I.base.frzs b o xs e), fun b ps e => ?_⟩, ?_, fun x c e => ?_, ?_, fun x c e => ?_, fun p hp => ?_, hok, I.len⟩
  · exact keep b o (neL b o e) hb (neC b o e hx) (I.base.keep b o e n hb hx) (I.base.free b o e n hx)
  · obtain ⟨sl, e1⟩ := I.base.slot b o e n hb hx
    obtain ⟨sl', e2⟩ := slot b _ (neL b o e) hb (neC b o e hx) e1 (I.base.free b o e n hx)
    exact ⟨sl', e2⟩
  · obtain ⟨o', e1⟩ := I.base.there b o e hx
    exact free b o' (neC b o e hx) e1 (I.base.free b o e n hx)
  · obtain ⟨o', e1⟩ := I.base.there b o e hx
    exact there b o' (neC b o e hx) e1
  · obtain ⟨m1, e1⟩ := I.base.tbls b ps e
    obtain ⟨m2, e2⟩ := tbls b _ e1
    exact ⟨m1 ++ m2, by rw [e2, Array.append_assoc]⟩
  · obtain ⟨m, hn, hl⟩ := I.loc
    refine ⟨m, ns m hn, fun i x v e1 e2 e3 => ?_⟩
    obtain ⟨u, r, l⟩ := hl i x v e1 e2 e3
    refine ⟨u, r, ?_⟩
    rcases l with l | ⟨k, c, e, z⟩
    · exact .inl l
    · exact .inr ⟨k, c, e, cellK x c e _ z⟩
  · obtain ⟨v, z⟩ := I.cell x c e
    exact ⟨v, cellK x c e v z⟩
  · obtain ⟨m, ⟨o, _, _, ho, _⟩, _⟩ := I.loc
    exact free _ o (fun z => (hch _ z).2.1 rfl) ho I.free
  · obtain ⟨v, o, ho, hd⟩ := I.cell x c e
    exact free c o (fun z => (hch c z).2.2.1 x c e rfl) ho (I.freeC x c e)
  · obtain ⟨e, n, ne, nf, d⟩ := I.pin p hp
    have nch : p.1 ∉ ch := fun z => (hch p.1 z).2.2.2 p hp rfl
    exact ⟨keep p.1 p.2 ne nf nch e n, free p.1 p.2 nch e n, ne, nf, d⟩
theorem inv_mess {ch : List Addr} {h' : Heap} (I : Inv X pins σ H s) (hch : ∀ b ∈ ch, FpW X pins H b) (keep : ∀ b o, b ∉ ch → b ≠ X.env.locals → b ∉ X.fs → s.heap.get? b = some o → h'.get? b = some o)
    (slot : ∀ b o, b ∉ ch → s.heap.get? b = some o → ∃ sl, h'.get? b = some { o with slots := sl }) : Inv X pins σ H { s with heap := h' } := by
  have nl : X.env.locals ∉ ch := fun z => (hch _ z).2.1 rfl
  have nt : ∀ b v, H b = some v → b ∉ ch := fun b v e z => by rw [(hch b z).1] at e; cases e
  have nf : ∀ b v, H b = some v → b ∉ X.fs := fun b v e z => by
    obtain ⟨_, o, ho, _⟩ := I.ok.funs.mem z
    have := I.base.free b o ho (I.ok.frf b z) fun q => I.ok.exfs b q z
    rw [this] at e; cases e
  have nL : ∀ b v, H b = some v → b ≠ X.env.locals := fun b v e z => by rw [z, I.free] at e; cases e
  refine inv_stepW (h' := h') (H' := H) (g' := s.gens) (t' := s.toks) (d' := s.drawn) (ch := ch) I (fun b hb => ⟨(hch b hb).2.2.2.1, (hch b hb).2.1, (hch b hb).2.2.2.2.1, (hch b hb).2.2.2.2.2⟩) (fun b o h1 h2 h3 e _ => keep b o h3 h1 h2 e) (fun b o _ _ h3 e _ => slot b o h3 e)
    (fun b o _ _ n => n) (fun b o h e => let ⟨sl, q⟩ := slot b o h e; ⟨_, q⟩) (fun b v e => e) (fun b o v e => e) (fun b ps e => ⟨#[], by rw [e]; simp⟩) (fun m hm => ?_) (fun b v e => ?_) I.bare
  · obtain ⟨o, es, ep, ho, rr⟩ := hm
    obtain ⟨sl, q⟩ := slot _ o nl ho
    exact ⟨_, es, ep, q, rr⟩
  · refine (I.hok b v e).stay (fun c' v' hc' q => ?_) (fun c' q => q) fun c' xs' q => q
    rcases hc' with rfl | hc'
    · exact keep _ _ (nt _ _ e) (nL _ _ e) (nf _ _ e) q
    · exact keep _ _ (nt _ _ hc') (nL _ _ hc') (nf _ _ hc') q
noncomputable def FlN (X : Cx) (ca : Nat → Addr) (a : Addr) (x : Xc) (H : Hp) (h : Heap) : Prop :=
  FpW X [] H a ∧ x.2 = none ∧ ∃ oe vs T oT ts, h.get? a = some oe ∧ XOb ca x oe ∧ oe.data = .fields vs ∧ vs[1]? = some (.ref T) ∧ T ≠ a ∧ FpW X [] H T ∧ h.get? T = some oT ∧ oT.data = .fields ts ∧ ts[3]? = some (rawInt X.env.locals)
noncomputable def FlT (X : Cx) (ca : Nat → Addr) (a : Addr) (x : Xc) (H : Hp) (h : Heap) : Prop :=
  FpW X [] H a ∧ x.2 = none ∧ ∃ oe vs T oT ts, h.get? a = some oe ∧ XOb ca x oe ∧ oe.data = .fields vs ∧ vs[1]? = some (.ref T) ∧ T ≠ a ∧ FpW X [] H T ∧ h.get? T = some oT ∧ oT.data = .fields ts ∧ 3 < ts.size
theorem FlN.t {h : Heap} (f : FlN X ca a x H h) : FlT X ca a x H h := by
  obtain ⟨f1, f2, oe, vs, T, oT, ts, e1, e2, e3, e4, e5, e6, e7, e8, e9⟩ := f
  exact ⟨f1, f2, oe, vs, T, oT, ts, e1, e2, e3, e4, e5, e6, e7, e8, (Array.getElem?_eq_some_iff.mp e9).1⟩
theorem FlN.fl {h : Heap} (f : FlN X ca a x H h) : Fl X ca a x H h := by
  obtain ⟨f1, f2, oe, vs, T, oT, ts, e1, e2, e3, e4, e5, e6, e7, e8, e9⟩ := f
  exact ⟨f1, f2, oe, vs, e1, e2, e3, (Array.getElem?_eq_some_iff.mp e4).1, .inr ⟨T, oT, ts, e4, e5, e6, e7, e8, (Array.getElem?_eq_some_iff.mp e9).1, .inr e9⟩⟩
theorem upd_fields {h : Heap} {b : Addr} {o : Obj} {ts : Array Value} (i : Nat) (v : Value) (e : h.get? b = some o) (d : o.data = .fields ts) :
    (h.update b (Obj.mapFields (·.setIfInBounds i v))).get? b = some (o.mapFields (·.setIfInBounds i v)) ∧ (o.mapFields (·.setIfInBounds i v)).data = .fields (ts.setIfInBounds i v) ∧ (o.mapFields (·.setIfInBounds i v)).cls = o.cls :=
  ⟨Heap.get?_update_self _ e (Obj.isFreed_of_fields (Obj.data_mapFields d _)), Obj.data_mapFields d _, Obj.cls_mapFields _ _⟩
theorem note_new {base : Heap} {env : Env} {outer : List Env} {L : Addr} {oe : Obj} {vs : Array Value} {head : Value} {hn : Bool} {M : Model} {A : Around} {Q : Unit → Shared → Prop} (hfr : A.frames = some (env :: outer)) (hl : s.heap.FunFrames base (env :: outer)) (hf : env.frame = some L)
    (he : s.heap.get? a = some oe) (hd : oe.data = .fields vs) (hsz : 1 < vs.size) (ha : a ∉ (env :: outer).filterMap (·.frame))
    (k : ∀ h₁ (cells : Array Value), Heap.SlotsOnly ((env :: outer).filterMap (·.frame)) s.heap h₁ → cells[3]? = some (rawInt L) →
      Q () { s with heap := (h₁.push { cls := .type "traceback", dict := none, data := .fields cells }).update a (Obj.mapFields (·.setIfInBounds 1 (.ref h₁.objs.size))) }) :
    wpAny M A (do let fv ← frameOf env; let pl ← entryPlaceOf L hn; let b ← EntryCells.newEntry head fv .none (rawInt L) .none pl; setField (.ref a) 1 b) Q E s := by
  refine wpAny_bind (wpAny_frameOf_fun hfr hl hf fun h₁ so => wpAny_bind (wpAny_entryPlaceOf fun pl hpl => ?_))
  unfold EntryCells.newEntry newFields
  refine wpAny_bind (wpAny_newObj_type ?_ (hpl.sizeOk5 _ _ _ _ _))
  have e1 : h₁.get? a = some oe := (so.2.1 a ha).trans he
  refine wpAny_setField (Heap.get?_push_of_some _ e1) hd hsz (k h₁ _ so ?_)
  first
    | (simp; done)
    | (rcases hpl with rfl | ⟨_, _, _, _, _, _, _, rfl⟩ <;> simp)
theorem note_fl {M : Model} {Q : Unit → Shared → Prop} (I : Inv X [] σ H s) (hk : X.stack = X.env :: X.outer) (hf : X.env.frame = some X.env.locals) (fl : Fl X ca a x H s.heap)
    (k : ∀ h', Inv X [] σ H { s with heap := h' } → FlN X ca a x H h' → Q () { s with heap := h' }) : wpAny M X.A (noteFrame (.ref a) X.env) Q E s := by
  obtain ⟨fp, ln, oe, vs, he, hc, hd, hsz, hv⟩ := fl
  have hfr : X.A.frames = some (X.env :: X.outer) := by rw [← hk]; exact I.ok.frames
  have hst : s.heap.FunFrames X.base (X.env :: X.outer) := by rw [← hk]; exact I.stack
  have hfs : (X.env :: X.outer).filterMap (·.frame) = X.env.locals :: X.fs := by rw [List.filterMap_cons, hf]; rfl
  have ha : a ∉ (X.env :: X.outer).filterMap (·.frame) := by
    rw [hfs]
    intro z
    rcases List.mem_cons.mp z with z | z
    · exact fp.2.1 z
    · exact fp.2.2.1 z
  -- an entry is laid over a heap that differs from s at ch alone
  have fin : ∀ (h0 h₁ : Heap) (cells : Array Value) (ch : List Addr), (∀ b ∈ ch, FpW X [] H b) → (∀ b o, b ∉ ch → s.heap.get? b = some o → h0.get? b = some o) → h0.objs.size = s.heap.objs.size → h0.get? a = some oe →
      Heap.SlotsOnly ((X.env :: X.outer).filterMap (·.frame)) h0 h₁ → cells[3]? = some (rawInt X.env.locals) →
      Q () { s with heap := (h₁.push { cls := .type "traceback", dict := none, data := .fields cells }).update a (Obj.mapFields (·.setIfInBounds 1 (.ref h₁.objs.size))) } := by
    intro h0 h₁ cells ch hch hk0 hz he0 so hcl
    have e1 : h₁.get? a = some oe := (so.2.1 a ha).trans he0
    obtain ⟨u1, u2, u3⟩ := upd_fields 1 (.ref h₁.objs.size) (Heap.get?_push_of_some { cls := .type "traceback", dict := none, data := .fields cells } e1) hd
    have hTa : h₁.objs.size ≠ a := Nat.ne_of_gt (Heap.lt_size e1)
    have oth : ∀ b o, b ≠ a → h₁.get? b = some o → ((h₁.push { cls := .type "traceback", dict := none, data := .fields cells }).update a (Obj.mapFields (·.setIfInBounds 1 (.ref h₁.objs.size)))).get? b = some o := fun b o hb e =>
      (Heap.get?_update_other _ _ (Ne.symm hb)).trans (Heap.get?_push_of_some _ e)
    refine k _ (inv_mess (ch := a :: ch) I (fun b hb => ?_) (fun b o h1 h2 h3 e => ?_) fun b o h1 e => ?_) ⟨fp, ln, _, _, h₁.objs.size, _, cells, u1, hc.map _, u2, by simp [hsz], hTa, ?_, (Heap.get?_update_other _ _ (Ne.symm hTa)).trans (Heap.get?_push_size _ rfl), rfl, hcl⟩
    · rcases List.mem_cons.mp hb with e | e
      · rw [e]; exact fp
      · exact hch b e
    · refine oth b o (fun z => h1 (by rw [z]; exact List.mem_cons_self)) ?_
      rw [so.2.1 b (by rw [hfs]; intro z; rcases List.mem_cons.mp z with z | z; (· exact h2 z); exact h3 z)]
      exact hk0 b o (fun z => h1 (List.mem_cons_of_mem _ z)) e
    · obtain ⟨sl, q⟩ := so.2.2 b o (hk0 b o (fun z => h1 (List.mem_cons_of_mem _ z)) e)
      exact ⟨sl, oth b _ (fun z => h1 (by rw [z]; exact List.mem_cons_self)) q⟩
    · refine fpW_of I (Heap.get?_none_of_le ?_) (I.hok.fresh ?_) <;> rw [so.1, hz] <;> exact Nat.le_refl _
  unfold noteFrame
  simp only [hf]
  rcases hv with hv | ⟨T, oT, ts, hv, hTa, fT, hT, hdT, hs3, h3⟩
  · refine wpAny_bind (wpAny_field he hd hv ?_)
    rw [if_neg (by decide)]
    exact note_new hfr hst hf he hd hsz ha fun h₁ cells so hcl => fin s.heap h₁ cells [] (by simp) (fun _ _ _ e => e) rfl he so hcl
  · refine wpAny_bind (wpAny_field he hd hv ?_)
    rw [if_pos (show (Value.ref T != Value.none) = true from by simp)]
    rcases h3 with h3 | h3
    · refine wpAny_bind (wpAny_field hT hdT h3 ?_)
      rw [if_neg (show ¬ ((Value.none == rawInt X.env.locals) = true) from by simp [rawInt])]
      refine wpAny_bind (wpAny_setField hT hdT hs3 ?_)
      have oth : ∀ b o, b ≠ T → s.heap.get? b = some o → (s.heap.update T (Obj.mapFields (·.setIfInBounds 3 Value.none))).get? b = some o := fun b o hb e => (Heap.get?_update_other _ _ (Ne.symm hb)).trans e
      have kp : ∀ b o, s.heap.get? b = some o → (∀ vs, o.data ≠ .fields vs) → (s.heap.update T (Obj.mapFields (·.setIfInBounds 3 Value.none))).get? b = some o := fun b o e n => oth b o (fun z => by rw [z, hT] at e; cases e; exact n _ hdT) e
      refine note_new (s := { s with heap := s.heap.update T (Obj.mapFields (·.setIfInBounds 3 Value.none)) }) hfr (hst.of_keeps fun b o e n => ⟨o, kp b o e n, rfl⟩) hf (oth a oe (Ne.symm hTa) he) hd hsz ha fun h₁ cells so hcl => ?_
      exact fin _ h₁ cells [T] (fun b hb => by rw [List.mem_singleton.mp hb]; exact fT) (fun b o hb e => oth b o (fun z => hb (by simp [z])) e) (Heap.size_after_update ..) (oth a oe (Ne.symm hTa) he) so hcl
    · refine wpAny_bind (wpAny_field hT hdT h3 ?_)
      rw [if_pos (show (rawInt X.env.locals == rawInt X.env.locals) = true from by simp)]
      exact wpAny_pure (k s.heap I ⟨fp, ln, oe, vs, T, oT, ts, he, hc, hd, hv, hTa, fT, hT, hdT, h3⟩)
theorem flight_fl {M : Model} {A : Around} {Q : Unit → Shared → Prop} {fo : Option Addr} (I : Inv X [] σ H s) (fl : FlT X ca a x H s.heap) (k : ∀ h' T oT ts oe vs, Inv X [] σ H { s with heap := h' } → h'.get? a = some oe → XOb ca x oe → oe.data = .fields vs → vs[1]? = some (.ref T) → T ≠ a → FpW X [] H T →
      h'.get? T = some oT → oT.data = .fields ts → 3 < ts.size → ts[3]? = some (fo.elim Value.none fun f => rawInt f) → Q () { s with heap := h' }) : wpAny M A (setFlight (.ref a) fo) Q E s := by
  obtain ⟨fp, ln, oe, vs, T, oT, ts, he, hc, hd, hv, hTa, fT, hT, hdT, hs3⟩ := fl
  unfold setFlight
  refine wpAny_bind (wpAny_field he hd hv ?_)
  rw [if_pos (show (Value.ref T != Value.none) = true from by simp)]
  have oth : ∀ b o, b ≠ T → s.heap.get? b = some o → (s.heap.update T (Obj.mapFields (·.setIfInBounds 3 (fo.elim Value.none fun f => rawInt f)))).get? b = some o := fun b o hb e => (Heap.get?_update_other _ _ (Ne.symm hb)).trans e
  obtain ⟨u1, u2, u3⟩ := upd_fields 3 (fo.elim Value.none fun f => rawInt f) hT hdT
  refine wpAny_setField hT hdT hs3 (k _ T _ _ oe vs (inv_mess (ch := [T]) I (fun b hb => by rw [List.mem_singleton.mp hb]; exact fT) (fun b o h1 _ _ e => oth b o (fun z => h1 (by simp [z])) e) fun b o h1 e => ⟨o.slots, oth b o (fun z => h1 (by simp [z])) e⟩)
    (oth a oe (Ne.symm hTa) he) hc hd hv hTa fT u1 u2 (by simpa using hs3) (by simp [hs3]))
theorem own_at (hk : X.stack = X.env :: X.outer) (hf : X.env.frame = some X.env.locals) (pn : List (Addr × Obj)) (Φ : XS) : PassesOwn (model X.prog X.w) X.A X.env (xat X ca pn Φ).xe := by
  rintro v s ⟨a, x, σ, H, rfl, I, fl, q⟩
  refine note_fl (X := xon X pn) I hk hf fl fun h1 I1 f1 => ?_
  unfold cameBackBy
  obtain ⟨fp, ln, oe, vs, T, oT, ts, he, hc, hd, hv, hTa, fT, hT, hdT, h3⟩ := id f1
  refine wpAny_bind (wpAny_field he hd hv ?_)
  rw [if_neg (show ¬ ((Value.ref T == Value.none) = true) from by simp)]
  refine flight_fl (X := xon X pn) (fo := X.env.frame) I1 f1.t fun h2 T oT ts oe vs I2 a1 a2 a3 a4 a5 a6 a7 a8 a9 a10 => ?_
  rw [hf] at a10
  exact ⟨a, x, σ, H, rfl, I2, FlN.fl ⟨fp, ln, oe, vs, T, oT, ts, a1, a2, a3, a4, a5, a6, a7, a8, a10⟩, q⟩
end
noncomputable def CXW (P : Program) (w : World) (ca : Nat → Addr) : CXT := fun outer H s E v s' => ∃ (a : Addr) (x : Xc) (H' : Hp), v = .ref a ∧ s'.os = s.os ∧ AllBare s'.gens ∧ Un (frs outer) [] H H' s.heap s'.heap ∧ HOk P w H' s'.heap ∧ x.2 = none ∧
  (∃ oe vs T oT ts, s.heap.get? a = none ∧ H' a = none ∧ s'.heap.get? a = some oe ∧ XOb ca x oe ∧ oe.data = .fields vs ∧ vs[1]? = some (.ref T) ∧ T ≠ a ∧ s.heap.get? T = none ∧ H' T = none ∧ s'.heap.get? T = some oT ∧ oT.data = .fields ts ∧ ts[3]? = some .none) ∧
  E (.int x.1 0) x.2 H'
section
variable {P : Program} {w : World} {K : PySem.W.Frag} {mg : Str → Option Value} {base : Heap} {ca : Nat → Addr}
theorem leave_fl {N : List Str} {qual : Str} {scope : Scope} {f : Addr} {cd : Value} {A : Around} {outer : List Env} {s s' : Shared} {H : Hp} {E : XK} {v : Value}
    (h : XE (xon (cxOf (CXW P w ca) P w K mg base N qual scope f cd A outer s H E) []) ca (fun x _ H' => E (.int x.1 0) x.2 H') v s') : (cxOf (CXW P w ca) P w K mg base N qual scope f cd A outer s H E).xe v s' := by
  obtain ⟨a, x, σ, H', rfl, I, fl, q⟩ := h
  show wpAny _ _ (leaving _ (.ref a)) _ _ s'
  unfold leaving
  refine wpAny_bind (note_fl I rfl rfl fl fun h1 I1 f1 => ?_)
  obtain ⟨fp, ln, _⟩ := id f1
  refine flight_fl (fo := none) I1 f1.t fun h2 T oT ts oe vs I2 a1 a2 a3 a4 a5 a6 a7 a8 a9 a10 => ?_
  refine ⟨a, x, H', rfl, I2.os, I2.bare, I2.base, I2.hok, ln, ⟨oe, vs, T, oT, ts, ?_, fp.1, a1, a2, a3, a4, a5, ?_, a6.1, a7, a8, a10⟩, q⟩
  · rcases fp.2.2.2.1 with z | z
    · exact absurd (show a ∈ ([] : List Addr) from z) (by simp)
    · exact z
  · rcases a6.2.2.2.1 with z | z
    · exact absurd (show T ∈ ([] : List Addr) from z) (by simp)
    · exact z
end
section
variable {X : Cx} {ca : Nat → Addr} {pn : List (Addr × Obj)} {Φ : XS}
theorem pass_fl {pins : List (Addr × Obj)} {σ : L2.St} {H : Hp} {s s' : Shared} {v : Value} (I : Inv (xat X ca pn Φ) pins σ H s) (h : CXW X.prog X.w ca X.stack H s (fun c l H' => ∀ x : Xc, c = .int x.1 0 → l = x.2 → Φ x σ H') v s') : (xat X ca pn Φ).xe v s' := by
  obtain ⟨a, x, H', rfl, os, bare, un, hok, ln, ⟨oe, vs, T, oT, ts, e1, e2, e3, e4, e5, e6, e7, e8, e9, e10, e11, e12⟩, q⟩ := h
  have I0 : Inv (xon X pn) [] σ H s := (inv_on I).pins_of fun p hp => absurd hp (by simp)
  have I1 : Inv (xon X pn) [] σ H' s' := Inv.call' (ch := []) I0 os un hok bare fun b z => absurd z (by simp)
  refine ⟨a, x, σ, H', rfl, I1, ⟨fpW_of I0 e1 e2, ln, oe, vs, e3, e4, e5, (Array.getElem?_eq_some_iff.mp e6).1, .inr ⟨T, oT, ts, e6, e7, fpW_of I0 e8 e9, e10, e11, (Array.getElem?_eq_some_iff.mp e12).1, .inl e12⟩⟩, q x rfl rfl⟩
end
end L3

end
section
namespace L3
open PySem PySem.Spec PyProof.Rows L2
section
variable {X : Cx} {ca : Nat → Addr} {a b c e : Expr} {st : Stmt} {sts rest : List Stmt} {ma mb me : ME} {tc : MT} {m m' : MS} {pos : Pos}
theorem r_nilS : PSs3 ca X [] mSkip := fun pn Φ => conseqSs (pss_nil (X := xat X ca pn Φ)) fun _ σ H ⟨_, _, μ, R, p⟩ => p σ H μ .refl R
theorem seq_up {K : PySem.W.Frag} {Φ : XS} (E : Ends) (σ : L2.St) (H : Hp) (h : upS K ca Φ (mSeq m m') E σ H) : tSeq (upS K ca Φ m) (upS K ca Φ m') E σ H := by
  obtain ⟨σ3, g, μ, R, p⟩ := h
  refine ⟨σ3, g, μ, R, ?_⟩
  unfold mSeq at p
  cases hm : m σ3 g with
  | nx σ1 g1 =>
    rw [hm] at p
    exact fun σ' H' μ' e' R' => ⟨σ1, g1, μ', R', PostS.go e' p⟩
  | rt d g1 => rw [hm] at p; exact p
  | bk _ _ => rw [hm] at p; exact p
  | ct _ _ => rw [hm] at p; exact p
  | raise _ _ _ => rw [hm] at p; exact p
  | stuck => rw [hm] at p; exact p
theorem r_consS (h1 : PS3 ca X st m) (h2 : PSs3 ca X rest m') : PSs3 ca X (st :: rest) (mSeq m m') := fun pn Φ => conseqSs (pss_cons (X := xat X ca pn Φ) (h1 pn Φ) (h2 pn Φ)) seq_up
theorem r_oneS (h1 : PS3 ca X st m) : PSs3 ca X [st] m := fun pn Φ => pss_one (X := xat X ca pn Φ) (h1 pn Φ)
theorem r_expr (he : PE3 ca X e me) (hs : swapsWith e none pos.line X.env = pure false := by rfl) : PS3 ca X (.Expr e pos) (mExpr me) :=
  fun pn Φ => conseqS (ps_expr (X := xat X ca pn Φ) (he pn Φ) hs) fun E σ H ⟨σ3, g, μ, R, p⟩ => ⟨σ3, g, μ, R, by
    unfold mExpr at p
    cases hm : me σ3 g with
    | ok d g1 => rw [hm] at p; exact fun v H' μ' e' r' _ => p σ H' μ' e' (R.go e' r')
    | raise _ _ => rw [hm] at p; exact RaP.stmt R p
    | stuck => rw [hm] at p; exact p⟩
theorem r_ret (he : PE3 ca X e me) : PS3 ca X (.Return (some e) pos) (mRet me) :=
  fun pn Φ => conseqS (ps_ret (X := xat X ca pn Φ) (he pn Φ)) fun E σ H ⟨σ3, g, μ, R, p⟩ => ⟨σ3, g, μ, R, by
    unfold mRet at p
    cases hm : me σ3 g with
    | ok d g1 => rw [hm] at p; exact p
    | raise _ _ => rw [hm] at p; exact RaP.stmt R p
    | stuck => rw [hm] at p; exact p⟩
theorem r_if {sa sb : List Stmt} (hc : PT3 ca X c tc) (ha : PSs3 ca X sa m) (hb : PSs3 ca X sb m') : PS3 ca X (.If c sa sb pos) (mIf tc m m') :=
  fun pn Φ => conseqS (ps_if (X := xat X ca pn Φ) (hc pn Φ) (ha pn Φ) (hb pn Φ)) fun E σ H ⟨σ3, g, μ, R, p⟩ => ⟨σ3, g, μ, R, by
    unfold mIf at p
    cases hm : tc σ3 g with
    | ok d g1 =>
      rw [hm] at p
      cases d with
      | true => exact fun H' μ' e' r' => by show (if true = true then _ else _); rw [if_pos rfl]; exact ⟨σ3, g1, μ', R.go e' r', PostS.go e' (by simpa using p)⟩
      | false => exact fun H' μ' e' r' => by show (if false = true then _ else _); rw [if_neg Bool.false_ne_true]; exact ⟨σ3, g1, μ', R.go e' r', PostS.go e' (by simpa using p)⟩
    | raise _ _ => rw [hm] at p; exact RaP.stmt R p
    | stuck => rw [hm] at p; exact p⟩
noncomputable def upG (K : PySem.W.Frag) (ca : Nat → Addr) (f : MG) : TG := fun v σ H Q => ∃ σ3 g μ d σ3', Rep K ca μ σ3 g σ H ∧ Den K μ H v d ∧ f d σ3 = some σ3' ∧ ∀ σ', Rep K ca μ σ3' g σ' H → Q σ' H
noncomputable def PG3 (ca : Nat → Addr) (X : Cx) (tg : Expr) (f : MG) : Prop := ∀ pn Φ, PG (xat X ca pn Φ) tg (upG X.K ca f)
theorem conseqG {X : Cx} {tg : Expr} {t t' : TG} (h : PG X tg t) (i : ∀ v σ H Q, t' v σ H Q → t v σ H Q) : PG X tg t' := fun pins s σ H x u Q I r q => h pins s σ H x u Q I r (i x σ H Q q)
theorem Rep.set {K : PySem.W.Frag} {μ : List Addr} {σ3 : S3} {g : G} {σ : L2.St} {H : Hp} {v : V} {d : D} (R : Rep K ca μ σ3 g σ H) (h : Den K μ H v d) (i : Nat) : Rep K ca μ (σ3.set i (some d)) g (σ.set i (some v)) H := by
  refine ⟨R.g, by rw [List.length_set, List.length_set, R.len], fun j x hx => ?_⟩
  by_cases e : j = i
  · subst e
    have hl : j < σ3.length := by
      have := (List.getElem?_eq_some_iff.mp hx).1
      simpa using this
    rw [List.getElem?_set_self hl] at hx
    cases hx
    exact ⟨v, by rw [List.getElem?_set_self (by rw [R.len]; exact hl)], h⟩
  · rw [List.getElem?_set_ne (Ne.symm e)] at hx
    obtain ⟨w, h1, h2⟩ := R.st j x hx
    exact ⟨w, by rw [List.getElem?_set_ne (Ne.symm e)]; exact h1, h2⟩
theorem r_gset (i : Nat) {x : Str} (hN : X.N.Nodup) (hi : X.N[i]? = some x := by rfl) (hx : Loc X.env.scope x := by first | exact Or.inl rfl | exact Or.inr rfl)
    (hf : X.fn x = true ∨ X.env.scope.names.lookup x = some .local := by first | exact .inl rfl | exact .inr rfl) : PG3 ca X (.Name x pos) (gSet i) :=
  fun pn Φ => conseqG (pg_name (X := xat X ca pn Φ) hN hi hx hf) fun v σ H Q hQ => by
    obtain ⟨σ3, g, μ, d, σ3', R, q, e, k⟩ := hQ
    cases e
    exact k _ (R.set q i)
noncomputable def upGs (K : PySem.W.Frag) (ca : Nat → Addr) (fs : List MG) : TGs := fun vs σ H Q => ∃ σ3 g μ ds σ3', Rep K ca μ σ3 g σ H ∧ Dens K μ H vs ds ∧ gSets fs ds σ3 = some σ3' ∧ ∀ σ', Rep K ca μ σ3' g σ' H → Q σ' H
noncomputable def PGs3 (ca : Nat → Addr) (X : Cx) (tgs : List Expr) (fs : List MG) : Prop := ∀ pn Φ, PGs (xat X ca pn Φ) tgs (upGs X.K ca fs)
theorem conseqGs {X : Cx} {tg : List Expr} {t t' : TGs} (h : PGs X tg t) (i : ∀ v σ H Q, t' v σ H Q → t v σ H Q) : PGs X tg t' := fun pins s σ H xs us Q I r q => h pins s σ H xs us Q I r (i xs σ H Q q)
theorem r_gnil : PGs3 ca X [] [] := fun pn Φ => conseqGs (pgs_nil (X := xat X ca pn Φ)) fun vs σ H Q hQ => by
  obtain ⟨σ3, g, μ, ds, σ3', R, q, e, k⟩ := hQ
  cases q with
  | nil => cases e; exact ⟨rfl, k _ R⟩
  | cons _ _ => cases e
theorem r_gcons {es : List Expr} {f : MG} {fs : List MG} (h1 : PG3 ca X e f) (h2 : PGs3 ca X es fs)
    (hs : (assignEach (e :: es) X.env).map (·.2) = assign e X.env :: (assignEach es X.env).map (·.2) := by rfl) : PGs3 ca X (e :: es) (f :: fs) :=
  fun pn Φ => conseqGs (pgs_cons (X := xat X ca pn Φ) (h1 pn Φ) (h2 pn Φ) hs) fun vs σ H Q hQ => by
    obtain ⟨σ3, g, μ, ds, σ3', R, q, e, k⟩ := hQ
    cases q with
    | nil => cases e
    | @cons v d vs ds q1 q2 =>
      unfold gSets at e
      cases hf : f d σ3 with
      | none => rw [hf] at e; cases e
      | some σ4 =>
        rw [hf] at e
        exact ⟨v, vs, rfl, σ3, g, μ, d, σ4, R, q1, hf, fun σ' R' => ⟨σ4, g, μ, ds, σ3', R', q2, e, k⟩⟩
theorem gSets_len : ∀ {fs : List MG} {ds : List D} {σ σ' : S3}, gSets fs ds σ = some σ' → ds.length = fs.length
  | [], [], _, _, _ => rfl
  | [], _ :: _, _, _, h => by cases h
  | _ :: _, [], _, _, h => by cases h
  | f :: fs, d :: ds, σ, σ', h => by
    unfold gSets at h
    cases hf : f d σ with
    | none => rw [hf] at h; cases h
    | some σ4 =>
      rw [hf] at h
      rw [List.length_cons, List.length_cons, gSets_len (fs := fs) h]
theorem r_gtup {es : List Expr} {k : Nat} {fs : List MG} (hc : X.calm = true) (h : PGs3 ca X es fs) (hn : (assignEach es X.env).length = fs.length := by rfl)
    (hst : (assignEach es X.env).findIdx? (·.1) = none := by rfl) : PG3 ca X (.Tuple es k pos) (gTup3 fs) :=
  fun pn Φ => conseqG (pg_tup (X := xat X ca pn Φ) hc (h pn Φ) hn hst) fun v σ H Q hQ => by
    obtain ⟨σ3, g, μ, d, σ3', R, q, e, kk⟩ := hQ
    cases q with
    | @tup a vs ds ht hs =>
      exact ⟨a, vs, rfl, ht, hs.length.trans (gSets_len e), σ3, g, μ, ds, σ3', R, hs, e, kk⟩
    | _ => cases e
theorem r_set (i : Nat) {x : Str} {pos' : Pos} (hN : X.N.Nodup) (he : PE3 ca X e me) (hi : X.N[i]? = some x := by rfl) (hx : Loc X.env.scope x := by first | exact Or.inl rfl | exact Or.inr rfl)
    (hs : swapsWith e (some (.Name x pos')) pos.line X.env = pure false := by rfl) (hf : X.fn x = true ∨ X.env.scope.names.lookup x = some .local := by first | exact .inl rfl | exact .inr rfl) :
    PS3 ca X (.Assign [.Name x pos'] e pos) (mAsg (gSet i) me) :=
  fun pn Φ => conseqS (ps_set (X := xat X ca pn Φ) hN hi hx (he pn Φ) hs hf) fun E σ H h => by
    obtain ⟨σ3, g, μ, R, p⟩ := h
    refine ⟨σ3, g, μ, R, ?_⟩
    unfold mAsg gSet at p
    cases hm : me σ3 g with
    | ok d g1 =>
      rw [hm] at p
      exact fun v H' μ' e' r' q' => p _ H' μ' e' ((R.go e' r').set q' i)
    | raise _ _ => rw [hm] at p; exact RaP.stmt R p
    | stuck => rw [hm] at p; exact p
structure FldOk (K : PySem.W.Frag) (ca : Nat → Addr) (cs : List Nat) (f : Str) : Prop where
  cl : ∀ c ∈ cs, Cls K (ca c)
  no : ∀ c ∈ cs, NoAttr K (ca c) f
theorem FRel.look {K : PySem.W.Frag} {μ : List Addr} {H : Hp} {f : Str} {d : D} : ∀ {fv : List (Str × V)} {fs : List (Str × D)}, FRel K μ H fv fs → fs.lookup f = some d → ∃ v, fv.lookup f = some v ∧ Den K μ H v d
  | _, _, .nil, h => by cases h
  | (k, v) :: r, (k', d') :: r', .cons ⟨e, q⟩ t, h => by
    have e : k = k' := e
    subst e
    cases hb : f == k with
    | true =>
      simp only [List.lookup, hb] at h ⊢
      cases h
      exact ⟨v, rfl, q⟩
    | false =>
      simp only [List.lookup, hb] at h ⊢
      exact FRel.look t h
theorem FRel.no {K : PySem.W.Frag} {μ : List Addr} {H : Hp} {f : Str} : ∀ {fv : List (Str × V)} {fs : List (Str × D)}, FRel K μ H fv fs → fs.lookup f = Option.none → fv.lookup f = Option.none
  | _, _, .nil, _ => rfl
  | (k, v) :: r, (k', d') :: r', .cons ⟨e, q⟩ t, h => by
    have e : k = k' := e
    subst e
    cases hb : f == k with
    | true => simp only [List.lookup, hb] at h; cases h
    | false =>
      simp only [List.lookup, hb] at h ⊢
      exact FRel.no t h
theorem FRel.put {K : PySem.W.Frag} {μ : List Addr} {H : Hp} {f : Str} {v : V} {d : D} (q : Den K μ H v d) : ∀ {fv : List (Str × V)} {fs : List (Str × D)}, FRel K μ H fv fs → FRel K μ H (putF f v fv) (putG f d fs)
  | _, _, .nil => .cons ⟨rfl, q⟩ .nil
  | (k, w) :: r, (k', d') :: r', .cons ⟨e, z⟩ t => by
    have e : k = k' := e
    subst e
    show FRel K μ H (if k = f then (k, v) :: r else (k, w) :: putF f v r) (if k = f then (k, d) :: r' else (k, d') :: putG f d r')
    by_cases h : k = f
    · rw [if_pos h, if_pos h]; exact .cons ⟨rfl, q⟩ t
    · rw [if_neg h, if_neg h]; exact .cons ⟨rfl, z⟩ (FRel.put q t)
theorem r_attr {cs : List Nat} {f : Str} (he : PE3 ca X e me) (ok : FldOk X.K ca cs f) (hb : attributeBase e f X.env (eval e X.env) = eval e X.env := by rfl) : PE3 ca X (.Attribute e f pos) (mAttr cs f me) :=
  fun pn Φ => conseq (pe_fld (X := xat X ca pn Φ) (he pn Φ) hb) fun σ H Q ⟨σ3, g, μ, R, p⟩ => up_mono (bindE R p) fun x H1 hQ => by
    obtain ⟨d, g1, μ1, e1, R1, q1, p1⟩ := hQ
    cases q1 with
    | @ref n a hn =>
      dsimp only at p1
      cases hg : g1[n]? with
      | none => rw [hg] at p1; exact p1.elim
      | some o =>
        rw [hg] at p1
        obtain ⟨a', ha', ob⟩ := R1.g.addr hg
        rw [hn] at ha'; cases ha'
        cases o with
        | ins c fs =>
          dsimp only at p1
          obtain ⟨dx, fv, hH, fr⟩ := ob
          by_cases hc : c ∈ cs
          · rw [if_pos hc] at p1
            cases hl : fs.lookup f with
            | none => rw [hl] at p1; exact p1.elim
            | some y =>
              rw [hl] at p1
              obtain ⟨v, h1, h2⟩ := fr.look hl
              exact ⟨a, ca c, dx, fv, v, rfl, hH, ok.cl c hc, ok.no c hc, h1, p1 v H1 μ1 .refl R1.g h2⟩
          · rw [if_neg hc] at p1; exact p1.elim
        | _ => exact p1.elim
    | _ => exact p1.elim
theorem r_setAttr {o : Expr} {mo : ME} {cs : List Nat} {f : Str} {pos' : Pos} (ho : PE3 ca X o mo) (he : PE3 ca X e me) (ok : FldOk X.K ca cs f) (hs : swapsWith e (some (.Attribute o f pos')) pos.line X.env = pure false := by rfl) :
    PS3 ca X (.Assign [.Attribute o f pos'] e pos) (mSetAttr cs f mo me) :=
  fun pn Φ => conseqS (ps_fld (X := xat X ca pn Φ) (ho pn Φ) (he pn Φ) hs) fun E σ H ⟨σ3, g, μ, R, p⟩ => ⟨σ3, g, μ, R, by
    unfold mSetAttr at p
    cases hm : me σ3 g with
    | ok y g1 =>
      rw [hm] at p
      dsimp only at p
      intro vy H1 μ1 e1 r1 q1
      refine ⟨σ3, g1, μ1, R.go e1 r1, ?_⟩
      cases hm2 : mo σ3 g1 with
      | ok d g2 =>
        rw [hm2] at p
        intro vx H2 μ2 e2 r2 q2
        cases q2 with
        | @ref n a hn =>
          dsimp only at p
          cases hg : g2[n]? with
          | none => rw [hg] at p; exact p.elim
          | some ob =>
            rw [hg] at p
            obtain ⟨a', ha', orp⟩ := r2.addr hg
            rw [hn] at ha'; cases ha'
            cases ob with
            | ins c fs =>
              dsimp only at p
              obtain ⟨dx, fv, hH, fr⟩ := orp
              by_cases hc : c ∈ cs ∧ fs.length < 100
              · rw [if_pos hc] at p
                have fl : fv.length = fs.length := Paired.length fr
                refine ⟨a, ca c, dx, fv, rfl, hH, ok.cl c hc.1, ok.no c hc.1, by omega, ?_⟩
                have ex : Ext X.K μ2 H2 μ2 (upd H2 a (.ins (ca c) dx (putF f vy fv))) := ext_set hH (by intro _ z; cases z) (by intro _ _ z; cases z)
                refine p σ _ μ2 ((e1.trans e2).trans ex) ((R.go (e1.trans e2) r2).go ex ?_)
                exact r2.set hn hH (by intro _ z; cases z) (by intro _ _ z; cases z) ⟨dx, _, upd_same, FRel.put ((q1.mono e2).mono ex) (fr.mono ex)⟩
              · rw [if_neg hc] at p; exact p.elim
            | _ => exact p.elim
        | _ => exact p.elim
      | raise _ _ => rw [hm2] at p; exact (RaP.stmt R p).go e1
      | stuck => rw [hm2] at p; exact p
    | raise _ _ => rw [hm] at p; exact RaP.stmt R p
    | stuck => rw [hm] at p; exact p⟩
theorem r_setIx {o i : Expr} {mo mi : ME} {pos' : Pos} (ho : PE3 ca X o mo) (hi : PE3 ca X i mi) (he : PE3 ca X e me) (hs : swapsWithSole [.Subscript o i pos'] e pos.line X.env = pure false := by rfl)
    (hw : swappedStores [.Subscript o i pos'] e X.env = pure none := by rfl) (h1 : (assignEach [.Subscript o i pos'] X.env).map (·.2) = [assign (.Subscript o i pos') X.env] := by rfl)
    (ha : ∀ v, assign (.Subscript o i pos') X.env v = (do
      let ov ← holding [v] (eval o X.env)
      let iv ← holding [v, ov] (eval i X.env)
      standAt pos'
      holding [v, ov, iv] (setItem ov iv v)
      release [v, ov, iv] []) := by intro _; rfl) : PS3 ca X (.Assign [.Subscript o i pos'] e pos) (mSetIx mo mi me) :=
  fun pn Φ => conseqS (ps_asg (X := xat X ca pn Φ) (he pn Φ) (pg_sub (X := xat X ca pn Φ) (ho pn Φ) (hi pn Φ) set_list ha) hs hw h1) fun E σ H ⟨σ3, g, μ, R, p⟩ => ⟨σ3, g, μ, R, by
    unfold mSetIx at p
    cases hm : me σ3 g with
    | ok y g1 =>
      rw [hm] at p
      dsimp only at p
      intro vy H1 μ1 e1 r1 q1
      refine ⟨σ3, g1, μ1, R.go e1 r1, ?_⟩
      cases hm2 : mo σ3 g1 with
      | ok d g2 =>
        rw [hm2] at p
        intro vx H2 μ2 e2 r2 q2
        cases q2 with
        | @ref n a hn =>
          dsimp only at p
          refine ⟨σ3, g2, μ2, R.go (e1.trans e2) r2, ?_⟩
          cases hm3 : mi σ3 g2 with
          | ok di g3 =>
            rw [hm3] at p
            intro vi H3 μ3 e3 r3 q3
            cases q3 with
            | int k =>
              dsimp only at p
              cases hg : g3[n]? with
              | none => rw [hg] at p; exact p.elim
              | some ob =>
                rw [hg] at p
                obtain ⟨a', ha', orp⟩ := r3.addr hg
                rw [e3.at hn] at ha'; cases ha'
                cases ob with
                | lst ds =>
                  dsimp only at p
                  obtain ⟨vs, hH, q⟩ := orp
                  cases hj : ixD ds.length k with
                  | none => rw [hj] at p; exact p.elim
                  | some j =>
                    rw [hj] at p
                    have ex : Ext X.K μ3 H3 μ3 (upd H3 a (.lst (vs.set j vy))) := ext_set hH (by intro _ z; cases z) (by intro _ _ z; cases z)
                    refine ⟨a, vs, k, j, rfl, rfl, hH, by rw [q.length]; exact hj, ?_⟩
                    refine p σ _ μ3 (((e1.trans e2).trans e3).trans ex) ((R.go ((e1.trans e2).trans e3) r3).go ex ?_)
                    exact r3.set (e3.at hn) hH (by intro _ z; cases z) (by intro _ _ z; cases z) ⟨_, upd_same, Dens.set (((q1.mono e2).mono e3).mono ex) j (q.mono ex)⟩
                | _ => exact p.elim
            | _ => exact p.elim
          | raise _ _ => rw [hm3] at p; exact (RaP.stmt R p).go (e1.trans e2)
          | stuck => rw [hm3] at p; exact p
        | _ => exact p.elim
      | raise _ _ => rw [hm2] at p; exact (RaP.stmt R p).go e1
      | stuck => rw [hm2] at p; exact p
    | raise _ _ => rw [hm] at p; exact RaP.stmt R p
    | stuck => rw [hm] at p; exact p⟩
noncomputable def Sim (K : PySem.W.Frag) (ca : Nat → Addr) (μ0 : List Addr) (H0 : Hp) (src : Src) (J : It) : Prop :=
  ∀ (i : Nat) (H : Hp) (μ : List Addr) (g : G), Ext K μ0 H0 μ H → GRep K ca μ H g → match src.at' g i with
    | some (some d) => J.go i H ∧ ∀ x H', J.yld i H x H' → Ext K μ H μ H' ∧ GRep K ca μ H' g ∧ Den K μ H' x d
    | some none => J.stop i H
    | none => True
noncomputable def upI (K : PySem.W.Frag) (ca : Nat → Addr) (Φ : XS) (m : MI) : TI := fun σ H R => ∃ σ3 g μ, Rep K ca μ σ3 g σ H ∧ match m σ3 g with
  | .ok src g' => ∀ J H' μ', Ext K μ H μ' H' → GRep K ca μ' H' g' → Sim K ca μ' H' src J → R J H'
  | .raise x g' => RaP K ca Φ σ H μ x g'
  | .stuck => False
noncomputable def PI3 (ca : Nat → Addr) (X : Cx) (tg iter : Expr) (m : MI) : Prop := ∀ pn Φ, PI (xat X ca pn Φ) tg iter (upI X.K ca Φ m)
theorem r_for {tg iter : Expr} {body : List Stmt} {mi : MI} {f : MG} (hc : X.calm = true) (hi : PI3 ca X tg iter mi) (hg : PG3 ca X tg f) (hb : PSs3 ca X body m) (hs : ∀ x, foldedSetIterable iter X.env x = pure x := by intro _; rfl) (hk : X.stack = X.env :: X.outer := by rfl) (hf : X.env.frame = some X.env.locals := by rfl) :
    PS3 ca X (.For tg iter body [] pos) (mFor mi f m) :=
  fun pn Φ => conseqS (ps_for (X := xat X ca pn Φ) (own_at hk hf pn Φ) hc (hi pn Φ) (hg pn Φ) (hb pn Φ) hs) fun E σ H ⟨σ3, g, μ, R, p⟩ => ⟨σ3, g, μ, R, by
    unfold mFor at p
    cases hm : mi σ3 g with
    | ok src g' =>
      rw [hm] at p
      dsimp only at p ⊢
      intro J H' μ' e' r' sim
      refine ⟨fun i n σ1 H1 => ∃ σ4 g1 μ1, Ext X.K μ' H' μ1 H1 ∧ Rep X.K ca μ1 σ4 g1 σ1 H1 ∧ PostS X.K ca Φ E H1 μ1 (forL src f m n i σ4 g1), ⟨src.top + 1, σ3, g', μ', .refl, R.go e' r', p.go e'⟩, ?_⟩
      rintro i n σ1 H1 ⟨σ4, g1, μ1, e1, R1, p1⟩
      have s1 := sim i H1 μ1 g1 e1 R1.g
      cases n with
      | zero => exact p1.elim
      | succ n =>
        unfold forL at p1
        cases ha : src.at' g1 i with
        | none => rw [ha] at p1; exact p1.elim
        | some od =>
          rw [ha] at p1 s1
          cases od with
          | none => exact .inl ⟨s1, p1 σ1 H1 μ1 .refl R1⟩
          | some d =>
            dsimp only at p1 s1
            obtain ⟨go, yl⟩ := s1
            refine .inr ⟨go, fun σ2 H2 => ∃ σ5 g2 μ2, Ext X.K μ' H' μ2 H2 ∧ Rep X.K ca μ2 σ5 g2 σ2 H2 ∧ PostS X.K ca Φ E H2 μ2 (forL src f m n (i + 1) σ5 g2), fun σ2 H2 z => ⟨n, Nat.lt_succ_self n, z⟩, fun x H2 y => ?_⟩
            obtain ⟨e2, r2, q2⟩ := yl x H2 y
            cases hf : f d σ4 with
            | none => rw [hf] at p1; exact p1.elim
            | some σ5 =>
              rw [hf] at p1
              dsimp only at p1
              refine ⟨σ4, g1, μ1, d, σ5, R1.go e2 r2, q2, hf, fun σ6 R6 => ⟨σ5, g1, μ1, R6, ?_⟩⟩
              cases hb : m σ5 g1 with
              | nx σ7 g7 =>
                rw [hb] at p1
                exact fun σ' H3 μ3 e3 R3 => ⟨σ7, g7, μ3, (e1.trans e2).trans e3, R3, PostS.go (e2.trans e3) p1⟩
              | ct σ7 g7 =>
                rw [hb] at p1
                exact fun σ' H3 μ3 e3 R3 => ⟨σ7, g7, μ3, (e1.trans e2).trans e3, R3, PostS.go (e2.trans e3) p1⟩
              | bk σ7 g7 =>
                rw [hb] at p1
                exact fun σ' H3 μ3 e3 R3 => p1 σ' H3 μ3 (e2.trans e3) R3
              | rt d7 g7 =>
                rw [hb] at p1
                exact fun v H3 μ3 e3 r3 q3 => p1 v H3 μ3 (e2.trans e3) r3 q3
              | raise _ _ _ =>
                rw [hb] at p1
                exact fun σ' H3 μ3 e3 R3 => p1 σ' H3 μ3 (e2.trans e3) R3
              | stuck => rw [hb] at p1; exact p1
    | raise _ _ => rw [hm] at p; exact RaP.stmt R p
    | stuck => rw [hm] at p; exact p⟩
end
end L3

end
section
namespace L3
open PySem PySem.Spec PyProof.Rows L2
noncomputable def spM (K : PySem.W.Frag) (ca : Nat → Addr) (n : Nat) (F : MF) : Sp := fun vs H Q E => vs.length = n ∧ ∃ ds g μ, GRep K ca μ H g ∧ Dens K μ H vs ds ∧ match F ds g with
  | .ok d g' => ∀ v H' μ', Ext K μ H μ' H' → GRep K ca μ' H' g' → Den K μ' H' v d → Q v H'
  | .raise x g' => ∀ H' μ', Ext K μ H μ' H' → GRep K ca μ' H' g' → E (.int x.1 0) x.2 H'
  | .stuck => False
theorem start_rep {K : PySem.W.Frag} {ca : Nat → Addr} {μ : List Addr} {H : Hp} {g : G} {vs : List V} {ds : List D} (N : List Str) (r : GRep K ca μ H g) (q : Dens K μ H vs ds) : Rep K ca μ (ds.map some ++ List.replicate (N.length - vs.length) none) g (L2.start N vs) H := by
  unfold L2.start
  refine ⟨r, ?_, fun i d h => ?_⟩
  · rw [List.length_append, List.length_append, List.length_map, List.length_map, q.length, List.length_replicate, List.length_replicate]
  · by_cases hi : i < ds.length
    · rw [List.getElem?_append_left (by simpa using hi), List.getElem?_map] at h
      cases hd : ds[i]? with
      | none => rw [hd] at h; cases h
      | some d' =>
        rw [hd] at h; cases h
        obtain ⟨v, h1, h2⟩ := q.get hd
        refine ⟨v, ?_, h2⟩
        rw [List.getElem?_append_left (by simpa [q.length] using hi), List.getElem?_map, h1]; rfl
    · rw [List.getElem?_append_right (by simpa using hi), List.getElem?_replicate] at h
      split at h <;> cases h
structure FnH (P : Program) (w : World) (K : PySem.W.Frag) (mg : Str → Option Value) (base : Heap) (ca : Nat → Addr) (x : Str) (k n : Nat) (F : MF) : Prop where
  ex : ∃ (f : Addr) (fd : FuncData) (ps : List Str), FnOk P w K mg base (CXW P w ca) k f fd ps (spM K ca n F) ∧ mg x = some (.ref f) ∧ PySem.W.keepIn K (.ref f) = true ∧ Binds K fd ps []
  st : ∀ ds g, ds.length ≠ n → F ds g = .stuck
structure MkH (P : Program) (w : World) (K : PySem.W.Frag) (mg : Str → Option Value) (base : Heap) (ca : Nat → Addr) (c : Nat) (x : Str) (k n : Nat) (F : MF) : Prop where
  ex : ∃ (f : Addr) (fd : FuncData) (ps : List Str), FnOk P w K mg base (CXW P w ca) k f fd ps (spM K ca n F) ∧ Mk K (ca c) f ∧ mg x = some (.ref (ca c)) ∧ Binds K fd ps []
  st : ∀ ds g, ds.length ≠ n → F ds g = .stuck
theorem mDef_st (k n : Nat) (m : MS) : ∀ ds g, ds.length ≠ k → mDef k n m ds g = .stuck := fun ds g h => by unfold mDef; rw [if_neg h]
theorem FnH.mono {P : Program} {w : World} {K : PySem.W.Frag} {mg : Str → Option Value} {base : Heap} {ca : Nat → Addr} {x : Str} {j k n : Nat} {F : MF} (h : FnH P w K mg base ca x j n F) (hj : j ≤ k) : FnH P w K mg base ca x k n F := by
  obtain ⟨f, fd, ps, a, b⟩ := h.ex
  exact ⟨⟨f, fd, ps, a.mono hj, b⟩, h.st⟩
section
variable {P : Program} {w : World} {K : PySem.W.Frag} {mg : Str → Option Value} {base : Heap} {ca : Nat → Addr}
theorem pss_leave {N : List Str} {qual : Str} {scope : Scope} {f : Addr} {cd : Value} {A : Around} {outer : List Env} {s : Shared} {H : Hp} {E : XK} {body : List Stmt} {t : TS}
    (h : PSs (xat (cxOf (CXW P w ca) P w K mg base N qual scope f cd A outer s H E) ca [] (fun x _ H' => E (.int x.1 0) x.2 H')) body t) : PSs (cxOf (CXW P w ca) P w K mg base N qual scope f cd A outer s H E) body t := fun pins s1 σ H1 D I q =>
  wpAny_mono (h pins s1 σ H1 D (Inv.wish I _) q) (fun _ _ z => SP.unwish (X := cxOf (CXW P w ca) P w K mg base N qual scope f cd A outer s H E) z) fun _ _ z => leave_fl z
theorem fn_ok {x qual : Str} {st : Stmt} {f : Addr} {fd : FuncData} {N ps : List Str} {k n j : Nat} {m : MS} (F : Fun K x qual st f fd) (S : FnScope N ps (defScope st)) (hj : ps.length = j) (hn : N.length - ps.length = n)
    (h : ∀ (cdv : Value) (A : Around) (outer : List Env) (s : Shared) (H : Hp) (E : XK), Room k (A.deeper (envOfC qual (defScope st) s.heap.objs.size f cdv)) →
      PSs3 ca (cxOf (CXW P w ca) P w K mg base N qual (defScope st) f cdv A outer s H E) (defBody st) m) : FnOk P w K mg base (CXW P w ca) (k + 1) f fd ps (spM K ca j (mDef j n m)) := by
  subst hj
  obtain ⟨oc, od, kV, doc, pm, an, cdv, ct, osl, rfl, lk, hcd⟩ := F.ex
  refine fn_of lk hcd S (fun vs H Q E q => q.1) fun A outer s H vs Q E hr hsp => ?_
  obtain ⟨hl, ds, g, μ, r, q, p⟩ := hsp
  refine ⟨_, pss_leave (h cdv A outer s H E hr [] _), ds.map some ++ List.replicate n none, g, μ, ?_, ?_⟩
  · have z := start_rep N r q
    rw [hl, hn] at z
    exact z
  · unfold mDef at p
    rw [if_pos (by rw [← q.length, hl])] at p
    cases hm : m (ds.map some ++ List.replicate n none) g with
    | nx σ' g' => rw [hm] at p; exact fun σ'' H' μ' e' R' => p .non H' μ' e' R'.g .non
    | rt d g' => rw [hm] at p; exact p
    | bk _ _ => rw [hm] at p; exact p.elim
    | ct _ _ => rw [hm] at p; exact p.elim
    | raise _ _ _ => rw [hm] at p; exact fun σ'' H' μ' e' R' => p H' μ' e' R'.g
    | stuck => rw [hm] at p; exact p.elim
noncomputable def EK (Φ : XS) (σ : L2.St) : XK := fun c l H' => ∀ x : Xc, c = .int x.1 0 → l = x.2 → Φ x σ H'
theorem spM_of {F : MF} {n : Nat} {Φ : XS} {σ : L2.St} {Q : VK} {H : Hp} {μ : List Addr} {vs : List V} {ds : List D} {g : G} (st : ∀ ds g, ds.length ≠ n → F ds g = .stuck) (r : GRep K ca μ H g) (q : Dens K μ H vs ds) (p : Post K ca Φ σ Q H μ (F ds g)) : spM K ca n F vs H Q (EK Φ σ) := by
  have hl : vs.length = n := by
    rw [q.length]
    apply Decidable.byContradiction
    intro h
    rw [st ds g h] at p
    exact p
  refine ⟨hl, ds, g, μ, r, q, ?_⟩
  cases hF : F ds g with
  | ok d g' => rw [hF] at p; exact p
  | raise x g' =>
    rw [hF] at p
    intro H' μ' e r' y e1 e2
    have : x = y := by
      obtain ⟨a, b⟩ := x
      obtain ⟨c, d⟩ := y
      injection e1 with e1
      have e1 : (a : Int) = (c : Int) := e1
      have e3 : a = c := by omega
      rw [e3, show b = d from e2]
    rw [← this]
    exact p H' μ' e r'
  | stuck => rw [hF] at p; exact p
end
section
variable {X : Cx} {ca : Nat → Addr} {e o : Expr} {es : List Expr} {me mo : ME} {mr : MA} {p pos apos : Pos} {k n : Nat} {F : MF} {pn : List (Addr × Obj)} {Φ : XS}
theorem run_fl {f : Addr} {fd : FuncData} {ps : List Str} {pins : List (Addr × Obj)} {σ : L2.St} {H : Hp} {s : Shared} {Q : VK} {us : List Value} {vs : List V} (G : FnOk X.prog X.w X.K X.mg X.base (CXW X.prog X.w ca) k f fd ps (spM X.K ca n F)) (hr : Room k X.A) (hb : Binds X.K fd ps [])
    (I : Inv (xat X ca pn Φ) pins σ H s) (r : Vals vs us) (h : spM X.K ca n F vs H Q (EK Φ σ)) : wpAny (model X.prog X.w) X.A (call (.ref f) us) (EP (xat X ca pn Φ) pins σ Q) (xat X ca pn Φ).xe s := by
  have hl : (us ++ []).length = ps.length := by rw [List.append_nil, ← r.length]; exact G.len _ _ _ _ h
  have b := hb s us I.kIn hl
  rw [List.append_nil] at b
  refine wpAny_call (codeAny_mono (G.run X.A X.stack s H ⟨us, []⟩ us vs Q (EK Φ σ) hr I.env0 b r h) fun res s' hq => ?_)
  cases res with
  | error z => exact pass_fl I hq
  | ok fl =>
    cases fl with
    | ret u => exact I.after hq
    | _ => exact False.elim hq
theorem r_call {x : Str} (h : FnH X.prog X.w X.K X.mg X.base ca x k n F) (hr : Room k X.A) (ha : PA3 ca X (e :: es) mr) (hg : Gl X x := by rfl) (hdb : (x == ("__debug__" : Str)) = false := by decide)
    (he : starEach (e :: es) X.env = (false, eval e X.env) :: starEach es X.env := by rfl) (hpl : (backTo pos (starEach es X.env)).any (·.1) = false := by rfl) : PE3 ca X (.Call (.Name x p) (e :: es) [] pos) (mCall F mr) := by
  obtain ⟨f, fd, ps, F1, m1, k1, b1⟩ := h.ex
  intro pn Φ pins s σ H Q I ⟨σ3, g, μ, R, q⟩
  refine wpAny_Call_Name_kw (ld_glob I hg m1 ?_ hdb)
  have z : upA X.K ca Φ mr σ H fun vs H1 => spM X.K ca n F vs H1 Q (EK Φ σ) := upA_mono (bindAE R q) fun xs H1 ⟨ds, g1, μ1, e1, R1, q1, p1⟩ => spM_of h.st R1.g q1 p1
  refine PySem.W.callWith_K (h₀ := X.base) I.ok.mod.kin k1 (thn (ha pn Φ pos pins s σ H _ I z) fun us s1 ⟨vs, H1, I1, r, q1⟩ => ⟨I1.kIn, ?_⟩) he hpl
  exact run_fl F1 hr b1 I1 r q1
theorem r_make {c : Nat} {x : Str} (h : MkH X.prog X.w X.K X.mg X.base ca c x k n F) (hr : Room (k + 1) X.A) (ha : PA3 ca X (e :: es) mr) (hg : Gl X x := by rfl) (hdb : (x == ("__debug__" : Str)) = false := by decide)
    (he : starEach (e :: es) X.env = (false, eval e X.env) :: starEach es X.env := by rfl) (hpl : (backTo pos (starEach es X.env)).any (·.1) = false := by rfl) : PE3 ca X (.Call (.Name x p) (e :: es) [] pos) (mMake c F mr) := by
  obtain ⟨f, fd, ps, F1, m1, k1, b1⟩ := h.ex
  intro pn Φ pins s σ H Q I ⟨σ3, g, μ, R, q⟩
  refine wpAny_Call_Name_kw (ld_glob I hg k1 ?_ hdb)
  have z : upA X.K ca Φ mr σ H fun vs H1 => ∀ y dy, H1 y = none → H1 dy = none → dy ≠ y → spM X.K ca n F (.ref y :: vs) (upd (upd H1 dy (.own y)) y (.ins (ca c) dy [])) (fun v H2 => v = .non ∧ Q (.ref y) H2) (EK Φ σ) :=
    upA_mono (bindAE R q) fun xs H1 ⟨ds, g1, μ1, e1, R1, q1, p1⟩ y dy hy hdy ne => by
      have hy2 : (upd H1 dy (.own y)) y = none := by rw [upd_ne (Ne.symm ne)]; exact hy
      have ex1 : Ext X.K μ1 H1 μ1 (upd H1 dy (.own y)) := ext_new hdy
      have g2 := R1.g.new (o := .own y) hdy
      have ex2 : Ext X.K μ1 (upd H1 dy (.own y)) (μ1 ++ [y]) (upd (upd H1 dy (.own y)) y (.ins (ca c) dy [])) := ext_push hy2
      have g3 : GRep X.K ca (μ1 ++ [y]) (upd (upd H1 dy (.own y)) y (.ins (ca c) dy [])) (g1 ++ [.ins c []]) := g2.push hy2 ⟨dy, [], upd_same, .nil⟩
      have ey : (μ1 ++ [y])[g1.length]? = some y := by rw [← R1.g.len]; simp
      refine spM_of (Φ := Φ) (σ := σ) h.st g3 (.cons (.ref ey) ((q1.mono ex1).mono ex2)) ?_
      cases hF : F (D.ref g1.length :: ds) (g1 ++ [.ins c []]) with
      | stuck => rw [hF] at p1; exact p1.elim
      | raise _ _ => rw [hF] at p1; exact RaP.go (ex1.trans ex2) p1
      | ok d g4 =>
        rw [hF, Res.bind_ok] at p1
        intro v H' μ' e' r' q'
        cases q' with
        | non => exact ⟨rfl, p1 _ H' μ' ((ex1.trans ex2).trans e') r' (.ref (e'.at ey))⟩
        | _ => exact p1.elim
  refine PySem.W.callWith_K (h₀ := X.base) I.ok.mod.kin m1.kp (thn (ha pn Φ pos pins s σ H _ I z) fun us s1 ⟨vs, H1, I1, r, q1⟩ => ⟨I1.kIn, ?_⟩) he hpl
  have hq := q1 (s1.heap.objs.size + 1) s1.heap.objs.size (I1.hok.fresh (Nat.le_succ _)) (I1.hok.fresh (Nat.le_refl _)) (Nat.ne_of_lt (Nat.lt_succ_self _))
  have I2 := Inv.made (C := ca c) I1
  have r2 : Vals (V.ref (s1.heap.objs.size + 1) :: vs) (Value.ref (s1.heap.objs.size + 1) :: us) := .cons rfl r
  have hl : (Value.ref (s1.heap.objs.size + 1) :: us ++ []).length = ps.length := by
    have w := r2.length
    rw [F1.len _ _ _ _ hq] at w
    rw [List.append_nil]
    exact w.symm
  have b2 := b1 _ (Value.ref (s1.heap.objs.size + 1) :: us) I2.kIn hl
  rw [List.append_nil] at b2
  refine wpAny_call (make_map (f := f) I1.kIn m1.makes m1.init (beq_iff_eq.mp m1.fn) (codeAny_mono (F1.run _ X.stack _ _ ⟨Value.ref (s1.heap.objs.size + 1) :: us, []⟩ (Value.ref (s1.heap.objs.size + 1) :: us) _ _ (EK Φ σ) (hr.make (ca c) us [])
    (I2.env0.make (ca c) us []) b2 r2 hq) fun res s' hq' => ?_))
  cases res with
  | error z => exact pass_fl I2 hq'
  | ok fl =>
    cases fl with
    | ret u =>
      obtain ⟨v, H', I3, rv, ev, q3⟩ := I2.after hq'
      subst ev
      exact ⟨rv, ⟨V.ref (s1.heap.objs.size + 1), H', I3, rfl, q3⟩⟩
    | _ => exact False.elim hq'
end






section
variable {X : Cx} {ca : Nat → Addr} {tg e : Expr} {me : ME} {mr : MA} {p pos : Pos}
theorem conseqI {X : Cx} {tg iter : Expr} {t t' : TI} (h : PI X tg iter t) (i : ∀ σ H R, t' σ H R → t σ H R) : PI X tg iter t' := fun pins s σ H R I q => h pins s σ H R I (i σ H R q)
theorem sim_range (K : PySem.W.Frag) (μ : List Addr) (H : Hp) (lo : Int) (n : Nat) : Sim K ca μ H (srcRange lo n) (Itr lo n) := by
  intro i H1 μ1 g1 e r
  unfold srcRange
  dsimp only
  by_cases h : i < n
  · rw [if_pos h]
    exact ⟨h, fun x H' y => by obtain ⟨rfl, rfl⟩ := y; exact ⟨.refl, r, .int _⟩⟩
  · rw [if_neg h]
    exact Nat.le_of_not_lt h
theorem sim_tup {K : PySem.W.Frag} {μ : List Addr} {H : Hp} {a : Addr} {vs : List V} {ds : List D} (h : SqT K H a vs) (q : Dens K μ H vs ds) : Sim K ca μ H ⟨fun _ i => some ds[i]?, ds.length⟩ (Itt K a) := by
  intro i H1 μ1 g1 e r
  dsimp only
  cases hd : ds[i]? with
  | none =>
    refine ⟨vs, e.tup _ _ h, ?_⟩
    rw [q.length]
    exact List.getElem?_eq_none_iff.mp hd
  | some d =>
    obtain ⟨v, h1, h2⟩ := q.get hd
    refine ⟨⟨vs, v, e.tup _ _ h, h1⟩, fun x H' y => ?_⟩
    obtain ⟨rfl, y⟩ := y
    have := y vs (e.tup _ _ h)
    rw [h1] at this; cases this
    exact ⟨.refl, r, h2.mono e⟩
theorem sim_lst {K : PySem.W.Frag} {μ : List Addr} {H : Hp} {a : Addr} {n t : Nat} (hn : μ[n]? = some a) : Sim K ca μ H ⟨fun g i => (match g[n]? with | some (.lst es) => some es[i]? | _ => none), t⟩ (Itl K a) := by
  intro i H1 μ1 g1 e r
  dsimp only
  cases hg : g1[n]? with
  | none => trivial
  | some o =>
    cases o with
    | lst ds =>
      dsimp only
      obtain ⟨a', ha', vs, hH, q⟩ := r.addr hg
      rw [e.at hn] at ha'; cases ha'
      cases hd : ds[i]? with
      | none =>
        refine ⟨vs, .of hH, ?_⟩
        rw [q.length]
        exact List.getElem?_eq_none_iff.mp hd
      | some d =>
        obtain ⟨v, h1, h2⟩ := q.get hd
        refine ⟨⟨vs, v, .of hH, h1⟩, fun x H' y => ?_⟩
        obtain ⟨rfl, y⟩ := y
        have := y vs (.of hH)
        rw [h1] at this; cases this
        exact ⟨.refl, r, h2⟩
    | _ => trivial
theorem sim_fl {K : PySem.W.Frag} {μ : List Addr} {H : Hp} {a : Addr} {vs : List V} {ds : List D} (h : SqF K H a vs) (q : Dens K μ H vs ds) : Sim K ca μ H ⟨fun _ i => some ds[i]?, ds.length⟩ (Itl K a) := by
  intro i H1 μ1 g1 e r
  dsimp only
  have sq : SqL K H1 a vs := (e.fl _ _ h).sq
  cases hd : ds[i]? with
  | none =>
    refine ⟨vs, sq, ?_⟩
    rw [q.length]
    exact List.getElem?_eq_none_iff.mp hd
  | some d =>
    obtain ⟨v, h1, h2⟩ := q.get hd
    refine ⟨⟨vs, v, sq, h1⟩, fun x H' y => ?_⟩
    obtain ⟨rfl, y⟩ := y
    have := y vs sq
    rw [h1] at this; cases this
    exact ⟨.refl, r, h2.mono e⟩
theorem pi_seq {l : Expr} {tl : TE} (hl : PE X l tl) : PI X tg l (fun σ H R => tl σ H fun x H1 => (∃ a, x = .ref a ∧ (∃ xs, SqL X.K H1 a xs) ∧ R (Itl X.K a) H1) ∨ ∃ a, x = .ref a ∧ (∃ xs, SqT X.K H1 a xs) ∧ R (Itt X.K a) H1) := by
  intro pins s σ H R I h
  refine thn (hl pins s σ H _ I h) fun v s1 ⟨x, H1, I1, r1, q1⟩ => ?_
  rcases q1 with ⟨a, e, ⟨xs, hq⟩, q⟩ | ⟨a, e, ⟨xs, hq⟩, q⟩
  · subst e
    cases r1
    obtain ⟨its, rv, p, hz⟩ := I1.list hq
    refine wpAny_pyIter_list p.isList ?_
    refine ⟨s1.heap.objs.size, [s1.heap.objs.size], _, _, H1, rfl, I1.kept (t' := s1.toks) fun b o e => Heap.get?_push_of_some _ e, turn_list a _, ⟨_, Heap.get?_push_size _ rfl, rfl, rfl⟩, fun b hb => ?_, q⟩
    have e : b = s1.heap.objs.size := by simpa using hb
    subst e
    exact I1.fpOk (Nat.le_refl _) (I1.hok.fresh (Nat.le_refl _))
  · subst e
    cases r1
    obtain ⟨its, rv, p, hz⟩ := I1.tuple hq
    refine wpAny_pyIter_tuple (show s1.heap.IsTuple a its.toArray from p) ?_
    refine ⟨s1.heap.objs.size, [s1.heap.objs.size], _, _, H1, rfl, I1.kept (t' := s1.toks) fun b o e => Heap.get?_push_of_some _ e, turn_tuple a _, ⟨_, Heap.get?_push_size _ rfl, rfl, rfl⟩, fun b hb => ?_, q⟩
    have e : b = s1.heap.objs.size := by simpa using hb
    subst e
    exact I1.fpOk (Nat.le_refl _) (I1.hok.fresh (Nat.le_refl _))
theorem r_itSeq (he : PE3 ca X e me) : PI3 ca X tg e (mItSeq me) :=
  fun pn Φ => conseqI (pi_seq (X := xat X ca pn Φ) (he pn Φ)) fun σ H R hQ => by
    obtain ⟨σ3, g, μ, Rp, p⟩ := hQ
    unfold mItSeq at p
    refine ⟨σ3, g, μ, Rp, ?_⟩
    cases hm : me σ3 g with
    | raise _ _ => rw [hm] at p; exact p
    | stuck => rw [hm] at p; exact p.elim
    | ok d g1 =>
      rw [hm, Res.bind_ok] at p
      intro v H1 μ1 e1 r1 q1
      unfold srcSeq at p
      cases q1 with
      | @tup a vs ds ht hs =>
        exact .inr ⟨a, rfl, ⟨vs, ht⟩, p _ H1 μ1 e1 r1 (sim_tup ht hs)⟩
      | @fl a vs ds ht hs => exact .inl ⟨a, rfl, ⟨vs, ht.sq⟩, p _ H1 μ1 e1 r1 (sim_fl ht hs)⟩
      | @ref n a hn =>
        dsimp only at p
        cases hg : g1[n]? with
        | none => rw [hg] at p; exact p.elim
        | some o =>
          rw [hg] at p
          obtain ⟨a', ha', orp⟩ := r1.addr hg
          rw [hn] at ha'; cases ha'
          cases o with
          | lst ds => obtain ⟨vs, hH, q⟩ := orp; exact .inl ⟨a, rfl, ⟨vs, .of hH⟩, p _ H1 μ1 e1 r1 (sim_lst hn)⟩
          | _ => exact p.elim
      | _ => exact p.elim
theorem r_range1 (hm : X.mg "range" = none) (he : PE3 ca X e me) (hg : Gl X "range" := by rfl) (hs : starEach [e] X.env = [(false, eval e X.env)] := by rfl) : PI3 ca X tg (.Call (.Name "range" p) [e] [] pos) (mItRange1 me) :=
  fun pn Φ => conseqI (pi_range1 (X := xat X ca pn Φ) hg hm (r_cons he r_nil hs pn Φ) hs) fun σ H R hQ => by
    obtain ⟨σ3, g, μ, Rp, p⟩ := hQ
    refine ⟨σ3, g, μ, Rp, ?_⟩
    unfold mItRange1 at p
    unfold mCons mNil
    cases hm : me σ3 g with
    | raise _ _ => rw [hm] at p; exact p
    | stuck => rw [hm] at p; exact p.elim
    | ok d g1 =>
      rw [hm, Res.bind_ok] at p
      rw [Res.bind_ok, Res.bind_ok]
      intro vs H1 μ1 e1 r1 q1
      cases q1 with
      | cons h1 h2 =>
        cases h2
        cases h1 with
        | int j =>
          dsimp only at p
          by_cases hj : inR j
          · rw [if_pos hj] at p
            exact ⟨j, rfl, hj.1, hj.2, p _ H1 μ1 e1 r1 (sim_range X.K μ1 H1 0 j.toNat)⟩
          · rw [if_neg hj] at p; exact p.elim
        | _ => exact p.elim
theorem r_range2 {e2 : Expr} {me2 : ME} (hm : X.mg "range" = none) (he : PE3 ca X e me) (he2 : PE3 ca X e2 me2) (hg : Gl X "range" := by rfl) (hs : starEach [e, e2] X.env = [(false, eval e X.env), (false, eval e2 X.env)] := by rfl) (hs2 : starEach [e2] X.env = [(false, eval e2 X.env)] := by rfl)
    (hs3 : starEach [e, e2] X.env = (false, eval e X.env) :: starEach [e2] X.env := by rfl) : PI3 ca X tg (.Call (.Name "range" p) [e, e2] [] pos) (mItRange2 me me2) :=
  fun pn Φ => conseqI (pi_range2 (X := xat X ca pn Φ) hg hm (r_cons he (r_cons he2 r_nil hs2) hs3 pn Φ) hs hs2) fun σ H R hQ => by
    obtain ⟨σ3, g, μ, Rp, p⟩ := hQ
    refine ⟨σ3, g, μ, Rp, ?_⟩
    unfold mItRange2 at p
    unfold mCons mNil
    cases hm : me σ3 g with
    | raise _ _ => rw [hm] at p; exact p
    | stuck => rw [hm] at p; exact p.elim
    | ok d g1 =>
      rw [hm, Res.bind_ok] at p
      rw [Res.bind_ok]
      cases hm2 : me2 σ3 g1 with
      | raise _ _ => rw [hm2] at p; exact p
      | stuck => rw [hm2] at p; exact p.elim
      | ok d2 g2 =>
        rw [hm2, Res.bind_ok] at p
        rw [Res.bind_ok, Res.bind_ok, Res.bind_ok]
        intro vs H1 μ1 e1 r1 q1
        cases q1 with
        | cons h1 h2 =>
          cases h2 with
          | cons h2 h3 =>
            cases h3
            cases h1 with
            | int i =>
              cases h2 with
              | int j =>
                dsimp only at p
                by_cases hj : inR i ∧ inR j
                · rw [if_pos hj] at p
                  exact ⟨i, j, rfl, ⟨hj.1.1, hj.1.2, hj.2.1, hj.2.2⟩, p _ H1 μ1 e1 r1 (sim_range X.K μ1 H1 i (j - i).toNat)⟩
                · rw [if_neg hj] at p; exact p.elim
              | _ => exact p.elim
            | _ => cases h2 <;> exact p.elim
end
end L3

end
section
namespace L3
open PySem PySem.Spec PyProof.Rows L2

noncomputable def blk (X : Cx) (scope : Scope) (cl : List (Str × Addr)) (C : Addr) (Nb : List Str) (s3 : Shared) (H3 : Hp) (ex : List Addr) : Cx :=
  { X with env := compEnvC scope cl C X.env, N := Nb, s₀ := s3, H₀ := H3, outer := X.stack, stack := X.stack, ex := ex, fn := fun _ => false, pn := [], xe := fun _ _ => False }
structure BScope (X : Cx) (scope : Scope) (Nb : List Str) (no : Nat) (cap : List Nat) : Prop where
  kind : scope.kind = .function
  cell : ∀ y ∈ scope.names, y.2 ≠ .cell
  loc : ∀ y ∈ scope.names, y.2 = .local → scope.names.lookup y.1 = some .local
  free : ∀ y ∈ scope.names, y.2 = .free → X.env.kindOf y.1 = some .cell ∨ X.env.kindOf y.1 = some .free
  len : Nb.length = no + cap.length
  cap : ∀ (j i : Nat), cap[j]? = some i → ∃ x, Nb[no + j]? = some x ∧ X.N[i]? = some x ∧ scope.names.lookup x = some .free ∧ Vis X.env.scope x ∧ X.env.kindOf x ≠ some .local

noncomputable def clOf (cells : List (Str × Addr)) : List (Str × NameKind) → List (Str × Addr) → Option (List (Str × Addr))
  | [], cs => some cs
  | (n, k) :: r, cs => if (k == .free) = true then (match cells.lookup n with
    | some a => clOf cells r ((n, a) :: cs)
    | none => none) else clOf cells r cs
theorem closure_eq {env : Env} : ∀ (names : List (Str × NameKind)) (cs cl : List (Str × Addr)), clOf env.cells names cs = some cl →
    (forIn names cs fun (x : Str × NameKind) (r : List (Str × Addr)) => (match x with
      | (name, kind) => if (kind == .free) = true then (do let a ← cellOf env name; pure (ForInStep.yield ((name, a) :: r))) else pure (ForInStep.yield r) : Sem (ForInStep (List (Str × Addr))))) = (pure cl : Sem (List (Str × Addr)))
  | [], cs, cl, h => by cases h; rfl
  | (n, k) :: r, cs, cl, h => by
    unfold clOf at h
    rw [List.forIn_cons]
    by_cases hk : (k == .free) = true
    · rw [if_pos hk] at h
      cases hl : env.cells.lookup n with
      | none => rw [hl] at h; cases h
      | some a =>
        rw [hl] at h
        dsimp only at h ⊢
        rw [if_pos hk]
        unfold cellOf
        rw [hl]
        exact closure_eq r _ cl h
    · rw [if_neg hk] at h
      dsimp only
      rw [if_neg hk]
      exact closure_eq r _ cl h
theorem closureFor_of {scope : Scope} {env : Env} {cl : List (Str × Addr)} (h : clOf env.cells scope.names [] = some cl) : closureFor scope env = pure cl := by
  have q := closure_eq (env := env) scope.names [] cl h
  unfold closureFor
  exact congrArg (fun t => t >>= fun r => (pure r : Sem _)) q
theorem clOf_some {cells : List (Str × Addr)} : ∀ (names : List (Str × NameKind)) (cs : List (Str × Addr)), (∀ y ∈ names, y.2 = .free → ∃ c, cells.lookup y.1 = some c) → ∃ cl, clOf cells names cs = some cl
  | [], cs, _ => ⟨cs, rfl⟩
  | (n, k) :: r, cs, h => by
    unfold clOf
    by_cases hk : (k == .free) = true
    · rw [if_pos hk]
      obtain ⟨c, e⟩ := h (n, k) List.mem_cons_self (beq_iff_eq.mp hk)
      rw [show cells.lookup n = some c from e]
      exact clOf_some r _ fun y hy => h y (List.mem_cons_of_mem _ hy)
    · rw [if_neg hk]
      exact clOf_some r _ fun y hy => h y (List.mem_cons_of_mem _ hy)
theorem clOf_sub {cells : List (Str × Addr)} : ∀ (names : List (Str × NameKind)) (cs cl : List (Str × Addr)), clOf cells names cs = some cl → (∀ x c, cs.lookup x = some c → cells.lookup x = some c) → ∀ x c, cl.lookup x = some c → cells.lookup x = some c
  | [], cs, cl, h, hc => by cases h; exact hc
  | (n, k) :: r, cs, cl, h, hc => by
    unfold clOf at h
    by_cases hk : (k == .free) = true
    · rw [if_pos hk] at h
      cases hl : cells.lookup n with
      | none => rw [hl] at h; cases h
      | some a =>
        rw [hl] at h
        refine clOf_sub r _ cl h fun x c e => ?_
        by_cases z : x = n
        · subst z
          simp only [List.lookup, beq_self_eq_true] at e
          cases e
          exact hl
        · have zb : (x == n) = false := beq_eq_false_iff_ne.mpr z
          simp only [List.lookup, zb] at e
          exact hc x c e
    · rw [if_neg hk] at h
      exact clOf_sub r _ cl h hc
theorem clOf_has {cells : List (Str × Addr)} : ∀ (names : List (Str × NameKind)) (cs cl : List (Str × Addr)), clOf cells names cs = some cl → ∀ x, (x ∈ names.filterMap fun y => if (y.2 == .free) = true then some y.1 else none) ∨ (∃ c, cs.lookup x = some c) → ∃ c, cl.lookup x = some c
  | [], cs, cl, h, x, hx => by
    cases h
    rcases hx with hx | hx
    · simp at hx
    · exact hx
  | (n, k) :: r, cs, cl, h, x, hx => by
    unfold clOf at h
    by_cases hk : (k == .free) = true
    · rw [if_pos hk] at h
      cases hl : cells.lookup n with
      | none => rw [hl] at h; cases h
      | some a =>
        rw [hl] at h
        refine clOf_has r _ cl h x ?_
        by_cases z : x = n
        · subst z
          exact .inr ⟨a, by simp [List.lookup]⟩
        · have zb : (x == n) = false := beq_eq_false_iff_ne.mpr z
          rcases hx with hx | ⟨c, hx⟩
          · rw [List.filterMap_cons] at hx
            simp only [hk, if_true] at hx
            rcases List.mem_cons.mp hx with e | e
            · exact absurd e z
            · exact .inl e
          · exact .inr ⟨c, by simp only [List.lookup, zb]; exact hx⟩
    · rw [if_neg hk] at h
      refine clOf_has r _ cl h x ?_
      rcases hx with hx | hx
      · rw [List.filterMap_cons] at hx
        simp only [hk] at hx
        exact .inl (by simpa using hx)
      · exact .inr hx
theorem mem_of_free {names : List (Str × NameKind)} {x : Str} (h : names.lookup x = some .free) : x ∈ names.filterMap fun y => if (y.2 == .free) = true then some y.1 else none :=
  List.mem_filterMap.mpr ⟨(x, .free), PySem.mem_of_lookup h, by simp⟩

theorem relabel_free {env : Env} : ∀ {names : List (Str × NameKind)} {x : Str} {k : NameKind}, (∀ y ∈ names, y.2 ≠ .cell) →
    (names.map fun (n, k) => if (k == NameKind.free && env.scope.kind == .function && env.kindOf n == some .cell) then (n, NameKind.cell) else (n, k)).lookup x = some k → (k = .cell ∨ k = .free) → names.lookup x = some .free
  | [], _, _, _, h, _ => by cases h
  | (n, k0) :: r, x, k, hn, h, hk => by
    have ih := @relabel_free env r x k fun y hy => hn y (List.mem_cons_of_mem _ hy)
    rw [List.map_cons] at h
    by_cases hc : (k0 == NameKind.free && env.scope.kind == .function && env.kindOf n == some .cell) = true
    · have k0f : k0 = .free := by
        simp only [Bool.and_eq_true] at hc
        exact beq_iff_eq.mp hc.1.1
      dsimp only at h
      rw [if_pos hc] at h
      cases hx : x == n with
      | true => simp only [List.lookup, hx]; rw [k0f]
      | false => simp only [List.lookup, hx] at h ⊢; exact ih h hk
    · dsimp only at h
      rw [if_neg hc] at h
      cases hx : x == n with
      | true =>
        simp only [List.lookup, hx] at h ⊢
        cases h
        rcases hk with e | e
        · exact absurd e (hn (n, k0) List.mem_cons_self)
        · rw [e]
      | false => simp only [List.lookup, hx] at h ⊢; exact ih h hk

theorem compLoop_gen {prog : Program} {w : World} {A : Around} {R : Result → Shared → Prop} {s : Shared} {elt target iter : Expr} {ifs : List Expr} {scope : Scope} {pos : Pos} {it acc : Value} {env : Env} (I : Nat → Shared → Prop)
    (turn : ∀ n s, I n s → wpAny (model prog w) A (pyNext it) (fun r s₁ => match r with
      | none => R (.ok .next) s₁
      | some v => wpAny (model prog w) A (letOwnedTupleGo target it v) (fun _ s1' => wpAny (model prog w) A (assign target env v) (fun _ s₂ =>
          wpAny (model prog w) A (forIn ifs true fun c r => if r = true then do let ok ← isTrue c env (eval c env); pure (ForInStep.yield ok) else pure (ForInStep.yield r)) (fun ok s₃ =>
            if ok = true then wpAny (model prog w) A (eval elt env) (fun x s₄ =>
              wpAny (model prog w) A (call (.builtin "list.append") [acc, x]) (fun _ s₅ => ∃ m, m < n ∧ I m s₅) (fun _ _ => False) s₄) (fun _ _ => False) s₃
            else ∃ m, m < n ∧ I m s₃) (fun _ _ => False) s₂) (fun _ _ => False) s1') (fun _ _ => False) s₁) (fun _ _ => False) s)
    (n : Nat) (h : I n s) : codeAny (model prog w) A (.compLoop (.ListComp elt [⟨target, iter, ifs, 0⟩] scope pos) 0 it acc env) R s := by
  refine codeAny_loop rfl I (fun n s hI => ?_) n h
  show wpAny _ A ((compTurn (.ListComp elt [⟨target, iter, ifs, 0⟩] scope pos) 0 it acc env).onRaise (fun x => do noteFrame x env; theTreesLotGoes x)) _ _ s
  refine wpAny_noted ?_
  rw [compTurn_list]
  refine wpAny_bind (wpAny_standAt (wpAny_bind (wpAny_mono (turn n s hI) (fun r s₁ h₁ => ?_) fun _ _ h' => h'.elim)))
  cases r with
  | none => exact wpAny_pure h₁
  | some v =>
    refine wpAny_bind (wpAny_mono h₁ (fun _ s1' h1' => ?_) fun _ _ h' => h'.elim)
    refine wpAny_bind (wpAny_mono h1' (fun _ s₂ h₂ => wpAny_bind (wpAny_mono h₂ (fun ok s₃ h₃ => ?_) fun _ _ h' => h'.elim)) fun _ _ h' => h'.elim)
    cases ok with
    | false => exact wpAny_pure ⟨rfl, h₃⟩
    | true =>
      exact wpAny_bind (wpAny_bind (wpAny_mono h₃ (fun x s₄ h₄ => wpAny_bind (wpAny_mono h₄ (fun _ s₅ h₅ => wpAny_pure (wpAny_pure ⟨rfl, h₅⟩)) fun _ _ h' => h'.elim)) fun _ _ h' => h'.elim))

theorem Inv.track {X : Cx} {pins : List (Addr × Obj)} {σ : L2.St} {H : Hp} {s : Shared} {a : Addr} {o : HO} (I : Inv X pins σ H s) (ha : FpOk X pins H a) (new : ObjOk X.prog X.w (upd H a o) s.heap a o) : Inv X pins σ (upd H a o) s := by
  obtain ⟨f0, f1, f2, f3, f4, f5⟩ := ha
  have ne : ∀ b u, H b = some u → b ≠ a := fun b u e => ne_of_none e f0
  refine I.step (h' := s.heap) (g' := s.gens) (t' := s.toks) (d' := s.drawn) (ch := [a]) (fun b hb => ?_) (fun b o _ _ _ e _ => e) (fun b o _ _ _ e _ => ⟨o.slots, e⟩) (fun b o hb e n => ?_) (fun b o _ e => ⟨o, e⟩)
    (fun b xs e => by rw [upd_ne (ne b _ e)]; exact e) (fun b o u e => by rw [upd_ne (ne b _ e)]; exact e) (fun b ps e => ⟨#[], by rw [upd_ne (ne b _ e), e]; simp⟩) (fun _ h => h) (fun b u e => ?_) I.bare
  · have e : b = a := by simpa using hb
    subst e
    exact ⟨f3, f1, f4, f5⟩
  · rw [upd_ne (fun z => hb (by simp [z]))]; exact n
  · by_cases hb : b = a
    · subst hb; rw [upd_same] at e; cases e; exact new
    · rw [upd_ne hb] at e
      exact (I.hok b u e).stay (fun _ _ _ q => q) (fun c q => by rw [upd_ne (ne c _ q)]; exact q) fun c xs q => by rw [upd_ne (ne c _ q)]; exact q
theorem FpOk.mono {X : Cx} {pins : List (Addr × Obj)} {H H' : Hp} {b : Addr} (h : FpOk X pins H b) (n : H' b = none) : FpOk X pins H' b := ⟨n, h.2⟩

noncomputable abbrev F0 : XS := fun _ _ _ => False
theorem noX {α : Type} {M : Model} {A : Around} {X : Cx} {ca : Nat → Addr} {t : Sem α} {Q : α → Shared → Prop} {s : Shared} (h : wpAny M A t Q (XE X ca F0) s) : wpAny M A t Q (fun _ _ => False) s := wpAny_mono h (fun _ _ z => z) fun _ _ ⟨_, _, _, _, _, _, _, z⟩ => z
noncomputable def PIf (ca : Nat → Addr) (X : Cx) (ifs : List Expr) (m : MT) : Prop :=
  ∀ (pins : List (Addr × Obj)) (s : Shared) (σ : L2.St) (H : Hp) (Q : Bool → Hp → Prop), Inv (xat X ca [] F0) pins σ H s → upT X.K ca F0 m σ H Q →
    wpAny (model X.prog X.w) X.A (forIn ifs true fun c r => if r = true then do let ok ← isTrue c X.env (eval c X.env); pure (ForInStep.yield ok) else pure (ForInStep.yield r)) (TP (xat X ca [] F0) pins σ Q) (fun _ _ => False) s
theorem r_if0 {X : Cx} {ca : Nat → Addr} : PIf ca X [] mTrue := by
  intro pins s σ H Q I ⟨_, _, μ, R, p⟩
  rw [List.forIn_nil]
  exact wpAny_pure ⟨H, I, p H μ .refl R.g⟩
end L3

end
section
namespace L3
open PySem PySem.Spec PyProof.Rows L2
section
variable {X : Cx} {ca : Nat → Addr} {pn : List (Addr × Obj)}
theorem blk_ok {scope : Scope} {Nb : List Str} {no : Nat} {cap : List Nat} {cl : List (Str × Addr)} {pins : List (Addr × Obj)} {σ : L2.St} {H : Hp} {s : Shared} {ex : List Addr} (B : BScope X scope Nb no cap) (hcl : clOf X.env.cells scope.names [] = some cl)
    (I : Inv (xat X ca pn F0) pins σ H s) (hex : ∀ b ∈ ex, FpOk (xat X ca pn F0) pins H b) (hlt : ∀ b ∈ ex, b < s.heap.objs.size) : (xat (blk X scope cl s.heap.objs.size Nb s H ex) ca [] F0).Ok where
  mod := I.ok.mod
  kind := B.kind
  glob := I.ok.glob
  blt := I.ok.blt
  above := Nat.le_refl _
  inj := fun x y c h1 h2 => I.ok.inj x y c (clOf_sub _ _ _ hcl (fun _ _ z => by cases z) x c h1) (clOf_sub _ _ _ hcl (fun _ _ z => by cases z) y c h2)
  has := fun x hx => clOf_has _ _ _ hcl x (.inl (mem_of_free (by
    rcases hx with hx | hx
    · exact relabel_free B.cell hx (.inl rfl)
    · exact relabel_free B.cell hx (.inr rfl))))
  cab := fun _ _ z => by cases z
  hd := I.ok.hd
  frames := I.ok.frames
  stk := .inl rfl
  exf := fun b hb => ⟨Nat.ne_of_lt (hlt b hb), fun x c e z => (hex b hb).2.2.2.2.1 x c (clOf_sub _ _ _ hcl (fun _ _ z => by cases z) x c e) z⟩
  bs := I.bs
  bsz := Nat.le_trans I.ok.bsz I.sz
  noex := fun b o e hb => by
    rcases (hex b hb).2.2.2.1 with z | z
    · exact I.ok.noex b o e z
    · exact absurd (Nat.lt_of_lt_of_le (Heap.lt_size e) (Nat.le_trans I.ok.bsz z)) (Nat.lt_irrefl _)
  exfs := fun b hb z => by
    rcases List.mem_cons.mp (I.stkSub b z) with e | e
    · exact (hex b hb).2.1 e
    · exact (hex b hb).2.2.1 e
  funs := I.stack
  frf := I.stkFree

theorem relabel_not_local {env : Env} : ∀ {names : List (Str × NameKind)} {x : Str}, names.lookup x = some .free →
    (names.map fun (n, k) => if (k == NameKind.free && env.scope.kind == .function && env.kindOf n == some .cell) then (n, NameKind.cell) else (n, k)).lookup x = some .local → False
  | [], _, h, _ => by cases h
  | (n, k0) :: r, x, h, h' => by
    have ih := @relabel_not_local env r x
    rw [List.map_cons] at h'
    dsimp only at h'
    by_cases hc : (k0 == NameKind.free && env.scope.kind == .function && env.kindOf n == some .cell) = true
    · rw [if_pos hc] at h'
      cases hx : x == n with
      | true => simp only [List.lookup, hx] at h'; cases h'
      | false => simp only [List.lookup, hx] at h h'; exact ih h h'
    · rw [if_neg hc] at h'
      cases hx : x == n with
      | true => simp only [List.lookup, hx] at h h'; rw [h'] at h; cases h
      | false => simp only [List.lookup, hx] at h h'; exact ih h h'

theorem capt_rep {K : PySem.W.Frag} {ca : Nat → Addr} {μ2 : List Addr} {σ3 : S3} {g1 : G} {σ : L2.St} {H2 : Hp} (no : Nat) (cap : List Nat) (R2 : Rep K ca μ2 σ3 g1 σ H2) : Rep K ca μ2 (capt no cap σ3) g1 (List.replicate no none ++ cap.map fun i => (σ[i]?).getD none) H2 := by
  refine ⟨R2.g, ?_, fun i d h => ?_⟩
  · unfold capt
    rw [List.length_append, List.length_append, List.length_replicate, List.length_replicate, List.length_map, List.length_map]
  · unfold capt at h
    have hi : no ≤ i := by
      apply Nat.le_of_not_lt
      intro hlt
      rw [List.getElem?_append_left (by simpa using hlt), List.getElem?_replicate, if_pos hlt] at h
      cases h
    rw [List.getElem?_append_right (by simpa using hi), List.length_replicate, List.getElem?_map] at h ⊢
    cases hcp : cap[i - no]? with
    | none => rw [hcp] at h; cases h
    | some j =>
      rw [hcp] at h
      have h : (σ3[j]?).getD none = some d := by simpa using h
      have hs : σ3[j]? = some (some d) := by
        cases z : σ3[j]? with
        | none => rw [z] at h; cases h
        | some w => rw [z] at h; have h : w = some d := h; rw [h]
      obtain ⟨v, h1, h2⟩ := R2.st j d hs
      exact ⟨v, by simp [h1], h2⟩
theorem comp_core {tg iter elt : Expr} {ifs : List Expr} {scope : Scope} {pos : Pos} {Nb : List Str} {no : Nat} {cap : List Nat} {cl : List (Str × Addr)} {f : MG} {tc : MT} {me : ME} {src : Src}
    {pins : List (Addr × Obj)} {σ : L2.St} {σ3 : S3} {H2 : Hp} {s2 : Shared} {μ2 : List Addr} {g1 g2 : G} {ds : List D} {it : Addr} {fp : List Addr} {tn : Nat → Heap → Prop} {J : It} {RR : Value → Addr → Result → Shared → Prop} {E : Value → Shared → Prop}
    (B : BScope X scope Nb no cap) (hc : X.calm = true)
    (hb : ∀ cl C s3 H3 ex, PG3 ca (blk X scope cl C Nb s3 H3 ex) tg f ∧ PIf ca (blk X scope cl C Nb s3 H3 ex) ifs tc ∧ PE3 ca (blk X scope cl C Nb s3 H3 ex) elt me)
    (hcl : clOf X.env.cells scope.names [] = some cl)
    (I2 : Inv (xat X ca pn F0) pins σ H2 s2) (T : Turn X.prog X.w X.K tg J fp it tn) (st2 : tn 0 s2.heap) (f2 : ∀ b ∈ fp, FpOk (xat X ca pn F0) pins H2 b) (R2 : Rep X.K ca μ2 σ3 g1 σ H2) (sim : Sim X.K ca μ2 H2 src J)
    (hz : src.top ≤ SZ) (hL : compL src f tc me (src.top + 1) 0 (capt no cap σ3) g1 [] = .ok ds g2)
    (fin : ∀ (D C : Addr) (s' : Shared) (H4 : Hp) (μ4 : List Addr) (accV : List V) (its : List Value) (k : Nat), Inv (xat X ca pn F0) pins σ H4 s' → (∃ m, s'.heap.Ns C m) → FpOk (xat X ca pn F0) pins H4 C → FpOk (xat X ca pn F0) pins H4 D → D ≠ C →
      s'.heap.get? D = some { cls := .type "list", data := .seq its.toArray k } → Vals accV its → accV.length ≤ sizeLine → Ext X.K μ2 H2 μ4 H4 → GRep X.K ca μ4 H4 g2 → Dens X.K μ4 H4 accV ds → RR (.ref D) C (.ok .next) s') :
    wpAny (model X.prog X.w) X.A (newList []) (fun acc s₃ => wpAny (model X.prog X.w) X.A (newFunctionEnv scope X.env.globals cl [] X.env.qual none .none (some X.env)) (fun cenv s₄ =>
      codeAny (model X.prog X.w) X.A (.compStart (.ListComp elt [⟨tg, iter, ifs, 0⟩] scope pos) 0 (.ref it) acc { cenv with scope := relabel scope X.env }) (RR acc cenv.locals) s₄) E s₃) E s2 := by
  refine wpAny_newObj_type (wpAny_newFunctionEnv B.cell (by intro y hy; simp at hy) (fun h₁ hns₁ hsb₁ => ?_) B.kind)
  dsimp only at hns₁ hsb₁ ⊢
  generalize hH2 : s2.heap.push { cls := .type "list", dict := none, data := .seq ([] : List Value).toArray } = hp at hns₁ hsb₁ ⊢
  have hC : hp.objs.size = s2.heap.objs.size + 1 := by rw [← hH2, Heap.size_push]
  have I3 : Inv (xat X ca pn F0) pins σ H2 { s2 with heap := hp } := by rw [← hH2]; exact I2.kept (t' := s2.toks) fun b o e => Heap.get?_push_of_some _ e
  have hD3 : hp.get? s2.heap.objs.size = some { cls := .type "list", data := .seq ([] : List Value).toArray } := by rw [← hH2]; exact Heap.get?_push_size _ rfl
  have fD : FpOk (xat X ca pn F0) pins H2 s2.heap.objs.size := I2.fpOk (Nat.le_refl _) (I2.hok.fresh (Nat.le_refl _))
  have fC : FpOk (xat X ca pn F0) pins H2 hp.objs.size := I3.fpOk (Nat.le_refl _) (I3.hok.fresh (Nat.le_refl _))
  have fplt : ∀ b ∈ fp, b < s2.heap.objs.size := fun b hb => by
    obtain ⟨o, e, _⟩ := T.obj 0 _ st2 b hb
    exact Heap.lt_size e
  have DnF : s2.heap.objs.size ∉ fp := fun h => Nat.lt_irrefl _ (fplt _ h)
  have DnC : s2.heap.objs.size ≠ hp.objs.size := by rw [hC]; exact Nat.ne_of_lt (Nat.lt_succ_self _)
  have exOk : ∀ b ∈ s2.heap.objs.size :: fp, FpOk (xat X ca pn F0) pins H2 b := fun b hb => by
    rcases List.mem_cons.mp hb with e | e
    · rw [e]; exact fD
    · exact f2 b e
  have exLt : ∀ b ∈ s2.heap.objs.size :: fp, b < hp.objs.size := fun b hb => by
    rcases List.mem_cons.mp hb with e | e
    · rw [e, hC]; exact Nat.lt_succ_self _
    · rw [hC]; exact Nat.lt_succ_of_lt (fplt b e)
  have okb : (xat (blk X scope cl hp.objs.size Nb { s2 with heap := hp } H2 (s2.heap.objs.size :: fp)) ca [] F0).Ok := blk_ok (s := { s2 with heap := hp }) B hcl I3 exOk exLt
  obtain ⟨hgB, hiB, heB⟩ := hb cl hp.objs.size { s2 with heap := hp } H2 (s2.heap.objs.size :: fp)
  have old : ∀ b o, hp.get? b = some o → h₁.get? b = some o := fun b o e => hsb₁.extBut b o (Nat.ne_of_lt (Heap.lt_size e)) (Heap.get?_push_of_some _ e)
  -- the block's first state
  have Ib : Inv (xat (blk X scope cl hp.objs.size Nb { s2 with heap := hp } H2 (s2.heap.objs.size :: fp)) ca [] F0) [] (List.replicate no none ++ cap.map fun i => (σ[i]?).getD none) H2 { s2 with heap := h₁, toks := s2.toks + ([] : List (Str × Value)).length } := by
    refine ⟨okb, rfl, I3.bare, Un.kept old, ⟨_, hns₁, fun i x v h1 h2 h3 => ?_⟩, fun x c e => ?_, fC.1, fun x c e => ?_, fun p hp => absurd (show p ∈ ([] : List (Addr × Obj)) from hp) (by simp), I3.hok.kept old, ?_⟩
    · have hi : no ≤ i := by
        apply Nat.le_of_not_lt
        intro hlt
        rw [List.getElem?_append_left (by simpa using hlt), List.getElem?_replicate, if_pos hlt] at h2
        cases h2
      rw [List.getElem?_append_right (by simpa using hi), List.length_replicate, List.getElem?_map] at h2
      cases hcp : cap[i - no]? with
      | none => rw [hcp] at h2; cases h2
      | some j =>
        rw [hcp] at h2
        have h2 : (σ[j]?).getD none = some v := by simpa using h2
        have hs : σ[j]? = some (some v) := by
          cases z : σ[j]? with
          | none => rw [z] at h2; cases h2
          | some w => rw [z] at h2; have h2 : w = some v := h2; rw [h2]
        obtain ⟨y, n1, n2, n3, n4, n5⟩ := B.cap (i - no) j hcp
        have e0 : no + (i - no) = i := by omega
        rw [e0] at n1
        have h1 : Nb[i]? = some x := h1
        have hxy : y = x := Option.some.inj (n1.symm.trans h1)
        subst hxy
        obtain ⟨m, hn, hl⟩ := I3.loc
        obtain ⟨u, ru, lk⟩ := hl j y v n2 hs n4
        refine ⟨u, ru, .inr ⟨?_, ?_⟩⟩
        · rcases h3 with z | z | z
          · exact (relabel_not_local n3 z).elim
          · exact .inl z
          · exact .inr z
        · rcases lk with ⟨k1, _⟩ | ⟨_, c, k2, k3⟩
          · exact absurd k1 n5
          · obtain ⟨c', hc'⟩ := clOf_has _ _ _ hcl y (.inl (mem_of_free n3))
            have := clOf_sub _ _ _ hcl (fun _ _ z => by cases z) y c' hc'
            have k2 : X.env.cells.lookup y = some c := k2
            have hcc : c' = c := Option.some.inj (this.symm.trans k2)
            subst hcc
            exact ⟨c', hc', k3.keeps old⟩
    · obtain ⟨v, z⟩ := I3.cell x c (clOf_sub _ _ _ hcl (fun _ _ z => by cases z) x c e)
      exact ⟨v, z.keeps old⟩
    · exact I3.freeC x c (clOf_sub _ _ _ hcl (fun _ _ z => by cases z) x c e)
    · rw [List.length_append, List.length_replicate, List.length_map]; exact B.len.symm
  have RbR := capt_rep no cap R2
  have eK : (xat (blk X scope cl hp.objs.size Nb { s2 with heap := hp } H2 (s2.heap.objs.size :: fp)) ca [] F0).K = X.K := rfl
  have eP : (xat (blk X scope cl hp.objs.size Nb { s2 with heap := hp } H2 (s2.heap.objs.size :: fp)) ca [] F0).prog = X.prog := rfl
  have eW : (xat (blk X scope cl hp.objs.size Nb { s2 with heap := hp } H2 (s2.heap.objs.size :: fp)) ca [] F0).w = X.w := rfl
  have eA : (xat (blk X scope cl hp.objs.size Nb { s2 with heap := hp } H2 (s2.heap.objs.size :: fp)) ca [] F0).A = X.A := rfl
  have eE : (xat (blk X scope cl hp.objs.size Nb { s2 with heap := hp } H2 (s2.heap.objs.size :: fp)) ca [] F0).env = compEnvC scope cl hp.objs.size X.env := rfl
  have eC : (xat (blk X scope cl hp.objs.size Nb { s2 with heap := hp } H2 (s2.heap.objs.size :: fp)) ca [] F0).calm = true := hc
  have eX : ∀ b ∈ s2.heap.objs.size :: fp, b ∈ (xat (blk X scope cl hp.objs.size Nb { s2 with heap := hp } H2 (s2.heap.objs.size :: fp)) ca [] F0).ex := fun b hb => hb
  have eN : ∀ {pl : List (Addr × Obj)} {p : Addr × Obj}, p ∈ (xat (blk X scope cl hp.objs.size Nb { s2 with heap := hp } H2 (s2.heap.objs.size :: fp)) ca [] F0).pn ++ pl → p ∈ pl := fun h => h
  have toUn : ∀ {pl : List (Addr × Obj)} {σ' : L2.St} {H' : Hp} {s' : Shared}, Inv (xat (blk X scope cl hp.objs.size Nb { s2 with heap := hp } H2 (s2.heap.objs.size :: fp)) ca [] F0) pl σ' H' s' → Un (frs (xat X ca pn F0).stack) (s2.heap.objs.size :: fp) H2 H' hp s'.heap := fun I => I.base
  have toOs : ∀ {pl : List (Addr × Obj)} {σ' : L2.St} {H' : Hp} {s' : Shared}, Inv (xat (blk X scope cl hp.objs.size Nb { s2 with heap := hp } H2 (s2.heap.objs.size :: fp)) ca [] F0) pl σ' H' s' → s'.os = s2.os := fun I => I.os
  generalize blk X scope cl hp.objs.size Nb { s2 with heap := hp } H2 (s2.heap.objs.size :: fp) = Xb at okb hgB hiB heB Ib eK eP eW eA eE eC eX eN toUn toOs
  -- the iterator's records, through the block
  have FpB : ∀ {H : Hp} {pl : List (Addr × Obj)}, (∀ b ∈ fp, H b = none) → (∀ p ∈ pl, p.1 ∉ fp) → ∀ b ∈ fp, FpOk (xat Xb ca [] F0) pl H b := fun {H pl} hn hpl b hb => by
    have e0 := okb.exf b (eX b (List.mem_cons_of_mem _ hb))
    refine ⟨hn b hb, e0.1, ?_, .inl (eX b (List.mem_cons_of_mem _ hb)), e0.2, fun p hp z => ?_⟩
    · exact okb.exfs b (eX b (List.mem_cons_of_mem _ hb))
    · have hp' : p ∈ pl := eN hp
      exact hpl p hp' (z ▸ hb)
  have FpD : ∀ {H : Hp}, H s2.heap.objs.size = none → FpOk (xat Xb ca [] F0) [] H s2.heap.objs.size := fun {H} hn => by
    have e0 := okb.exf s2.heap.objs.size (eX _ List.mem_cons_self)
    refine ⟨hn, e0.1, ?_, .inl (eX _ List.mem_cons_self), e0.2, fun p hp => ?_⟩
    · exact okb.exfs s2.heap.objs.size (eX _ List.mem_cons_self)
    · exact absurd (eN hp) (by simp)
  have st4 : tn 0 h₁ := T.keep _ _ _ st2 fun b hb o e => old b o (by rw [← hH2]; exact Heap.get?_push_of_some _ e)
  -- the invariant
  have loop : ∀ s4 : Shared, s4 = { s2 with heap := h₁, toks := s2.toks + ([] : List (Str × Value)).length } →
      codeAny (model X.prog X.w) X.A (.compLoop (.ListComp elt [⟨tg, iter, ifs, 0⟩] scope pos) 0 (.ref it) (.ref s2.heap.objs.size) (compEnvC scope cl hp.objs.size X.env)) (RR (.ref s2.heap.objs.size) hp.objs.size) s4 := by
    rintro s4 rfl
    refine compLoop_gen (fun n s' => ∃ (i : Nat) (σ4 : S3) (g4 : G) (μ4 : List Addr) (σ5 : L2.St) (H4 : Hp) (acc : List D) (accV : List V) (its : List Value) (k : Nat), Inv (xat Xb ca [] F0) [] σ5 H4 s' ∧ tn i s'.heap ∧ (∀ b ∈ fp, H4 b = none) ∧ H4 s2.heap.objs.size = none ∧
      s'.heap.get? s2.heap.objs.size = some { cls := .type "list", data := .seq its.toArray k } ∧ Vals accV its ∧ Ext X.K μ2 H2 μ4 H4 ∧ Rep X.K ca μ4 σ4 g4 σ5 H4 ∧ Dens X.K μ4 H4 accV acc ∧ compL src f tc me n i σ4 g4 acc = .ok ds g2 ∧
      acc.length ≤ i ∧ i + n ≤ SZ + 1) ?_ (src.top + 1) ⟨0, capt no cap σ3, g1, μ2, _, H2, [], [], [], _, Ib, st4, fun b hb => (f2 b hb).1, fD.1, old _ _ hD3, .nil, .refl, RbR, .nil, hL, Nat.le_refl _, by omega⟩
    rintro n s5 ⟨i, σ4, g4, μ4, σ5, H4, acc, accV, its, k, I5, st5, fr5, frD, hD5, va, e5, R5, da, hl5, ha5, hn5⟩
    cases n with
    | zero => cases hl5
    | succ n =>
      unfold compL at hl5
      have s1 := sim i H4 μ4 g4 e5 R5.g
      have pinD : Inv (xat Xb ca [] F0) [(s2.heap.objs.size, { cls := .type "list", data := .seq its.toArray k })] σ5 H4 s5 := I5.pins_of fun p hp => by
        rw [List.mem_singleton.mp hp]
        have z := FpD frD
        exact ⟨hD5, frD, z.2.1, z.2.2.1, fun v q => by cases q⟩
      have nofp : ∀ p ∈ [(s2.heap.objs.size, ({ cls := .type "list", data := .seq its.toArray k } : Obj))], p.1 ∉ fp := fun p hp => by rw [List.mem_singleton.mp hp]; exact DnF
      have getD : ∀ {σ' : L2.St} {H' : Hp} {s' : Shared} {pl : List (Addr × Obj)}, Inv (xat Xb ca [] F0) ([(s2.heap.objs.size, ({ cls := .type "list", data := .seq its.toArray k } : Obj))] ++ pl) σ' H' s' → s'.heap.get? s2.heap.objs.size = some { cls := .type "list", data := .seq its.toArray k } ∧ H' s2.heap.objs.size = none := fun {σ' H' s' pl} I' => by
        have z := I'.pin (s2.heap.objs.size, { cls := .type "list", data := .seq its.toArray k }) (List.mem_append_right _ (List.mem_append_left _ (List.mem_singleton.mpr rfl)))
        exact ⟨z.1, z.2.1⟩
      cases hat : src.at' g4 i with
      | none => rw [hat] at hl5; cases hl5
      | some od =>
        rw [hat] at hl5 s1
        cases od with
        | none =>
          cases hl5
          have dn := T.done (xat Xb ca [] F0) eP eW eK eC i _ s5 σ5 H4 (fun _ _ => False) pinD (FpB fr5 nofp) st5 s1
          rw [eA] at dn
          refine thn dn fun r s6 ⟨hr, I6⟩ => ?_
          subst hr
          obtain ⟨hD6, frD6⟩ := getD (pl := []) (by rw [List.append_nil]; exact I6)
          have un : Un (frs (xat X ca pn F0).stack) (s2.heap.objs.size :: fp) H2 H4 hp s6.heap := toUn I6
          have hok : HOk (xat X ca pn F0).prog (xat X ca pn F0).w H4 s6.heap := by have := I6.hok; rw [eP, eW] at this; exact this
          have os : s6.os = s2.os := toOs I6
          have I7 : Inv (xat X ca pn F0) pins σ H4 s6 := Inv.call' (s' := s6) (ch := s2.heap.objs.size :: fp) I3 os un hok I6.bare fun b hb => ⟨(exOk b hb).2.2.2.1, (exOk b hb).2.1, (exOk b hb).2.2.2.2.1, (exOk b hb).2.2.2.2.2⟩
          have hCn : H4 hp.objs.size = none := by have := I6.free; rw [eE] at this; exact this
          have nsC : ∃ m, s6.heap.Ns hp.objs.size m := by obtain ⟨m, hm, _⟩ := I6.loc; rw [eE] at hm; exact ⟨m, hm⟩
          refine fin _ _ s6 H4 μ4 accV its k I7 nsC (FpOk.mono fC hCn) (FpOk.mono fD frD6) DnC hD6 va ?_ e5 R5.g da
          rw [da.length]
          have := sz_line
          omega
        | some d =>
          obtain ⟨go, yl⟩ := s1
          dsimp only at hl5
          cases hf : f d σ4 with
          | none => rw [hf] at hl5; cases hl5
          | some σ6 =>
            rw [hf] at hl5
            dsimp only at hl5
            have im := T.item (xat Xb ca [] F0) eP eW eK eC i _ s5 σ5 H4 (fun _ _ => False) pinD (FpB fr5 nofp) st5 go
            rw [eA] at im
            refine thn im fun r s6 ⟨u, hr, h6⟩ => ?_
            subst hr
            refine thn h6 fun _ s7 ⟨x, H7, I7, r7, y7, st7, fr7⟩ => ?_
            obtain ⟨e7, g7, q7⟩ := yl x H7 y7
            have I7' := I7.pinned (FpB fr7 nofp) (T.obj _ _ st7)
            have R7 := R5.go e7 g7
            have asg := hgB [] F0 _ s7 σ5 H7 x u (fun σ' H' => H' = H7 ∧ Rep X.K ca μ4 σ6 g4 σ' H7) I7' r7 (by
              have : Xb.K = X.K := eK
              rw [this]
              exact ⟨σ4, g4, μ4, d, σ6, R7, q7, hf, fun σ' R' => ⟨rfl, R'⟩⟩)
            rw [eP, eW, eA, eE] at asg
            refine thn (noX asg) fun _ s8 ⟨σ8, H8, I8, e8, R8⟩ => ?_
            subst e8
            cases ht : tc σ6 g4 with
            | raise _ _ => rw [ht] at hl5; cases hl5
            | stuck => rw [ht] at hl5; cases hl5
            | ok b g9 =>
              rw [ht] at hl5
              have hl5 : (if b = true then (match me σ6 g9 with | .ok y g2 => compL src f tc me n (i + 1) σ6 g2 (acc ++ [y]) | _ => .stuck) else compL src f tc me n (i + 1) σ6 g9 acc) = .ok ds g2 := hl5
              have tst := hiB _ s8 σ8 _ (fun b' H' => b' = b ∧ ∃ μ9, Ext X.K μ4 H8 μ9 H' ∧ Rep X.K ca μ9 σ6 g9 σ8 H') I8 (by
                have : Xb.K = X.K := eK
                rw [this]
                refine ⟨σ6, g4, μ4, R8, ?_⟩
                rw [ht]
                exact fun H' μ' e' r' => ⟨rfl, μ', e', R8.go e' r'⟩)
              have eP' : Xb.prog = X.prog := eP
              have eW' : Xb.w = X.w := eW
              have eA' : Xb.A = X.A := eA
              have eE' : Xb.env = compEnvC scope cl hp.objs.size X.env := eE
              rw [eP', eW', eA', eE'] at tst
              refine thn tst fun ok s9 ⟨H9, I9, eb, μ9, e9, R9⟩ => ?_
              subst eb
              have again : ∀ {σ' : L2.St} {H' : Hp} {s' : Shared}, Inv (xat Xb ca [] F0) ([(s2.heap.objs.size, ({ cls := .type "list", data := .seq its.toArray k } : Obj))] ++ pinsAt fp s7.heap) σ' H' s' → Inv (xat Xb ca [] F0) [] σ' H' s' ∧ tn (i + 1) s'.heap ∧ ∀ b ∈ fp, H' b = none := fun {σ' H' s'} I' => by
                refine ⟨I'.pins_of fun p hp => absurd hp (by simp), T.keep _ _ _ st7 fun b hb o e => (I'.pin (b, o) (List.mem_append_right _ (List.mem_append_right _ (mem_pinsAt hb e)))).1, fun b hb => ?_⟩
                obtain ⟨o, e, _⟩ := T.obj _ _ st7 b hb
                exact (I'.pin (b, o) (List.mem_append_right _ (List.mem_append_right _ (mem_pinsAt hb e)))).2.1
              cases ok with
              | false =>
                rw [if_neg Bool.false_ne_true] at hl5 ⊢
                obtain ⟨J1, J2, J3⟩ := again I9
                obtain ⟨K1, K2⟩ := getD I9
                refine ⟨n, Nat.lt_succ_self n, i + 1, σ6, g9, μ9, σ8, H9, acc, accV, its, k, J1, J2, J3, K2, K1, va, (e5.trans e7).trans e9, R9, (da.mono e7).mono e9, hl5, by omega, by omega⟩
              | true =>
                rw [if_pos rfl] at hl5 ⊢
                cases hm : me σ6 g9 with
                | raise _ _ => rw [hm] at hl5; cases hl5
                | stuck => rw [hm] at hl5; cases hl5
                | ok y g10 =>
                  rw [hm] at hl5
                  have hl5 : compL src f tc me n (i + 1) σ6 g10 (acc ++ [y]) = .ok ds g2 := hl5
                  have el := heB [] F0 _ s9 σ8 H9 (fun vy H' => ∃ μ10, Ext X.K μ9 H9 μ10 H' ∧ Rep X.K ca μ10 σ6 g10 σ8 H' ∧ Den X.K μ10 H' vy y) I9 (by
                    have : Xb.K = X.K := eK
                    rw [this]
                    refine ⟨σ6, g9, μ9, R9, ?_⟩
                    rw [hm]
                    exact fun v H' μ' e' r' q' => ⟨μ', e', R9.go e' r', q'⟩)
                  rw [eP, eW, eA, eE] at el
                  refine thn (noX el) fun uy s10 ⟨vy, H10, I10, ry, μ10, e10, R10, qy⟩ => ?_
                  obtain ⟨K1, K2⟩ := getD I10
                  obtain ⟨J1, J2, J3⟩ := again I10
                  have hlen : its.length = acc.length := by rw [← va.length, da.length]
                  refine call_meets F.slot_list_append ⟨_, K1, rfl⟩ F.entry_list_append (F.args_list_append_2 _ _) (PySem.list_append s2.heap.objs.size its.toArray k uy (by rw [List.size_toArray, sizeLine_eq]; have : SZ = 1000000 := rfl; omega)) ⟨K1, ?_⟩
                  have up := PySem.IsL.update K1 (·.push uy)
                  rw [show its.toArray.push uy = (its ++ [uy]).toArray by simp] at up
                  have upo : ∀ b o, b ≠ s2.heap.objs.size → s10.heap.get? b = some o → (s10.heap.update s2.heap.objs.size (Obj.mapSeq (·.push uy))).get? b = some o := fun b o hb e => (Heap.get?_update_other s10.heap (Obj.mapSeq (·.push uy)) (Ne.symm hb)).trans e
                  obtain ⟨d0, d1, d2, d3, d4, d5⟩ := FpD K2
                  refine ⟨n, Nat.lt_succ_self n, i + 1, σ6, g10, μ10, σ8, H10, acc ++ [y], accV ++ [vy], its ++ [uy], _, J1.turned (t' := s10.toks) upo d0 d1 d3 d4 d5, T.keep _ _ _ J2 fun b hb o e => upo b o (fun z => DnF (z ▸ hb)) e, J3, K2, up, va.append (.cons ry .nil),
                    ((e5.trans e7).trans e9).trans e10, R10, ((da.mono e7).mono e9).mono e10 |>.append (.cons qy .nil), hl5, by rw [List.length_append, List.length_singleton]; omega, by omega⟩
  exact codeAny_compStart_list (loop _ rfl) (T.self _ 0 _ _ _ st4 (loop _ rfl))
end
end L3

end
section
namespace L3
open PySem PySem.Spec PyProof.Rows L2
section
variable {X : Cx} {ca : Nat → Addr}
theorem mComp_ok {K : PySem.W.Frag} {Φ : XS} {σ : L2.St} {Q : VK} {H : Hp} {μ : List Addr} {mi : MI} {no : Nat} {cap : List Nat} {f : MG} {tc : MT} {me : ME} {σ3 : S3} {g : G} (p : Post K ca Φ σ Q H μ (mComp mi no cap f tc me σ3 g)) :
    ∃ src g1 ds g2, mi σ3 g = .ok src g1 ∧ src.top ≤ SZ ∧ compL src f tc me (src.top + 1) 0 (capt no cap σ3) g1 [] = .ok ds g2 ∧ Post K ca Φ σ Q H μ (.ok (.ref g2.length) (g2 ++ [.lst ds])) := by
  unfold mComp at p
  cases hm : mi σ3 g with
  | raise _ _ => rw [hm] at p; exact p.elim
  | stuck => rw [hm] at p; exact p.elim
  | ok src g1 =>
    rw [hm] at p
    dsimp only at p
    by_cases hz : src.top ≤ SZ
    · rw [if_pos hz] at p
      cases hL : compL src f tc me (src.top + 1) 0 (capt no cap σ3) g1 [] with
      | raise _ _ => rw [hL] at p; exact p.elim
      | stuck => rw [hL] at p; exact p.elim
      | ok ds g2 => rw [hL] at p; exact ⟨src, g1, ds, g2, rfl, hz, hL, p⟩
    · rw [if_neg hz] at p; exact p.elim
theorem r_comp {tg iter elt : Expr} {ifs : List Expr} {scope : Scope} {pos : Pos} {Nb : List Str} {no : Nat} {cap : List Nat} {mi : MI} {f : MG} {tc : MT} {me : ME}
    (B : BScope X scope Nb no cap) (hc : X.calm = true) (hi : PI3 ca X tg iter mi)
    (hb : ∀ cl C s3 H3 ex, PG3 ca (blk X scope cl C Nb s3 H3 ex) tg f ∧ PIf ca (blk X scope cl C Nb s3 H3 ex) ifs tc ∧ PE3 ca (blk X scope cl C Nb s3 H3 ex) elt me)
    (hs : ∀ x, foldedSetIterable iter X.env x = pure x := by intro _; rfl) : PE3 ca X (.ListComp elt [⟨tg, iter, ifs, 0⟩] scope pos) (mComp mi no cap f tc me) := by
  intro pn Φ pins s σ H Q I' ⟨σ3, g, μ, R, p⟩
  obtain ⟨src, g1, ds, g2, hm, hz, hL, p⟩ := mComp_ok p
  have I : Inv (xat X ca pn F0) pins σ H s := Inv.wish I' _
  suffices hh : wpAny (model X.prog X.w) X.A (eval (.ListComp elt [⟨tg, iter, ifs, 0⟩] scope pos) X.env) (EP (xat X ca pn F0) pins σ Q) (fun _ _ => False) s from
    wpAny_mono hh (fun u s' ⟨v, H', J, r, q⟩ => ⟨v, H', Inv.wish J _, r, q⟩) fun _ _ z => z.elim
  obtain ⟨cl, hcl⟩ := clOf_some (cells := X.env.cells) scope.names [] fun y hy hf => I.ok.has y.1 (B.free y hy hf)
  rw [eval_ListComp]
  refine wpAny_comprehension_free (env := X.env) (use := none) rfl hs (closureFor_of hcl) B.kind B.loc ?_
  refine thn (noX (hi pn F0 pins s σ H (fun J H' => ∃ μ', Ext X.K μ H μ' H' ∧ GRep X.K ca μ' H' g1 ∧ Sim X.K ca μ' H' src J) I ⟨σ3, g, μ, R, ?_⟩)) fun v s1 h1 => thn (noX h1) fun itv s2 h2 => ?_
  · rw [hm]
    exact fun J H' μ' e r sm => ⟨μ', e, r, sm⟩
  · obtain ⟨it, fp, tn, J, H2, e, I2, T, st2, f2, μ2, e2, r2, sim⟩ := h2
    subst e
    refine comp_core (X := X) (pn := pn) (RR := fun acc C => compPost (model X.prog X.w) X.A (fun _ _ => False) none (EP (xat X ca pn F0) pins σ Q) acc C) B hc hb hcl I2 T st2 f2 (R.go e2 r2) sim hz hL ?_
    intro D C s' H4 μ4 accV its k I4 nsC fC fD dc hD va hl e4 r4 da
    obtain ⟨m, nsC⟩ := nsC
    refine ⟨m, nsC, fun h'' hs'' => ?_⟩
    have I5 : Inv (xat X ca pn F0) pins σ H4 { s' with heap := h'' } := I4.turned (t' := s'.toks) (fun b o hb e => hs''.extBut b o hb e) fC.1 fC.2.1 fC.2.2.2.1 fC.2.2.2.2.1 fC.2.2.2.2.2
    have hD' := hs''.extBut _ _ dc hD
    have I6 := Inv.track (o := .lst accV) I5 fD ⟨hl, its, k, va, hD'⟩
    refine ⟨.ref D, _, I6, rfl, p _ _ (μ4 ++ [D]) ((e2.trans e4).trans (ext_push fD.1)) (r4.push fD.1 ⟨accV, upd_same, da.mono (ext_push fD.1)⟩) (.ref ?_)⟩
    rw [← r4.len]; simp
theorem r_setComp (i : Nat) {x : Str} {py spos : Pos} {tg iter elt : Expr} {ifs : List Expr} {scope : Scope} {pos : Pos} {Nb : List Str} {no : Nat} {cap : List Nat} {mi : MI} {f : MG} {tc : MT} {me : ME}
    (hN : X.N.Nodup) (B : BScope X scope Nb no cap) (hc : X.calm = true) (hi : PI3 ca X tg iter mi)
    (hb : ∀ cl C s3 H3 ex, PG3 ca (blk X scope cl C Nb s3 H3 ex) tg f ∧ PIf ca (blk X scope cl C Nb s3 H3 ex) ifs tc ∧ PE3 ca (blk X scope cl C Nb s3 H3 ex) elt me)
    (hs : ∀ x, foldedSetIterable iter X.env x = pure x := by intro _; rfl) (hn : X.N[i]? = some x := by rfl) (hx : Loc X.env.scope x := by first | exact Or.inl rfl | exact Or.inr rfl)
    (hf : X.fn x = true ∨ X.env.scope.names.lookup x = some .local := by first | exact .inl rfl | exact .inr rfl)
    (hsw : swapsWith (.ListComp elt [⟨tg, iter, ifs, 0⟩] scope pos) (some (.Name x py)) spos.line X.env = pure true := by rfl) :
    PS3 ca X (.Assign [.Name x py] (.ListComp elt [⟨tg, iter, ifs, 0⟩] scope pos) spos) (mAsg (gSet i) (mComp mi no cap f tc me)) := by
  intro pn Φ pins s σ H En I' ⟨σ3, g, μ, R, p⟩
  have pp : ∃ src g1 ds g2, mi σ3 g = .ok src g1 ∧ src.top ≤ SZ ∧ compL src f tc me (src.top + 1) 0 (capt no cap σ3) g1 [] = .ok ds g2 ∧ PostS X.K ca Φ En H μ (.nx (σ3.set i (some (.ref g2.length))) (g2 ++ [.lst ds])) := by
    unfold mAsg mComp gSet at p
    cases hm : mi σ3 g with
    | raise _ _ => rw [hm] at p; exact p.elim
    | stuck => rw [hm] at p; exact p.elim
    | ok src g1 =>
      rw [hm] at p
      dsimp only at p
      by_cases hz : src.top ≤ SZ
      · rw [if_pos hz] at p
        cases hL : compL src f tc me (src.top + 1) 0 (capt no cap σ3) g1 [] with
        | raise _ _ => rw [hL] at p; exact p.elim
        | stuck => rw [hL] at p; exact p.elim
        | ok ds g2 => rw [hL] at p; exact ⟨src, g1, ds, g2, rfl, hz, hL, p⟩
      · rw [if_neg hz] at p; exact p.elim
  obtain ⟨src, g1, ds, g2, hm, hz, hL, p⟩ := pp
  have I : Inv (xat X ca pn F0) pins σ H s := Inv.wish I' _
  suffices hh : wpAny (model X.prog X.w) X.A (exec (.Assign [.Name x py] (.ListComp elt [⟨tg, iter, ifs, 0⟩] scope pos) spos) X.env) (SP (xat X ca pn F0) pins En) (fun _ _ => False) s from
    wpAny_mono hh (fun u s' z => SP.unwish (X := xat X ca pn Φ) (E := (xat X ca pn F0).xe) z) fun _ _ z => z.elim
  obtain ⟨cl, hcl⟩ := clOf_some (cells := X.env.cells) scope.names [] fun y hy hf => I.ok.has y.1 (B.free y hy hf)
  rw [exec_Assign_Name_used _ _ _ _ hsw]
  refine wpAny_bind (wpAny_standAt (wpAny_bind ?_))
  show wpAny _ _ (do let _ ← comprehension (.ListComp elt [⟨tg, iter, ifs, 0⟩] scope pos) scope X.env _ (newList []) false (eval iter X.env) (some (assign (.Name x py) X.env))) _ _ s
  refine wpAny_bind (wpAny_mono (wpAny_comprehension_free (env := X.env) (use := some (assign (.Name x py) X.env)) (Q := fun _ s' => SP (xat X ca pn F0) pins En .next s') rfl hs (closureFor_of hcl) B.kind B.loc ?_) (fun _ s' hq => wpAny_pure (wpAny_pure hq)) fun _ _ e => e)
  refine thn (noX (hi pn F0 pins s σ H (fun J H' => ∃ μ', Ext X.K μ H μ' H' ∧ GRep X.K ca μ' H' g1 ∧ Sim X.K ca μ' H' src J) I ⟨σ3, g, μ, R, ?_⟩)) fun v s1 h1 => thn (noX h1) fun itv s2 h2 => ?_
  · rw [hm]
    exact fun J H' μ' e r sm => ⟨μ', e, r, sm⟩
  · obtain ⟨it, fp, tn, J, H2, e, I2, T, st2, f2, μ2, e2, r2, sim⟩ := h2
    subst e
    refine comp_core (X := X) (pn := pn) (RR := fun acc C => compPost (model X.prog X.w) X.A (fun _ _ => False) (some (assign (.Name x py) X.env)) (fun _ s' => SP (xat X ca pn F0) pins En .next s') acc C) B hc hb hcl I2 T st2 f2 (R.go e2 r2) sim hz hL ?_
    intro D C s' H4 μ4 accV its k I4 nsC fC fD dc hD va hl e4 r4 da
    obtain ⟨m, oC, es, ep, hoC, hdC, kk⟩ := nsC
    have I4' : Inv (xat X ca pn F0) (pins ++ [(C, oC)]) σ H4 s' := I4.pins_of fun q hq => by
      rcases List.mem_append.mp hq with z | z
      · exact I4.pin q (List.mem_append_right _ z)
      · rw [List.mem_singleton.mp z]
        exact ⟨hoC, fC.1, fC.2.1, fC.2.2.1, fun v w => by rw [show oC.data = _ from hdC] at w; cases w⟩
    have fD' : FpOk (xat X ca pn F0) (pins ++ [(C, oC)]) H4 D := ⟨fD.1, fD.2.1, fD.2.2.1, fD.2.2.2.1, fD.2.2.2.2.1, fun q hq => by
      rcases List.mem_append.mp hq with z | z
      · exact fD.2.2.2.2.2 q (List.mem_append_left _ z)
      · rcases List.mem_append.mp z with z | z
        · exact fD.2.2.2.2.2 q (List.mem_append_right _ z)
        · rw [List.mem_singleton.mp z]; exact Ne.symm dc⟩
    have I6 := Inv.track (o := .lst accV) I4' fD' ⟨hl, its, k, va, hD⟩
    show wpAny (model X.prog X.w) X.A (assign (.Name x py) X.env (.ref D)) _ _ s'
    refine wpAny_assign_Name (store_ok (X := xat X ca pn F0) I6 hN hn hx (v := .ref D) rfl (fun s'' I7 => ?_) hf)
    have pC := I7.pin (C, oC) (List.mem_append_right _ (List.mem_append_right _ (List.mem_singleton.mpr rfl)))
    refine ⟨m, ⟨oC, es, ep, pC.1, hdC, kk⟩, fun h'' hs'' => ?_⟩
    have I8 : Inv (xat X ca pn F0) pins (σ.set i (some (.ref D))) (upd H4 D (.lst accV)) { s'' with heap := h'' } :=
      (I7.pins_of (pins' := pins) fun q hq => I7.pin q (List.mem_append_right _ (List.mem_append_left _ hq))).turned (t' := s''.toks) (fun b o hb e => hs''.extBut b o hb e) (by rw [upd_ne (Ne.symm dc)]; exact fC.1) fC.2.1 fC.2.2.2.1 fC.2.2.2.2.1 fC.2.2.2.2.2
    refine ⟨_, _, I8, p _ _ (μ4 ++ [D]) ((e2.trans e4).trans (ext_push fD.1)) (Rep.set ((R.go (e2.trans e4) r4).go (ext_push fD.1) (r4.push (o := .lst accV) (u := .lst ds) fD.1 ⟨accV, upd_same, da.mono (ext_push fD.1)⟩)) (.ref ?_) i)⟩
    rw [← r4.len]; simp
end
end L3

end
section
namespace L3
open PySem PySem.Spec PyProof.Rows L2
section
variable {X : Cx} {ca : Nat → Addr} {a b : Expr} {ma mb : ME} {pos : Pos}
theorem prim_add {K : PySem.W.Frag} : Prim2 K ca (fun x y H Q => (∃ i j, x = .int i ∧ y = .int j ∧ Q (.int (i + j)) H) ∨ rCat x y H Q) pAdd := by
  intro Φ σ H μ g x y dx dy Q r qx qy p
  unfold pAdd at p
  cases qx with
  | int i =>
    cases qy with
    | int j => exact .inl ⟨i, j, rfl, rfl, p _ H μ .refl r (.int _)⟩
    | _ => exact p.elim
  | @ref n an hn =>
    cases qy with
    | @ref m am hm =>
      dsimp only at p
      cases hg : g[n]? with
      | none => rw [hg] at p; exact p.elim
      | some o =>
        cases hg2 : g[m]? with
        | none => rw [hg, hg2] at p; cases o <;> exact p.elim
        | some o2 =>
          rw [hg, hg2] at p
          obtain ⟨a1, ha1, or1⟩ := r.addr hg
          obtain ⟨a2, ha2, or2⟩ := r.addr hg2
          rw [hn] at ha1; cases ha1
          rw [hm] at ha2; cases ha2
          cases o with
          | lst xs =>
            cases o2 with
            | lst ys =>
              dsimp only at p
              obtain ⟨vs, hH, q⟩ := or1
              obtain ⟨ws, hH2, q2⟩ := or2
              by_cases z : xs.length + ys.length ≤ SZ
              · rw [if_pos z] at p
                refine .inr ⟨an, am, vs, ws, rfl, rfl, hH, hH2, by rw [q.length, q2.length]; exact Nat.le_trans z sz_line, fun t ht => p _ _ (μ ++ [t]) (ext_push ht) (r.push ht ⟨_, upd_same, (q.append q2).mono (ext_push ht)⟩) (.ref ?_)⟩
                rw [← r.len]; simp
              · rw [if_neg z] at p; exact p.elim
            | _ => exact p.elim
          | _ => cases o2 <;> exact p.elim
    | _ => exact p.elim
  | _ => cases qy <;> exact p.elim
theorem r_add (ha : PE3 ca X a ma) (hb : PE3 ca X b mb) : PE3 ca X (.BinOp a .Add b pos) (mOp2 pAdd ma mb) :=
  r_bin (fun _ _ => op_add.or op_cat) prim_add ha hb
theorem prim_ii {K : PySem.W.Frag} {C : Int → Int → Prop} {h : Int → Int → V} {f : D → D → G → Res D} (hf : ∀ Φ σ i j g Q H μ, GRep K ca μ H g → Post K ca Φ σ Q H μ (f (.int i) (.int j) g) → C i j ∧ Q (h i j) H)
    (hn : ∀ Φ σ x y g Q H μ, Post K ca Φ σ Q H μ (f x y g) → ∃ i j, x = .int i ∧ y = .int j) : Prim2 K ca (rI C h) f := by
  intro Φ σ H μ g x y dx dy Q r qx qy p
  obtain ⟨i, j, rfl, rfl⟩ := hn Φ σ dx dy g Q H μ p
  cases qx
  cases qy
  obtain ⟨c, q⟩ := hf Φ σ i j g Q H μ r p
  exact ⟨i, j, rfl, rfl, c, q⟩
theorem prim_ii0 {K : PySem.W.Frag} {h : Int → Int → V} {f : D → D → G → Res D} (hf : ∀ Φ σ i j g Q H μ, GRep K ca μ H g → Post K ca Φ σ Q H μ (f (.int i) (.int j) g) → Q (h i j) H)
    (hn : ∀ Φ σ x y g Q H μ, Post K ca Φ σ Q H μ (f x y g) → ∃ i j, x = .int i ∧ y = .int j) : Prim2 K ca (rI0 h) f := by
  intro Φ σ H μ g x y dx dy Q r qx qy p
  obtain ⟨i, j, rfl, rfl⟩ := hn Φ σ dx dy g Q H μ p
  cases qx
  cases qy
  exact ⟨i, j, rfl, rfl, hf Φ σ i j g Q H μ r p⟩
theorem two_ints {K : PySem.W.Frag} {f : D → D → G → Res D} (h : ∀ x y g, (∃ i j, x = D.int i ∧ y = D.int j) ∨ f x y g = .stuck) (Φ : XS) (σ : L2.St) (x y : D) (g : G) (Q : VK) (H : Hp) (μ : List Addr) (p : Post K ca Φ σ Q H μ (f x y g)) : ∃ i j, x = .int i ∧ y = .int j := by
  rcases h x y g with z | z
  · exact z
  · rw [z] at p; exact p.elim
theorem r_sub (ha : PE3 ca X a ma) (hb : PE3 ca X b mb) : PE3 ca X (.BinOp a .Sub b pos) (mOp2 pSub ma mb) :=
  r_bin (fun _ _ => op_sub) (prim_ii0 (fun Φ σ i j g Q H μ r p => p _ H μ .refl r (.int _)) (two_ints fun x y g => by cases x <;> cases y <;> first | exact .inl ⟨_, _, rfl, rfl⟩ | exact .inr rfl)) ha hb
theorem r_fdiv (ha : PE3 ca X a ma) (hb : PE3 ca X b mb) : PE3 ca X (.BinOp a .FloorDiv b pos) (mOp2 pFdiv ma mb) :=
  r_bin (fun _ _ => op_fdiv) (prim_ii (fun Φ σ i j g Q H μ r p => by
    unfold pFdiv at p
    by_cases z : 0 < j ∧ j < 1073741824
    · dsimp only at p; rw [if_pos z] at p; exact ⟨z, p _ H μ .refl r (.int _)⟩
    · dsimp only at p; rw [if_neg z] at p; exact p.elim) (two_ints fun x y g => by cases x <;> cases y <;> first | exact .inl ⟨_, _, rfl, rfl⟩ | exact .inr rfl)) ha hb
theorem r_mod (ha : PE3 ca X a ma) (hb : PE3 ca X b mb) : PE3 ca X (.BinOp a .Mod b pos) (mOp2 pMod ma mb) :=
  r_bin (fun _ _ => op_mod) (prim_ii (fun Φ σ i j g Q H μ r p => by
    unfold pMod at p
    by_cases z : 0 < j
    · dsimp only at p; rw [if_pos z] at p; exact ⟨z, p _ H μ .refl r (.int _)⟩
    · dsimp only at p; rw [if_neg z] at p; exact p.elim) (two_ints fun x y g => by cases x <;> cases y <;> first | exact .inl ⟨_, _, rfl, rfl⟩ | exact .inr rfl)) ha hb
theorem r_mul (ha : PE3 ca X a ma) (hb : PE3 ca X b mb) : PE3 ca X (.BinOp a .Mult b pos) (mOp2 pMul ma mb) :=
  r_bin (fun _ _ => op_mul.or op_rep) (fun Φ σ H μ g x y dx dy Q r qx qy p => by
    unfold pMul at p
    cases qx with
    | int i =>
      cases qy with
      | int j =>
        dsimp only at p
        by_cases z : cM i ∨ cM j
        · rw [if_pos z] at p; exact .inl ⟨i, j, rfl, rfl, z, p _ H μ .refl r (.int _)⟩
        · rw [if_neg z] at p; exact p.elim
      | _ => exact p.elim
    | @ref n an hn =>
      cases qy with
      | int k =>
        dsimp only at p
        cases hg : g[n]? with
        | none => rw [hg] at p; exact p.elim
        | some o =>
          rw [hg] at p
          obtain ⟨a1, ha1, or1⟩ := r.addr hg
          rw [hn] at ha1; cases ha1
          cases o with
          | lst xs =>
            dsimp only at p
            obtain ⟨vs, hH, q⟩ := or1
            by_cases z : xs.length * k.toNat ≤ SZ ∧ -(2 ^ 63) ≤ k ∧ k < 2 ^ 63
            · rw [if_pos z] at p
              refine .inr ⟨an, k, vs, rfl, rfl, hH, z.2.1, z.2.2, by rw [q.length]; exact Nat.le_trans z.1 sz_line, fun t ht => p _ _ (μ ++ [t]) (ext_push ht) (r.push ht ⟨_, upd_same, ?_⟩) (.ref ?_)⟩
              · have rep : ∀ n : Nat, Dens X.K μ H (List.replicate n vs).flatten (List.replicate n xs).flatten := fun n => by
                  induction n with
                  | zero => exact .nil
                  | succ n ih => rw [List.replicate_succ, List.replicate_succ, List.flatten_cons, List.flatten_cons]; exact q.append ih
                exact (rep _).mono (ext_push ht)
              · rw [← r.len]; simp
            · rw [if_neg z] at p; exact p.elim
          | _ => exact p.elim
      | _ => exact p.elim
    | _ => cases qy <;> exact p.elim) ha hb
theorem r_neg (ha : PE3 ca X a ma) : PE3 ca X (.UnaryOp .USub a pos) (mOp1 pNeg ma) :=
  r_un (fun _ _ => un_neg) (fun Φ σ H μ g x dx Q r qx p => by
    cases qx with
    | int i => exact ⟨i, rfl, p _ H μ .refl r (.int _)⟩
    | _ => exact p.elim) ha
theorem prim_cmp {K : PySem.W.Frag} (r : Int → Int → Bool) : Prim2 K ca (rI0 fun i j => .bl (r i j)) (pCmp r) :=
  prim_ii0 (fun Φ σ i j g Q H μ r p => p _ H μ .refl r (.bl _)) (two_ints fun x y g => by cases x <;> cases y <;> first | exact .inl ⟨_, _, rfl, rfl⟩ | exact .inr rfl)
theorem r_gtT (ha : PE3 ca X a ma) (hb : PE3 ca X b mb) : PT3 ca X (.Compare a [.Gt] [b] pos) (mTest (mOp2 pGt ma mb)) := r_testC (fun _ _ => op_gt) (prim_cmp _) ha hb (nomark b)
end
end L3

end
section
namespace L3
open PySem PySem.Spec PyProof.Rows L2
section
variable {ca : Nat → Addr}
theorem prim_eq {K : PySem.W.Frag} : Prim2 K ca rEq pEq := by
  intro Φ σ H μ g x y dx dy Q r qx qy p
  unfold pEq eqT at p
  cases qx with
  | int i =>
    cases qy with
    | int j => exact ⟨rfl, by rw [dec_int]; exact p _ H μ .refl r (.bl _)⟩
    | _ => exact p.elim
  | str i =>
    cases qy with
    | str j => exact ⟨rfl, by rw [dec_str]; exact p _ H μ .refl r (.bl _)⟩
    | _ => exact p.elim
  | bl i =>
    cases qy with
    | bl j => exact ⟨rfl, by rw [dec_bl]; exact p _ H μ .refl r (.bl _)⟩
    | _ => exact p.elim
  | _ => cases qy <;> exact p.elim
theorem dens_ints {K : PySem.W.Frag} {μ : List Addr} {H : Hp} : ∀ {vs : List V} {ds : List D} {ns : List Int}, Dens K μ H vs ds → intsD ds = some ns → vs = ns.map V.int
  | _, _, ns, .nil, h => by cases h; rfl
  | _, _, ns, .cons (ds := ds) h1 h2, h => by
    cases h1 with
    | int i =>
      unfold intsD at h
      cases hr : intsD ds with
      | none => rw [hr] at h; cases h
      | some ms => rw [hr] at h; cases h; rw [List.map_cons, dens_ints h2 hr]
    | _ => cases h
noncomputable def rNeL (K : PySem.W.Frag) : R2 := fun x y H Q => ∃ (a c : Addr) (is js : List Int), x = .ref a ∧ y = .ref c ∧ SqL K H a (is.map V.int) ∧ SqL K H c (js.map V.int) ∧ Q (.bl (!decide (is = js))) H
theorem op_neL {X : Cx} (hu : X.A.units + 16 < cLine) : OpR X (compareOp .NotEq) (rNeL X.K) := by
  intro pins s σ H x y v u Q I rx ry h
  obtain ⟨a, c, is, js, rfl, rfl, h1, h2, q⟩ := h
  cases rx; cases ry
  obtain ⟨us, r1, p1, _⟩ := I.list h1
  obtain ⟨ts, r2, p2, _⟩ := I.list h2
  have l1 : us.length = is.length := by rw [← r1.length, List.length_map]
  have l2 : ts.length = js.length := by rw [← r2.length, List.length_map]
  have key : SeqAt.RcNeAt X.A s (.ref a) (.ref c) (!decide (is = js)) := by
    by_cases hl : is.length = js.length
    · have k := SeqAt.RcNeAt.lists (A := X.A) p1.isList p2.isList (by simp only [List.size_toArray]; omega) (by omega) (e := fun j => is[j]? == js[j]?) (fun j h1 h2 => by
        have z1 : j < us.length := by simpa using h1
        have z2 : j < ts.length := by simpa using h2
        obtain ⟨u, hu, t, ru⟩ := r1.get (i := j) (x := V.int (is[j]'(by omega))) (by rw [List.getElem?_map, List.getElem?_eq_getElem (by omega)]; rfl)
        obtain ⟨u', hu', t', ru'⟩ := r2.get (i := j) (x := V.int (js[j]'(by omega))) (by rw [List.getElem?_map, List.getElem?_eq_getElem (by omega)]; rfl)
        have w1 : us.toArray[j] = Value.int (is[j]'(by omega)) t := by
          have : us[j] = u := by simpa [List.getElem?_eq_getElem z1] using hu
          simpa [ru] using this
        have w2 : ts.toArray[j] = Value.int (js[j]'(by omega)) t' := by
          have : ts[j] = u' := by simpa [List.getElem?_eq_getElem z2] using hu'
          simpa [ru'] using this
        rw [w1, w2, List.getElem?_eq_getElem (show j < is.length by omega), List.getElem?_eq_getElem (show j < js.length by omega)]
        exact SeqAt.EqAt.int_int _ _ _ _)
      have e : (List.range us.toArray.size).all (fun j => is[j]? == js[j]?) = decide (is = js) := by
        rw [Bool.eq_iff_iff, List.all_eq_true, decide_eq_true_eq]
        refine ⟨fun h => List.ext_getElem? fun j => ?_, fun h j _ => by rw [h]; simp⟩
        by_cases hj : j < is.length
        · exact beq_iff_eq.mp (h j (List.mem_range.mpr (by simp only [List.size_toArray]; omega)))
        · rw [List.getElem?_eq_none (by omega), List.getElem?_eq_none (by omega)]
      rw [← e]
      exact k
    · have e : decide (is = js) = false := decide_eq_false fun z => hl (by rw [z])
      rw [e]
      exact SeqAt.RcNeAt.lists_lengths p1.isList p2.isList (by simp only [List.size_toArray, l1, l2]; simpa using hl) (by omega)
  exact key _ _ _ _ ⟨.bl _, H, I, rfl, q⟩
theorem prim_ne {K : PySem.W.Frag} : Prim2 K ca (fun x y H Q => rNe x y H Q ∨ rNeL K x y H Q) pNe := by
  intro Φ σ H μ g x y dx dy Q r qx qy p
  unfold pNe neT at p
  cases qx with
  | non =>
    cases qy with
    | non => exact .inl ⟨rfl, p _ H μ .refl r (.bl _)⟩
    | int j => exact .inl ⟨rfl, p _ H μ .refl r (.bl _)⟩
    | _ => exact p.elim
  | int i =>
    cases qy with
    | int j => exact .inl ⟨rfl, by rw [dec_int]; exact p _ H μ .refl r (.bl _)⟩
    | non => exact .inl ⟨rfl, p _ H μ .refl r (.bl _)⟩
    | _ => exact p.elim
  | str i =>
    cases qy with
    | str j => exact .inl ⟨rfl, by rw [dec_str]; exact p _ H μ .refl r (.bl _)⟩
    | _ => exact p.elim
  | bl i =>
    cases qy with
    | bl j => exact .inl ⟨rfl, by rw [dec_bl]; exact p _ H μ .refl r (.bl _)⟩
    | _ => exact p.elim
  | @ref n a hn =>
    cases qy with
    | @ref m c hm =>
      dsimp only at p
      cases hg : g[n]? with
      | none => rw [hg] at p; exact p.elim
      | some o1 =>
        cases hg2 : g[m]? with
        | none => rw [hg, hg2] at p; cases o1 <;> exact p.elim
        | some o2 =>
          rw [hg, hg2] at p
          obtain ⟨b1, hb1, ob1⟩ := r.addr hg
          obtain ⟨b2, hb2, ob2⟩ := r.addr hg2
          rw [hn] at hb1; cases hb1
          rw [hm] at hb2; cases hb2
          cases o1 with
          | lst xs =>
            cases o2 with
            | lst ys =>
              obtain ⟨vs, hH1, q1⟩ := ob1
              obtain ⟨ws, hH2, q2⟩ := ob2
              dsimp only at p
              cases e1 : intsD xs with
              | none => rw [e1] at p; exact p.elim
              | some is =>
                cases e2 : intsD ys with
                | none => rw [e1, e2] at p; exact p.elim
                | some js =>
                  rw [e1, e2] at p
                  have z1 := dens_ints q1 e1
                  have z2 := dens_ints q2 e2
                  subst z1 z2
                  exact .inr ⟨a, c, is, js, rfl, rfl, .of hH1, .of hH2, p _ H μ .refl r (.bl _)⟩
            | _ => exact p.elim
          | _ => cases o2 <;> exact p.elim
    | _ => exact p.elim
  | _ => cases qy <;> exact p.elim
end
section
variable {X : Cx} {ca : Nat → Addr} {a b e : Expr} {ma mb me : ME} {pos p : Pos} {k : Nat}
theorem r_eq (_ : Room k X.A) (ha : PE3 ca X a ma) (hb : PE3 ca X b mb) : PE3 ca X (.Compare a [.Eq] [b] pos) (mOp2 pEq ma mb) := r_cmp (fun _ _ => op_eq) prim_eq ha hb (nomark b)
theorem r_eqT (_ : Room k X.A) (ha : PE3 ca X a ma) (hb : PE3 ca X b mb) : PT3 ca X (.Compare a [.Eq] [b] pos) (mTest (mOp2 pEq ma mb)) := r_testC (fun _ _ => op_eq) prim_eq ha hb (nomark b)
theorem hu16 {A : Around} (hr : Room k A) : A.units + 16 < cLine := by have := hr.units; omega
theorem r_neT (hr : Room k X.A) (ha : PE3 ca X a ma) (hb : PE3 ca X b mb) : PT3 ca X (.Compare a [.NotEq] [b] pos) (mTest (mOp2 pNe ma mb)) := r_testC (fun pn Φ => op_ne.or (op_neL (X := xat X ca pn Φ) (hu16 hr))) prim_ne ha hb (nomark b)
theorem isNon_eq {K : PySem.W.Frag} {μ : List Addr} {H : Hp} {x : V} {d : D} (q : Den K μ H x d) : decide (x = .non) = isNon d := by cases q <;> simp [isNon]
theorem prim_is {K : PySem.W.Frag} : Prim2 K ca (fun x y H Q => y = .non ∧ Q (.bl (decide (x = .non))) H) pIs := by
  intro Φ σ H μ g x y dx dy Q r qx qy p
  cases qy with
  | non => exact ⟨rfl, p _ H μ .refl r (by rw [isNon_eq qx]; exact .bl _)⟩
  | _ => exact p.elim
theorem prim_isNot {K : PySem.W.Frag} : Prim2 K ca (fun x y H Q => y = .non ∧ Q (.bl (!decide (x = .non))) H) pIsNot := by
  intro Φ σ H μ g x y dx dy Q r qx qy p
  cases qy with
  | non => exact ⟨rfl, p _ H μ .refl r (by rw [isNon_eq qx]; exact .bl _)⟩
  | _ => exact p.elim
theorem r_isT (ha : PE3 ca X a ma) (hb : PE3 ca X b mb) : PT3 ca X (.Compare a [.Is] [b] pos) (mTest (mOp2 pIs ma mb)) := r_testC (fun _ _ => op_isN) prim_is ha hb (nomark b)
theorem r_isNotT (ha : PE3 ca X a ma) (hb : PE3 ca X b mb) : PT3 ca X (.Compare a [.IsNot] [b] pos) (mTest (mOp2 pIsNot ma mb)) := r_testC (fun _ _ => op_notN) prim_isNot ha hb (nomark b)
theorem atD_dens {K : PySem.W.Frag} {μ : List Addr} {H : Hp} {vs : List V} {ds : List D} {i : Int} {d : D} (q : Dens K μ H vs ds) (h : atD ds i = some d) : ∃ v, atI vs i = some v ∧ Den K μ H v d := by
  unfold atD at h
  cases hj : ixD ds.length i with
  | none => rw [hj] at h; cases h
  | some j =>
    rw [hj] at h
    obtain ⟨v, h1, h2⟩ := q.get (show ds[j]? = some d from h)
    refine ⟨v, ?_, h2⟩
    unfold atI
    rw [q.length, show ixN ds.length i = some j from hj]
    exact h1
theorem prim_ix {K : PySem.W.Frag} : Prim2 K ca (rIx K) pIx := by
  intro Φ σ H μ g x y dx dy Q r qx qy p
  unfold pIx at p
  cases qx with
  | tup ht hs =>
    cases qy with
    | int i =>
      dsimp only at p
      rename_i a vs ds
      cases h : atD ds i with
      | none => rw [h] at p; exact p.elim
      | some d =>
        rw [h] at p
        obtain ⟨v, h1, h2⟩ := atD_dens hs h
        exact .inr (.inl ⟨a, vs, i, v, rfl, rfl, ht, h1, p v H μ .refl r h2⟩)
    | _ => exact p.elim
  | fl ht hs =>
    cases qy with
    | int i =>
      dsimp only at p
      rename_i a vs ds
      cases h : atD ds i with
      | none => rw [h] at p; exact p.elim
      | some d =>
        rw [h] at p
        obtain ⟨v, h1, h2⟩ := atD_dens hs h
        exact .inl ⟨a, vs, i, v, rfl, rfl, ht.sq, h1, p v H μ .refl r h2⟩
    | _ => exact p.elim
  | @ref n a hn =>
    cases qy with
    | int i =>
      dsimp only at p
      cases hg : g[n]? with
      | none => rw [hg] at p; exact p.elim
      | some o =>
        rw [hg] at p
        obtain ⟨a', ha', ob⟩ := r.addr hg
        rw [hn] at ha'; cases ha'
        cases o with
        | lst ds =>
          obtain ⟨vs, hH, hs⟩ := ob
          dsimp only at p
          cases h : atD ds i with
          | none => rw [h] at p; exact p.elim
          | some d =>
            rw [h] at p
            obtain ⟨v, h1, h2⟩ := atD_dens hs h
            exact .inl ⟨a, vs, i, v, rfl, rfl, .of hH, h1, p v H μ .refl r h2⟩
        | _ => exact p.elim
    | _ => exact p.elim
  | str s =>
    cases qy with
    | int i =>
      dsimp only at p
      by_cases z : s.length ≤ SZ
      · rw [if_pos z] at p
        cases h : atD s.cps.toList i with
        | none => rw [h] at p; exact p.elim
        | some c =>
          rw [h] at p
          exact .inr (.inr ⟨s, i, c, rfl, rfl, Nat.le_trans z sz_line, h, p _ H μ .refl r (.str _)⟩)
      · rw [if_neg z] at p; exact p.elim
    | _ => exact p.elim
  | _ => cases qy <;> exact p.elim
theorem r_sub1 (ha : PE3 ca X a ma) (hb : PE3 ca X b mb) (hs : PlainIx b := by exact fun _ _ => rfl) : PE3 ca X (.Subscript a b pos) (mOp2 pIx ma mb) := r_ix (fun _ _ => ix_seq) prim_ix ha hb hs
theorem r_blt {x : Str} {id : String} {r : List V → Hp → VK → Prop} {f : D → G → Res D} (hc : ∀ pn Φ, CallR (xat X ca pn Φ) (.builtin id) r) (hm : X.mg x = none) (hv : bootBuiltins x = some (.builtin id))
    (hp : ∀ (Φ : XS) (σ : L2.St) (H : Hp) (μ : List Addr) (g : G) (y : V) (d : D) (Q : VK), GRep X.K ca μ H g → Den X.K μ H y d → Post X.K ca Φ σ Q H μ (f d g) → r [y] H Q) (he : PE3 ca X e me) (hg : Gl X x) (hn : x ≠ "__name__") (hdb : (x == ("__debug__" : Str)) = false)
    (hs : starEach [e] X.env = [(false, eval e X.env)]) (hpl : (backTo pos (starEach [] X.env)).any (·.1) = false) : PE3 ca X (.Call (.Name x p) [e] [] pos) (mOp1 f me) :=
  fun pn Φ => conseq (pe_callB (X := xat X ca pn Φ) (hc pn Φ) hg hm hv (r_cons he r_nil hs pn Φ) hn hdb hs hpl) fun σ H Q hQ => by
    obtain ⟨σ3, g, μ, R, q⟩ := hQ
    refine ⟨σ3, g, μ, R, ?_⟩
    unfold mOp1 at q
    unfold mCons mNil
    cases hm : me σ3 g with
    | raise _ _ => rw [hm] at q; exact q
    | stuck => rw [hm] at q; exact q.elim
    | ok d g1 =>
      rw [hm, Res.bind_ok] at q
      rw [Res.bind_ok, Res.bind_ok]
      intro vs H1 μ1 e1 r1 q1
      cases q1 with
      | cons h1 h2 =>
        cases h2
        exact hp Φ σ H1 μ1 g1 _ d Q r1 h1 (q.go e1)
end
end L3

end
section
namespace L3
open PySem PySem.Spec PyProof.Rows L2
section
variable {X : Cx} {pins : List (Addr × Obj)} {σ : L2.St} {H : Hp} {s : Shared}
theorem ints_at {A : Around} {a c : Addr} {is js : List Int} (hu : A.units + 8 < cLine) (I : Inv X pins σ H s) (h1 : SqL X.K H a (is.map V.int)) (h2 : SqL X.K H c (js.map V.int)) : SeqAt.RcAt A s (.ref a) (.ref c) (decide (is = js)) := by
  obtain ⟨us, r1, p1, _⟩ := I.list h1
  obtain ⟨ts, r2, p2, _⟩ := I.list h2
  have l1 : us.length = is.length := by rw [← r1.length, List.length_map]
  have l2 : ts.length = js.length := by rw [← r2.length, List.length_map]
  by_cases hl : is.length = js.length
  · have k := SeqAt.RcAt.lists (A := A) p1.isList p2.isList (by simp only [List.size_toArray]; omega) (by omega) (e := fun j => is[j]? == js[j]?) (fun j h1 h2 => by
      have z1 : j < us.length := by simpa using h1
      have z2 : j < ts.length := by simpa using h2
      obtain ⟨u, hu, t, ru⟩ := r1.get (i := j) (x := V.int (is[j]'(by omega))) (by rw [List.getElem?_map, List.getElem?_eq_getElem (by omega)]; rfl)
      obtain ⟨u', hu', t', ru'⟩ := r2.get (i := j) (x := V.int (js[j]'(by omega))) (by rw [List.getElem?_map, List.getElem?_eq_getElem (by omega)]; rfl)
      have w1 : us.toArray[j] = Value.int (is[j]'(by omega)) t := by
        have : us[j] = u := by simpa [List.getElem?_eq_getElem z1] using hu
        simpa [ru] using this
      have w2 : ts.toArray[j] = Value.int (js[j]'(by omega)) t' := by
        have : ts[j] = u' := by simpa [List.getElem?_eq_getElem z2] using hu'
        simpa [ru'] using this
      rw [w1, w2, List.getElem?_eq_getElem (show j < is.length by omega), List.getElem?_eq_getElem (show j < js.length by omega)]
      exact SeqAt.EqAt.int_int _ _ _ _)
    have e : (List.range us.toArray.size).all (fun j => is[j]? == js[j]?) = decide (is = js) := by
      rw [Bool.eq_iff_iff, List.all_eq_true, decide_eq_true_eq]
      refine ⟨fun h => List.ext_getElem? fun j => ?_, fun h j _ => by rw [h]; simp⟩
      by_cases hj : j < is.length
      · exact beq_iff_eq.mp (h j (List.mem_range.mpr (by simp only [List.size_toArray]; omega)))
      · rw [List.getElem?_eq_none (by omega), List.getElem?_eq_none (by omega)]
    rw [← e]
    exact k
  · have e : decide (is = js) = false := decide_eq_false fun z => hl (by rw [z])
    rw [e]
    exact SeqAt.RcAt.lists_lengths p1.isList p2.isList (by simp only [List.size_toArray, l1, l2]; simpa using hl) (by omega)
theorem ints_eq {A : Around} {a c : Addr} {is js : List Int} (hu : A.units + 8 < cLine) (I : Inv X pins σ H s) (h1 : SqL X.K H a (is.map V.int)) (h2 : SqL X.K H c (js.map V.int)) : SeqAt.EqAt A s (.ref a) (.ref c) (decide (is = js)) := by
  by_cases e : a = c
  · subst e
    have z := I.list_inj h1 h2
    have z : is = js := (List.map_inj_right fun _ _ e => V.int.inj e).mp z
    rw [decide_eq_true z]
    exact SeqAt.EqAt.same _
  · exact SeqAt.EqAt.of_refs e (ints_at hu I h1 h2)
end
noncomputable def rNeLL (K : PySem.W.Frag) : R2 := fun x y H Q => ∃ (a c : Addr) (as cs : List Addr) (xs ys : List (List Int)), x = .ref a ∧ y = .ref c ∧ SqL K H a (as.map V.ref) ∧ SqL K H c (cs.map V.ref) ∧ as.length = xs.length ∧ cs.length = ys.length ∧
  (∀ (i : Nat) (p : Addr) (is : List Int), as[i]? = some p → xs[i]? = some is → SqL K H p (is.map V.int)) ∧ (∀ (i : Nat) (p : Addr) (is : List Int), cs[i]? = some p → ys[i]? = some is → SqL K H p (is.map V.int)) ∧ Q (.bl (!decide (xs = ys))) H
theorem op_neLL {X : Cx} (hu : X.A.units + 16 < cLine) : OpR X (compareOp .NotEq) (rNeLL X.K) := by
  intro pins s σ H x y v u Q I rx ry h
  obtain ⟨a, c, as, cs, xs, ys, rfl, rfl, h1, h2, n1, n2, g1, g2, q⟩ := h
  cases rx; cases ry
  obtain ⟨us, r1, p1, _⟩ := I.list h1
  obtain ⟨ts, r2, p2, _⟩ := I.list h2
  have l1 : us.length = xs.length := by rw [← r1.length, List.length_map, n1]
  have l2 : ts.length = ys.length := by rw [← r2.length, List.length_map, n2]
  have key : SeqAt.RcNeAt X.A s (.ref a) (.ref c) (!decide (xs = ys)) := by
    by_cases hl : xs.length = ys.length
    · have k := SeqAt.RcNeAt.lists (A := X.A) p1.isList p2.isList (by simp only [List.size_toArray]; omega) (by omega) (e := fun j => decide (xs[j]? = ys[j]?)) (fun j h1 h2 => by
        have z1 : j < us.length := by simpa using h1
        have z2 : j < ts.length := by simpa using h2
        obtain ⟨u, hu', ru⟩ := r1.get (i := j) (x := V.ref (as[j]'(by omega))) (by rw [List.getElem?_map, List.getElem?_eq_getElem (by omega)]; rfl)
        obtain ⟨u', hu'', ru'⟩ := r2.get (i := j) (x := V.ref (cs[j]'(by omega))) (by rw [List.getElem?_map, List.getElem?_eq_getElem (by omega)]; rfl)
        cases ru; cases ru'
        have w1 : us.toArray[j] = Value.ref (as[j]'(by omega)) := by
          have : us[j] = Value.ref (as[j]'(by omega)) := by simpa [List.getElem?_eq_getElem z1] using hu'
          simpa using this
        have w2 : ts.toArray[j] = Value.ref (cs[j]'(by omega)) := by
          have : ts[j] = Value.ref (cs[j]'(by omega)) := by simpa [List.getElem?_eq_getElem z2] using hu''
          simpa using this
        have m1 : xs[j]? = some (xs[j]'(by omega)) := List.getElem?_eq_getElem (show j < xs.length by omega)
        have m2 : ys[j]? = some (ys[j]'(by omega)) := List.getElem?_eq_getElem (show j < ys.length by omega)
        have e := ints_eq (A := X.A.in1) (by show X.A.units + 1 + 8 < cLine; omega) I (g1 j _ _ (List.getElem?_eq_getElem (show j < as.length by omega)) m1) (g2 j _ _ (List.getElem?_eq_getElem (show j < cs.length by omega)) m2)
        rw [w1, w2, m1, m2]
        simpa using e)
      have e : (List.range us.toArray.size).all (fun j => decide (xs[j]? = ys[j]?)) = decide (xs = ys) := by
        rw [Bool.eq_iff_iff, List.all_eq_true, decide_eq_true_eq]
        refine ⟨fun h => List.ext_getElem? fun j => ?_, fun h j _ => by rw [h]; simp⟩
        by_cases hj : j < xs.length
        · exact of_decide_eq_true (h j (List.mem_range.mpr (by simp only [List.size_toArray]; omega)))
        · rw [List.getElem?_eq_none (by omega), List.getElem?_eq_none (by omega)]
      rw [← e]
      exact k
    · have e : decide (xs = ys) = false := decide_eq_false fun z => hl (by rw [z])
      rw [e]
      exact SeqAt.RcNeAt.lists_lengths p1.isList p2.isList (by simp only [List.size_toArray, l1, l2]; simpa using hl) (by omega)
  exact key _ _ _ _ ⟨.bl _, H, I, rfl, q⟩
theorem lol_of {K : PySem.W.Frag} {ca : Nat → Addr} {μ : List Addr} {H : Hp} {g : G} (r : GRep K ca μ H g) : ∀ {vs : List V} {ds : List D} {xss : List (List Int)}, Dens K μ H vs ds → lolD g ds = some xss → ∃ as : List Addr, vs = as.map V.ref ∧ as.length = xss.length ∧ ∀ (i : Nat) (p : Addr) (is : List Int), as[i]? = some p → xss[i]? = some is → SqL K H p (is.map V.int)
  | _, _, xss, .nil, h => by cases h; exact ⟨[], rfl, rfl, fun i p is a => by simp at a⟩
  | _, _, xss, .cons (ds := ds) h1 h2, h => by
    cases h1 with
    | @ref n a hn =>
      unfold lolD at h
      cases hg : g[n]? with
      | none => rw [hg] at h; cases h
      | some o =>
        rw [hg] at h
        obtain ⟨a', ha', ob⟩ := r.addr hg
        rw [hn] at ha'; cases ha'
        cases o with
        | lst es =>
          obtain ⟨ws, hH, q⟩ := ob
          dsimp only at h
          cases e1 : intsD es with
          | none => rw [e1] at h; cases h
          | some js =>
            cases e2 : lolD g ds with
            | none => rw [e1, e2] at h; cases h
            | some rs =>
              rw [e1, e2] at h
              cases h
              obtain ⟨as, x1, x2, x3⟩ := lol_of r h2 e2
              refine ⟨a :: as, by rw [x1]; rfl, by simp [x2], fun i p is hp hi => ?_⟩
              cases i with
              | zero =>
                cases hp; cases hi
                have := dens_ints q e1
                subst this
                exact .of hH
              | succ i => exact x3 i p is (by simpa using hp) (by simpa using hi)
        | _ => cases h
    | _ => cases h
section
variable {X : Cx} {ca : Nat → Addr} {a b : Expr} {ma mb : ME} {pos : Pos} {k : Nat}
theorem prim_neLL {K : PySem.W.Frag} : Prim2 K ca (rNeLL K) pNeLL := by
  intro Φ σ H μ g x y dx dy Q r qx qy p
  unfold pNeLL at p
  cases qx with
  | @ref n a hn =>
    cases qy with
    | @ref m c hm =>
      dsimp only at p
      cases hg : g[n]? with
      | none => rw [hg] at p; exact p.elim
      | some o1 =>
        cases hg2 : g[m]? with
        | none => rw [hg, hg2] at p; cases o1 <;> exact p.elim
        | some o2 =>
          rw [hg, hg2] at p
          obtain ⟨b1, hb1, ob1⟩ := r.addr hg
          obtain ⟨b2, hb2, ob2⟩ := r.addr hg2
          rw [hn] at hb1; cases hb1
          rw [hm] at hb2; cases hb2
          cases o1 with
          | lst xs =>
            cases o2 with
            | lst ys =>
              obtain ⟨vs, hH1, q1⟩ := ob1
              obtain ⟨ws, hH2, q2⟩ := ob2
              dsimp only at p
              cases e1 : lolD g xs with
              | none => rw [e1] at p; exact p.elim
              | some is =>
                cases e2 : lolD g ys with
                | none => rw [e1, e2] at p; exact p.elim
                | some js =>
                  rw [e1, e2] at p
                  obtain ⟨as, x1, x2, x3⟩ := lol_of r q1 e1
                  obtain ⟨cs, y1, y2, y3⟩ := lol_of r q2 e2
                  subst x1 y1
                  exact ⟨a, c, as, cs, is, js, rfl, rfl, .of hH1, .of hH2, x2, y2, x3, y3, p _ H μ .refl r (.bl _)⟩
            | _ => exact p.elim
          | _ => cases o2 <;> exact p.elim
    | _ => exact p.elim
  | _ => cases qy <;> exact p.elim
theorem r_neLLT (hr : Room k X.A) (ha : PE3 ca X a ma) (hb : PE3 ca X b mb) : PT3 ca X (.Compare a [.NotEq] [b] pos) (mTest (mOp2 pNeLL ma mb)) := r_testC (fun pn Φ => op_neLL (X := xat X ca pn Φ) (hu16 hr)) prim_neLL ha hb (nomark b)
end
end L3

end
section
namespace L3
open PySem PySem.Spec PyProof.Rows L2
section
variable {X : Cx} {ca : Nat → Addr} {a b e o : Expr} {ma mb me mo : ME} {pos p apos : Pos} {k : Nat}
theorem r_ty {x : Str} {T : String} {r : List V → Hp → VK → Prop} {f : D → G → Res D} (hc : ∀ pn Φ, CallR (xat X ca pn Φ) (.type T) r) (hm : X.mg x = none) (hv : bootBuiltins x = some (.type T))
    (hp : ∀ (Φ : XS) (σ : L2.St) (H : Hp) (μ : List Addr) (g : G) (y : V) (d : D) (Q : VK), GRep X.K ca μ H g → Den X.K μ H y d → Post X.K ca Φ σ Q H μ (f d g) → r [y] H Q) (he : PE3 ca X e me) (hg : Gl X x) (hn : x ≠ "__name__") (hdb : (x == ("__debug__" : Str)) = false)
    (hs : starEach [e] X.env = [(false, eval e X.env)]) (hpl : (backTo pos (starEach [] X.env)).any (·.1) = false) : PE3 ca X (.Call (.Name x p) [e] [] pos) (mOp1 f me) :=
  fun pn Φ => conseq (pe_callTy (X := xat X ca pn Φ) (hc pn Φ) hg hm hv (r_cons he r_nil hs pn Φ) hn hdb hs hpl) fun σ H Q hQ => by
    obtain ⟨σ3, g, μ, R, q⟩ := hQ
    refine ⟨σ3, g, μ, R, ?_⟩
    unfold mOp1 at q
    unfold mCons mNil
    cases hm : me σ3 g with
    | raise _ _ => rw [hm] at q; exact q
    | stuck => rw [hm] at q; exact q.elim
    | ok d g1 =>
      rw [hm, Res.bind_ok] at q
      rw [Res.bind_ok, Res.bind_ok]
      intro vs H1 μ1 e1 r1 q1
      cases q1 with
      | cons h1 h2 =>
        cases h2
        exact hp Φ σ H1 μ1 g1 _ d Q r1 h1 (q.go e1)
theorem r_len (hm : X.mg "len" = none) (he : PE3 ca X e me) (hg : Gl X "len" := by rfl) (hs : starEach [e] X.env = [(false, eval e X.env)] := by rfl) (hpl : (backTo pos (starEach [] X.env)).any (·.1) = false := by rfl) :
    PE3 ca X (.Call (.Name "len" p) [e] [] pos) (mOp1 pLen me) :=
  r_blt (r := fun xs H Q => ∃ p ys, xs = [V.ref p] ∧ (SqL X.K H p ys ∨ SqT X.K H p ys) ∧ Q (V.int (ys.length : Int)) H) (fun _ _ => call_len_seq) hm boot_len (fun Φ σ H μ g y d Q r q pp => by
    unfold pLen at pp
    cases q with
    | @tup t vs ds ht hs => exact ⟨t, vs, rfl, .inr ht, pp _ H μ .refl r (by rw [hs.length]; exact .int _)⟩
    | @fl t vs ds ht hs => exact ⟨t, vs, rfl, .inl ht.sq, pp _ H μ .refl r (by rw [hs.length]; exact .int _)⟩
    | @ref n t hn =>
      dsimp only at pp
      cases hgn : g[n]? with
      | none => rw [hgn] at pp; exact pp.elim
      | some ob =>
        rw [hgn] at pp
        obtain ⟨t', ht', orp⟩ := r.addr hgn
        rw [hn] at ht'; cases ht'
        cases ob with
        | lst ds => obtain ⟨vs, hH, q⟩ := orp; exact ⟨t, vs, rfl, .inl (.of hH), pp _ H μ .refl r (by rw [q.length]; exact .int _)⟩
        | _ => exact pp.elim
    | _ => exact pp.elim) he hg (by decide) (by decide) hs hpl
theorem r_tuple (hm : X.mg "tuple" = none) (he : PE3 ca X e me) (hg : Gl X "tuple" := by rfl) (hs : starEach [e] X.env = [(false, eval e X.env)] := by rfl) (hpl : (backTo pos (starEach [] X.env)).any (·.1) = false := by rfl) :
    PE3 ca X (.Call (.Name "tuple" p) [e] [] pos) (mOp1 pTuple me) :=
  r_ty (r := fun xs H Q => ∃ p ys, xs = [V.ref p] ∧ ((SqL X.K H p ys ∧ ∀ l, H l = none → Q (.ref l) (upd H l (.tup ys))) ∨ (SqT X.K H p ys ∧ Q (.ref p) H))) (fun _ _ => call_tuple_of) hm boot_tuple (fun Φ σ H μ g y d Q r q pp => by
    unfold pTuple at pp
    cases q with
    | @tup t vs ds ht hs => exact ⟨t, vs, rfl, .inr ⟨ht, pp _ H μ .refl r (.tup ht hs)⟩⟩
    | @fl t vs ds ht hs => exact ⟨t, vs, rfl, .inl ⟨ht.sq, fun l hl => pp _ _ μ (ext_new hl) (r.new hl) (.tup (.of upd_same) (hs.mono (ext_new hl)))⟩⟩
    | @ref n t hn =>
      dsimp only at pp
      cases hgn : g[n]? with
      | none => rw [hgn] at pp; exact pp.elim
      | some ob =>
        rw [hgn] at pp
        obtain ⟨t', ht', orp⟩ := r.addr hgn
        rw [hn] at ht'; cases ht'
        cases ob with
        | lst ds => obtain ⟨vs, hH, q⟩ := orp; exact ⟨t, vs, rfl, .inl ⟨.of hH, fun l hl => pp _ _ μ (ext_new hl) (r.new hl) (.tup (.of upd_same) (q.mono (ext_new hl)))⟩⟩
        | _ => exact pp.elim
    | _ => exact pp.elim) he hg (by decide) (by decide) hs hpl
theorem r_list (hm : X.mg "list" = none) (he : PE3 ca X e me) (hg : Gl X "list" := by rfl) (hs : starEach [e] X.env = [(false, eval e X.env)] := by rfl) (hpl : (backTo pos (starEach [] X.env)).any (·.1) = false := by rfl) :
    PE3 ca X (.Call (.Name "list" p) [e] [] pos) (mOp1 pList me) :=
  r_ty (r := fun xs H Q => ∃ p ys, xs = [V.ref p] ∧ (SqL X.K H p ys ∨ SqT X.K H p ys) ∧ ∀ l, H l = none → Q (.ref l) (upd H l (.lst ys))) (fun _ _ => call_list_of) hm boot_list (fun Φ σ H μ g y d Q r q pp => by
    have el : ∀ l : Addr, (μ ++ [l])[g.length]? = some l := fun l => by rw [← r.len]; simp
    unfold pList at pp
    cases q with
    | @fl t vs ds ht hs => exact ⟨t, vs, rfl, .inl ht.sq, fun l hl => pp _ _ (μ ++ [l]) (ext_push hl) (r.push hl ⟨vs, upd_same, hs.mono (ext_push hl)⟩) (.ref (el l))⟩
    | @tup t vs ds ht hs => exact ⟨t, vs, rfl, .inr ht, fun l hl => pp _ _ (μ ++ [l]) (ext_push hl) (r.push hl ⟨vs, upd_same, hs.mono (ext_push hl)⟩) (.ref (el l))⟩
    | @ref n t hn =>
      dsimp only at pp
      cases hgn : g[n]? with
      | none => rw [hgn] at pp; exact pp.elim
      | some ob =>
        rw [hgn] at pp
        obtain ⟨t', ht', orp⟩ := r.addr hgn
        rw [hn] at ht'; cases ht'
        cases ob with
        | lst ds => obtain ⟨vs, hH, q⟩ := orp; exact ⟨t, vs, rfl, .inl (.of hH), fun l hl => pp _ _ (μ ++ [l]) (ext_push hl) (r.push hl ⟨vs, upd_same, q.mono (ext_push hl)⟩) (.ref (el l))⟩
        | _ => exact pp.elim
    | _ => exact pp.elim) he hg (by decide) (by decide) hs hpl
theorem r_toInt (hm : X.mg "int" = none) (he : PE3 ca X e me) (hg : Gl X "int" := by rfl) (hs : starEach [e] X.env = [(false, eval e X.env)] := by rfl) (hpl : (backTo pos (starEach [] X.env)).any (·.1) = false := by rfl) :
    PE3 ca X (.Call (.Name "int" p) [e] [] pos) (mOp1 pInt me) :=
  r_ty (fun _ _ => call_int1) hm boot_int (fun Φ σ H μ g y d Q r q pp => by
    cases q with
    | int i => exact .inl ⟨i, rfl, pp _ H μ .refl r (.int _)⟩
    | bl b => exact .inr ⟨b, rfl, pp _ H μ .refl r (.int _)⟩
    | _ => exact pp.elim) he hg (by decide) (by decide) hs hpl
theorem r_append (ho : PE3 ca X o mo) (he : PE3 ca X e me) (hbase : attributeBase o "append" X.env (eval o X.env) = eval o X.env := by rfl)
    (hfew : ((backTo pos (starEach [e] X.env)).all (fun x => !x.1) && (backToKw pos (keywordEach [] X.env)).all (fun x => x.1.isSome) && decide ([e].length + ([] : List Keyword).length + (if ([] : List Keyword).isEmpty then 0 else 1) < 30)) = true := by rfl)
    (hline : (apos.endLine == pos.line) = true := by rfl) (hs : starEach [e] X.env = (false, eval e X.env) :: starEach [] X.env := by rfl) (hplain : (backTo pos (starEach [] X.env)).any (·.1) = false := by rfl) :
    PE3 ca X (.Call (.Attribute o "append" apos) [e] [] pos) (mAppend mo me) :=
  fun pn Φ => conseq (pe_bm (X := xat X ca pn Φ) PySem.F.plainAttrs_list PySem.F.slot_list_append PySem.F.type_list_append mt_append (ho pn Φ) (r_cons he r_nil hs pn Φ) hbase hfew hline hs hplain) fun σ H Q ⟨σ3, g, μ, R, q⟩ => up_mono (bindE R q) fun x H1 hQ => by
    obtain ⟨d, g1, μ1, e1, R1, q1, p1⟩ := hQ
    cases q1 with
    | @ref n t hn =>
      dsimp only at p1
      cases hgn : g1[n]? with
      | none => rw [hgn] at p1; exact p1.elim
      | some ob =>
        rw [hgn] at p1
        obtain ⟨t', ht', orp⟩ := R1.g.addr hgn
        rw [hn] at ht'; cases ht'
        cases ob with
        | lst ds0 =>
          obtain ⟨vs0, hH0, _⟩ := orp
          dsimp only at p1
          refine ⟨.inl ⟨rfl, _, .of hH0⟩, σ3, g1, μ1, R1, ?_⟩
          unfold mCons mNil
          cases hm : me σ3 g1 with
          | raise _ _ => rw [hm] at p1; exact p1
          | stuck => rw [hm] at p1; exact p1.elim
          | ok y g2 =>
            rw [hm, Res.bind_ok] at p1
            rw [Res.bind_ok, Res.bind_ok]
            intro vs H2 μ2 e2 r2 q2
            cases q2 with
            | @cons vy _ _ _ h1 h2 =>
              cases h2
              cases hg2 : g2[n]? with
              | none => rw [hg2] at p1; exact p1.elim
              | some ob2 =>
                rw [hg2] at p1
                obtain ⟨t', ht', orp⟩ := r2.addr hg2
                rw [e2.at hn] at ht'; cases ht'
                cases ob2 with
                | lst ds =>
                  obtain ⟨ws, hH, qs⟩ := orp
                  dsimp only at p1
                  by_cases z : ds.length < SZ
                  · rw [if_pos z] at p1
                    have ex : Ext X.K μ2 H2 μ2 (upd H2 t (.lst (ws ++ [vy]))) := ext_set hH (by intro _ z; cases z) (by intro _ _ z; cases z)
                    refine ⟨t, ws, _, rfl, rfl, hH, by rw [qs.length]; exact Nat.lt_of_lt_of_le z sz_line, p1 _ _ μ2 (e2.trans ex) ?_ .non⟩
                    exact r2.set (e2.at hn) hH (by intro _ z; cases z) (by intro _ _ z; cases z) ⟨_, upd_same, (qs.mono ex).append (.cons (h1.mono ex) .nil)⟩
                  · rw [if_neg z] at p1; exact p1.elim
                | _ => exact p1.elim
        | _ => exact p1.elim
    | _ => exact p1.elim
end
end L3

end
section
namespace L3
open PySem PySem.Spec PyProof.Rows L2
noncomputable def IsIt (b : Bool) (h : Heap) (i l : Addr) (k : Nat) : Prop := if b = true then h.IsListIter i l k else h.IsTupleIter i l k
noncomputable def IsSq (b : Bool) (h : Heap) (l : Addr) (xs : Array Value) : Prop := if b = true then h.IsList l xs else h.IsTuple l xs
theorem IsIt.at {b : Bool} {h h' : Heap} {i l : Addr} {k : Nat} (x : IsIt b h i l k) (hk : ∀ o, h.get? i = some o → h'.get? i = some o) : IsIt b h' i l k := by
  cases b
  · exact Heap.IsTupleIter.at (show h.IsTupleIter i l k from x) hk
  · exact Heap.IsListIter.at (show h.IsListIter i l k from x) hk
theorem IsSq.at {b : Bool} {h h' : Heap} {l : Addr} {xs : Array Value} (x : IsSq b h l xs) (hk : ∀ o, h.get? l = some o → h'.get? l = some o) : IsSq b h' l xs := by
  cases b
  · obtain ⟨o, e, c⟩ := (show h.IsTuple l xs from x); exact ⟨o, hk o e, c⟩
  · obtain ⟨o, e, c⟩ := (show h.IsList l xs from x); exact ⟨o, hk o e, c⟩
theorem IsIt.lt {b : Bool} {h : Heap} {i l : Addr} {k : Nat} (x : IsIt b h i l k) : i < h.objs.size := by
  cases b
  · obtain ⟨o, e, _⟩ := (show h.IsTupleIter i l k from x); exact Heap.lt_size e
  · obtain ⟨o, e, _⟩ := (show h.IsListIter i l k from x); exact Heap.lt_size e
theorem IsIt.rec {b : Bool} {h : Heap} {i l : Addr} {k : Nat} (x : IsIt b h i l k) : ∃ o, h.get? i = some o ∧ ∀ v, o.data ≠ .cell v := by
  cases b
  · obtain ⟨o, e, c, d⟩ := (show h.IsTupleIter i l k from x); exact ⟨o, e, fun v z => by rw [d] at z; cases z⟩
  · obtain ⟨o, e, c, d⟩ := (show h.IsListIter i l k from x); exact ⟨o, e, fun v z => by rw [d] at z; cases z⟩
theorem IsSq.lt {b : Bool} {h : Heap} {l : Addr} {xs : Array Value} (x : IsSq b h l xs) : l < h.objs.size := by
  cases b
  · obtain ⟨o, e, _⟩ := (show h.IsTuple l xs from x); exact Heap.lt_size e
  · obtain ⟨o, e, _⟩ := (show h.IsList l xs from x); exact Heap.lt_size e
section
variable {prog : Program} {w : World} {A : Around} {E : Value → Shared → Prop} {s : Shared}
theorem nextOf_tup {it t : Addr} {i : Nat} {items : Array Value} {x : Value} {Q : Value → Shared → Prop} (hit : s.heap.IsTupleIter it t i) (ht : s.heap.IsTuple t items) (hx : items[i]? = some x) (hQ : ∀ h', h'.IsTupleIter it t (i + 1) → Heap.SameBut it s.heap h' → Q x { s with heap := h' }) :
    wpAny (model prog w) A (Builtin.SmallTypes.nextOf (.ref it)) Q E s := by
  obtain ⟨o, ho, hc, hd⟩ := id hit; obtain ⟨ol, hol, _, nl, hdl⟩ := ht; unfold Builtin.SmallTypes.nextOf
  refine wpAny_bind (wpAny_callSpecial?_slot (name := Str.ofString "__next__") hit.typeIs F.slot_tuple_iterator_next (wpAny_call_entry F.slot_tuple_iterator_next hit.typeIs F.entry_tuple_iterator_next ?_ (F.args_tuple_iterator_next_1 _)))
  show wpAny _ _ (field (.ref it) 0 >>= _) _ _ s; refine wpAny_bind (wpAny_field ho hd (x := .ref t) rfl ?_)
  show wpAny _ _ (if (Value.ref t == Value.none) = true then _ else _) _ _ s; rw [if_neg (show ¬ ((Value.ref t == Value.none) = true) from Bool.false_ne_true)]
  show wpAny _ _ (field (.ref it) 1 >>= _) _ _ s; refine wpAny_bind (wpAny_field ho hd (x := .int i 0) rfl ?_)
  show wpAny _ _ (seqItems? (.ref t) >>= _) _ _ s; refine wpAny_bind (wpAny_seqItems hol hdl ?_); simp only [Int.toNat_natCast, hx]
  refine wpAny_bind (wpAny_setField ho hd (by simp) (wpAny_pure ⟨x, rfl, wpAny_pure (hQ _ ⟨_, Heap.get?_update_self _ ho (Obj.isFreed_of_fields (Obj.data_mapFields hd _)), (Obj.cls_mapFields ..).trans hc, by rw [Obj.data_mapFields hd]; simp [rawInt]⟩ (Heap.SameBut.update ..))⟩))
theorem nextOf_tupEnd {it t : Addr} {i : Nat} {items : Array Value} {Q : Value → Shared → Prop} (hh : A.handled = none) (hit : s.heap.IsTupleIter it t i) (ht : s.heap.IsTuple t items) (hx : items[i]? = none)
    (hE : ∀ h' e, Heap.ExtBut it s.heap h' → (∃ o, h'.get? e = some o ∧ o.cls = .type "StopIteration") → E (.ref e) { s with heap := h' }) : wpAny (model prog w) A (Builtin.SmallTypes.nextOf (.ref it)) Q E s := by
  obtain ⟨o, ho, hc, hd⟩ := id hit; obtain ⟨ol, hol, _, nl, hdl⟩ := ht; unfold Builtin.SmallTypes.nextOf
  refine wpAny_bind (wpAny_callSpecial?_slot (name := Str.ofString "__next__") hit.typeIs F.slot_tuple_iterator_next (wpAny_call_entry F.slot_tuple_iterator_next hit.typeIs F.entry_tuple_iterator_next ?_ (F.args_tuple_iterator_next_1 _)))
  show wpAny _ _ (field (.ref it) 0 >>= _) _ _ s; refine wpAny_bind (wpAny_field ho hd (x := .ref t) rfl ?_)
  show wpAny _ _ (if (Value.ref t == Value.none) = true then _ else _) _ _ s; rw [if_neg (show ¬ ((Value.ref t == Value.none) = true) from Bool.false_ne_true)]
  show wpAny _ _ (field (.ref it) 1 >>= _) _ _ s; refine wpAny_bind (wpAny_field ho hd (x := .int i 0) rfl ?_)
  show wpAny _ _ (seqItems? (.ref t) >>= _) _ _ s; refine wpAny_bind (wpAny_seqItems hol hdl ?_); simp only [Int.toNat_natCast, hx]
  refine wpAny_bind (wpAny_rule (wpAny_bind (wpAny_setField ho hd (by simp) ?_)))
  show wpAny _ _ (newExc (.type "StopIteration") [] >>= _) _ _ _; refine wpAny_bind ?_; simp only [newExc, newTuple]; refine wpAny_bind (wpAny_newObj_type ?_ (by size_fits))
  refine wpAny_bind (m := firstArgMember _ _) (wpAny_of_eq (a := Value.none) (by first | rfl | (simp only [firstArgMember]; rfl)) ?_); refine wpAny_newObj_type ?_ (by size_fits); simp only [raiseNew]
  refine wpAny_bind (wpAny_handled ?_); (first | rw [show A.in1.handled = none from hh] | rw [hh]); refine wpAny_bind (wpAny_pure (wpAny_throw ?_))
  exact hE _ _ (((Heap.SameBut.update ..).extBut.push _).push _) ⟨_, Heap.get?_push_size _ rfl, rfl⟩
theorem drawIt {b : Bool} {it l : Addr} {i : Nat} {xs : Array Value} {x : Value} {Q : Value → Shared → Prop} (hit : IsIt b s.heap it l i) (hl : IsSq b s.heap l xs) (hx : xs[i]? = some x) (hQ : ∀ h', IsIt b h' it l (i + 1) → Heap.SameBut it s.heap h' → Q x { s with heap := h' }) :
    wpAny (model prog w) A (Builtin.SmallTypes.nextOf (.ref it)) Q E s := by
  cases b
  · exact nextOf_tup hit hl hx hQ
  · exact wpAny_nextOf_list_item hit hl hx hQ
theorem drawEnd {b : Bool} {it l : Addr} {i : Nat} {xs : Array Value} {Q : Value → Shared → Prop} (hh : A.handled = none) (hit : IsIt b s.heap it l i) (hl : IsSq b s.heap l xs) (hx : xs[i]? = none)
    (hE : ∀ h' e, Heap.ExtBut it s.heap h' → (∃ o, h'.get? e = some o ∧ o.cls = .type "StopIteration") → E (.ref e) { s with heap := h' }) : wpAny (model prog w) A (Builtin.SmallTypes.nextOf (.ref it)) Q E s := by
  cases b
  · exact nextOf_tupEnd hh hit hl hx hE
  · exact wpAny_nextOf_list_end hh hit hl hx hE
theorem zipNext {b1 b2 : Bool} {z TI TO i1 i2 l1 l2 : Addr} {k : Nat} {xs ys : Array Value} {x y a b : Value} {Q : Value → Shared → Prop} (D : ZipApart z TI TO i1 i2 l1 l2)
    (hz : IsZip s.heap z TI TO .none) (hTI : IsPair s.heap TI (.ref i1) (.ref i2)) (hTO : IsPair s.heap TO a b) (h1 : IsIt b1 s.heap i1 l1 k) (h2 : IsIt b2 s.heap i2 l2 k) (hl1 : IsSq b1 s.heap l1 xs) (hl2 : IsSq b2 s.heap l2 ys) (hx : xs[k]? = some x) (hy : ys[k]? = some y)
    (hQ : ∀ h', IsZip h' z TI TO (rawInt s.heap.objs.size) → IsPair h' TO x y → IsIt b1 h' i1 l1 (k + 1) → IsIt b2 h' i2 l2 (k + 1) → IsPair h' s.heap.objs.size x y → h'.objs.size = s.heap.objs.size + 1 →
      (∀ c o, c ≠ z → c ≠ TO → c ≠ i1 → c ≠ i2 → s.heap.get? c = some o → h'.get? c = some o) → Q (.ref s.heap.objs.size) { s with heap := h' }) :
    wpAny (model prog w) A (Builtin.«zip.__next__» ⟨[.ref z], []⟩) (fun fin s' => ∃ v, fin = .done (.ret v) ∧ Q v s') E s := by
  show wpAny _ _ (field (.ref z) 2 >>= _) _ _ _; refine wpAny_bind (wpAny_field hz rfl (x := .bool false) rfl ?_)
  show wpAny _ _ (field (.ref z) 3 >>= _) _ _ _; refine wpAny_bind (wpAny_field hz rfl (x := .ref TI) rfl ?_); refine wpAny_bind (wpAny_seqItems hTI rfl ?_)
  show wpAny _ _ (Builtin.SmallTypes.ownedTupleIsFree (.ref z) >>= _) _ _ _; refine wpAny_bind ?_; unfold Builtin.SmallTypes.ownedTupleIsFree
  refine wpAny_bind (wpAny_field hz rfl (x := .none) rfl (wpAny_pure ?_)); simp only [if_true]; refine wpAny_bind (wpAny_rule ?_); refine wpAny_bind (wpAny_field hz rfl (x := .ref TO) rfl ?_)
  refine wpAny_bind (wpAny_setField_rec hz (by simp) fun g1 hz1 hs1 => ?_); replace hz1 : IsZip g1 z TI TO .ellipsis := hz1
  refine wpAny_bind ?_; simp only [List.zipIdx_cons, List.zipIdx_nil, List.forIn_cons, List.forIn_nil]; refine wpAny_bind (wpAny_bind (wpAny_onRaise ?_))
  show wpAny _ _ (Builtin.SmallTypes.nextOf (.ref i1) >>= _) _ _ _
  refine wpAny_bind (drawIt (h1.at fun o e => hs1.extBut _ o D.i1z e) (hl1.at fun o e => hs1.extBut _ o D.l1z e) hx fun g2 h12 hs2 => wpAny_pure ?_)
  have hTO2 : IsPair g2 TO a b := hs2.extBut _ _ D.TOi1 (hs1.extBut _ _ D.TOz hTO)
  refine wpAny_bind (wpAny_seqItems hTO2 rfl ?_); refine wpAny_bind (wpAny_updateSeq_pair hTO2 fun g3 hTO3 hs3 => ?_); replace hTO3 : IsPair g3 TO x b := hTO3
  refine wpAny_bind (wpAny_letGo (wpAny_pure ?_)); refine wpAny_bind (wpAny_bind (wpAny_onRaise ?_))
  show wpAny _ _ (Builtin.SmallTypes.nextOf (.ref i2) >>= _) _ _ _
  refine wpAny_bind (drawIt (h2.at fun o e => hs3.extBut _ o D.TOi2.symm (hs2.extBut _ o D.i12.symm (hs1.extBut _ o D.i2z e))) (hl2.at fun o e => hs3.extBut _ o D.l2TO (hs2.extBut _ o D.l2i1 (hs1.extBut _ o D.l2z e))) hy fun g4 h24 hs4 => wpAny_pure ?_)
  have hTO4 : IsPair g4 TO x b := hs4.extBut _ _ D.TOi2 hTO3
  refine wpAny_bind (wpAny_seqItems hTO4 rfl ?_); refine wpAny_bind (wpAny_updateSeq_pair hTO4 fun g5 hTO5 hs5 => ?_); replace hTO5 : IsPair g5 TO x y := hTO5
  refine wpAny_bind (wpAny_letGo (wpAny_pure (wpAny_pure ?_))); refine wpAny_bind (wpAny_seqItems hTO5 rfl ?_); refine wpAny_bind (wpAny_newTuple ?_)
  have hsz : g5.objs.size = s.heap.objs.size := by rw [hs5.1, hs4.1, hs3.1, hs2.1, hs1.1]
  have hz5 : IsZip g5 z TI TO .ellipsis := hs5.extBut _ _ D.TOz.symm (hs4.extBut _ _ D.i2z.symm (hs3.extBut _ _ D.TOz.symm (hs2.extBut _ _ D.i1z.symm hz1)))
  have hk5 : ∀ c o, c ≠ z → c ≠ TO → c ≠ i1 → c ≠ i2 → s.heap.get? c = some o → g5.get? c = some o := fun c o c1 c2 c3 c4 e => hs5.extBut _ _ c2 (hs4.extBut _ _ c4 (hs3.extBut _ _ c2 (hs2.extBut _ _ c3 (hs1.extBut _ _ c1 e))))
  have h15 : IsIt b1 g5 i1 l1 (k + 1) := h12.at fun o e => hs5.extBut _ o D.TOi1.symm (hs4.extBut _ o D.i12 (hs3.extBut _ o D.TOi1.symm e))
  have h25 : IsIt b2 g5 i2 l2 (k + 1) := h24.at fun o e => hs5.extBut _ o D.TOi2.symm e
  have hzlt : z < g5.objs.size := Heap.lt_size hz5
  show wpAny _ _ (Builtin.SmallTypes.ownedTupleHandOut (.ref z) (.ref g5.objs.size) >>= _) _ _ _
  refine wpAny_bind ?_; unfold Builtin.SmallTypes.ownedTupleHandOut
  have hz6 : IsZip (g5.push { cls := .type "tuple", data := .seq #[x, y] }) z TI TO .ellipsis := Heap.get?_push_of_some _ hz5
  refine wpAny_bind (wpAny_setField_rec hz6 (by simp) fun g7 hz7 hs7 => ?_); replace hz7 : IsZip g7 z TI TO (rawInt g5.objs.size) := hz7
  refine wpAny_setField_rec hz7 (by simp) fun g8 hz8 hs8 => ?_; replace hz8 : IsZip g8 z TI TO (rawInt g5.objs.size) := hz8
  have upz : ∀ c o, c ≠ z → g5.get? c = some o → g8.get? c = some o := fun c o c1 e => hs8.extBut _ _ c1 (hs7.extBut _ _ c1 (Heap.get?_push_of_some _ e))
  have hT8 : IsPair g8 g5.objs.size x y := hs8.extBut _ _ (Nat.ne_of_gt hzlt) (hs7.extBut _ _ (Nat.ne_of_gt hzlt) (Heap.get?_push_size _ rfl))
  have hsz8 : g8.objs.size = g5.objs.size + 1 := by rw [hs8.1, hs7.1, Heap.size_push]
  rw [hsz] at hz8 hT8 hsz8; refine wpAny_pure ⟨_, rfl, ?_⟩; show Q (.ref g5.objs.size) _; rw [hsz]
  exact hQ g8 hz8 (upz _ _ D.TOz hTO5) (h15.at fun o e => upz _ o D.i1z e) (h25.at fun o e => upz _ o D.i2z e) hT8 hsz8 fun c o c1 c2 c3 c4 e => upz c o c1 (hk5 c o c1 c2 c3 c4 e)
theorem zipEnd {b1 b2 : Bool} {z TI TO i1 i2 l1 l2 : Addr} {k : Nat} {xs ys : Array Value} {a b : Value} {Q : Fin → Shared → Prop} (hh : A.handled = none) (D : ZipApart z TI TO i1 i2 l1 l2)
    (hz : IsZip s.heap z TI TO .none) (hTI : IsPair s.heap TI (.ref i1) (.ref i2)) (hTO : IsPair s.heap TO a b) (h1 : IsIt b1 s.heap i1 l1 k) (h2 : IsIt b2 s.heap i2 l2 k) (hl1 : IsSq b1 s.heap l1 xs) (hl2 : IsSq b2 s.heap l2 ys) (hend : xs[k]? = none ∨ ys[k]? = none)
    (hE : ∀ h' e, (∀ c o, c ≠ z → c ≠ TO → c ≠ i1 → c ≠ i2 → s.heap.get? c = some o → h'.get? c = some o) → (∃ o, h'.get? e = some o ∧ o.cls = .type "StopIteration") → E (.ref e) { s with heap := h' }) :
    wpAny (model prog w) A (Builtin.«zip.__next__» ⟨[.ref z], []⟩) Q E s := by
  show wpAny _ _ (field (.ref z) 2 >>= _) _ _ _; refine wpAny_bind (wpAny_field hz rfl (x := .bool false) rfl ?_)
  show wpAny _ _ (field (.ref z) 3 >>= _) _ _ _; refine wpAny_bind (wpAny_field hz rfl (x := .ref TI) rfl ?_); refine wpAny_bind (wpAny_seqItems hTI rfl ?_)
  show wpAny _ _ (Builtin.SmallTypes.ownedTupleIsFree (.ref z) >>= _) _ _ _; refine wpAny_bind ?_; unfold Builtin.SmallTypes.ownedTupleIsFree
  refine wpAny_bind (wpAny_field hz rfl (x := .none) rfl (wpAny_pure ?_)); simp only [if_true]; refine wpAny_bind (wpAny_rule ?_); refine wpAny_bind (wpAny_field hz rfl (x := .ref TO) rfl ?_)
  refine wpAny_bind (wpAny_setField_rec hz (by simp) fun g1 hz1 hs1 => ?_); replace hz1 : IsZip g1 z TI TO .ellipsis := hz1
  refine wpAny_bind ?_; simp only [List.zipIdx_cons, List.zipIdx_nil, List.forIn_cons, List.forIn_nil]; refine wpAny_bind (wpAny_bind (wpAny_onRaise ?_))
  show wpAny _ _ (Builtin.SmallTypes.nextOf (.ref i1) >>= _) _ _ _
  cases hx : xs[k]? with
  | none =>
    refine wpAny_bind (drawEnd hh (h1.at fun o e => hs1.extBut _ o D.i1z e) (hl1.at fun o e => hs1.extBut _ o D.l1z e) hx fun g2 e hs2 he => ?_)
    obtain ⟨oe, hoe, hce⟩ := he; have hz2 : IsZip g2 z TI TO .ellipsis := hs2 _ _ D.i1z.symm hz1
    have hez : e ≠ z := fun q => by subst q; rw [hz2] at hoe; cases hoe; simp at hce
    refine wpAny_setField_rec hz2 (by simp) fun g3 _ hs3 => hE g3 e (fun c o c1 _ c3 _ q => hs3.extBut _ _ c1 (hs2 _ _ c3 (hs1.extBut _ _ c1 q))) ⟨oe, hs3.extBut _ _ hez hoe, hce⟩
  | some x =>
    have hy : ys[k]? = none := by rcases hend with q | q; (· rw [hx] at q; cases q); exact q
    refine wpAny_bind (drawIt (h1.at fun o e => hs1.extBut _ o D.i1z e) (hl1.at fun o e => hs1.extBut _ o D.l1z e) hx fun g2 h12 hs2 => wpAny_pure ?_)
    have hTO2 : IsPair g2 TO a b := hs2.extBut _ _ D.TOi1 (hs1.extBut _ _ D.TOz hTO)
    refine wpAny_bind (wpAny_seqItems hTO2 rfl ?_); refine wpAny_bind (wpAny_updateSeq_pair hTO2 fun g3 hTO3 hs3 => ?_); refine wpAny_bind (wpAny_letGo (wpAny_pure ?_)); refine wpAny_bind (wpAny_bind (wpAny_onRaise ?_))
    show wpAny _ _ (Builtin.SmallTypes.nextOf (.ref i2) >>= _) _ _ _
    refine wpAny_bind (drawEnd hh (h2.at fun o e => hs3.extBut _ o D.TOi2.symm (hs2.extBut _ o D.i12.symm (hs1.extBut _ o D.i2z e))) (hl2.at fun o e => hs3.extBut _ o D.l2TO (hs2.extBut _ o D.l2i1 (hs1.extBut _ o D.l2z e))) hy fun g4 e hs4 he => ?_)
    obtain ⟨oe, hoe, hce⟩ := he; have hz4 : IsZip g4 z TI TO .ellipsis := hs4 _ _ D.i2z.symm (hs3.extBut _ _ D.TOz.symm (hs2.extBut _ _ D.i1z.symm hz1))
    have hez : e ≠ z := fun q => by subst q; rw [hz4] at hoe; cases hoe; simp at hce
    refine wpAny_setField_rec hz4 (by simp) fun g5 _ hs5 => hE g5 e (fun c o c1 c2 c3 c4 q => hs5.extBut _ _ c1 (hs4 _ _ c4 (hs3.extBut _ _ c2 (hs2.extBut _ _ c3 (hs1.extBut _ _ c1 q))))) ⟨oe, hs5.extBut _ _ hez hoe, hce⟩
theorem pyNext_zip {b1 b2 : Bool} {z TI TO i1 i2 l1 l2 : Addr} {k : Nat} {xs ys : Array Value} {x y a b : Value} {Q : Option Value → Shared → Prop} (D : ZipApart z TI TO i1 i2 l1 l2)
    (hz : IsZip s.heap z TI TO .none) (hTI : IsPair s.heap TI (.ref i1) (.ref i2)) (hTO : IsPair s.heap TO a b) (h1 : IsIt b1 s.heap i1 l1 k) (h2 : IsIt b2 s.heap i2 l2 k) (hl1 : IsSq b1 s.heap l1 xs) (hl2 : IsSq b2 s.heap l2 ys) (hx : xs[k]? = some x) (hy : ys[k]? = some y)
    (hQ : ∀ h', IsZip h' z TI TO (rawInt s.heap.objs.size) → IsPair h' TO x y → IsIt b1 h' i1 l1 (k + 1) → IsIt b2 h' i2 l2 (k + 1) → IsPair h' s.heap.objs.size x y → h'.objs.size = s.heap.objs.size + 1 →
      (∀ c o, c ≠ z → c ≠ TO → c ≠ i1 → c ≠ i2 → s.heap.get? c = some o → h'.get? c = some o) → Q (some (.ref s.heap.objs.size)) { s with heap := h' }) : wpAny (model prog w) A (pyNext (.ref z)) Q E s := by
  have hT : s.TypeIs (.ref z) "zip" := ⟨_, hz, rfl⟩; unfold pyNext
  exact wpAny_bind (wpAny_attempt (wpAny_callSpecial?_slot (name := Str.ofString "__next__") hT F.slot_zip_next (wpAny_call_entry F.slot_zip_next hT F.entry_zip_next (zipNext D hz hTI hTO h1 h2 hl1 hl2 hx hy fun h' a1 a2 a3 a4 a5 a6 a7 => wpAny_pure (hQ h' a1 a2 a3 a4 a5 a6 a7)) (F.args_zip_next_1 _))))
theorem pyNext_zipEnd {b1 b2 : Bool} {z TI TO i1 i2 l1 l2 : Addr} {k : Nat} {xs ys : Array Value} {a b : Value} {Q : Option Value → Shared → Prop} (hh : A.handled = none) (D : ZipApart z TI TO i1 i2 l1 l2)
    (hz : IsZip s.heap z TI TO .none) (hTI : IsPair s.heap TI (.ref i1) (.ref i2)) (hTO : IsPair s.heap TO a b) (h1 : IsIt b1 s.heap i1 l1 k) (h2 : IsIt b2 s.heap i2 l2 k) (hl1 : IsSq b1 s.heap l1 xs) (hl2 : IsSq b2 s.heap l2 ys) (hend : xs[k]? = none ∨ ys[k]? = none)
    (hQ : ∀ h', (∀ c o, c ≠ z → c ≠ TO → c ≠ i1 → c ≠ i2 → s.heap.get? c = some o → h'.get? c = some o) → Q none { s with heap := h' }) : wpAny (model prog w) A (pyNext (.ref z)) Q E s := by
  have hT : s.TypeIs (.ref z) "zip" := ⟨_, hz, rfl⟩; unfold pyNext
  refine wpAny_bind (wpAny_attempt (wpAny_callSpecial?_slot (name := Str.ofString "__next__") hT F.slot_zip_next (wpAny_call_entry F.slot_zip_next hT F.entry_zip_next (zipEnd hh D hz hTI hTO h1 h2 hl1 hl2 hend fun h' e hk he => ?_) (F.args_zip_next_1 _))))
  obtain ⟨o, ho, hc⟩ := he; refine wpAny_bind (wpAny_isInstance (T := "StopIteration") (b := true) ⟨o, ho, hc⟩ isSubtype_stop ?_); exact wpAny_pure (hQ _ hk)
noncomputable def itName (b : Bool) : String := if b = true then "list_iterator" else "tuple_iterator"
noncomputable def itObj (b : Bool) (l : Addr) : Obj := { cls := .type (itName b), data := .fields #[.ref l, .int 0 0] }
theorem pyIter_sq {b : Bool} {l : Addr} {xs : Array Value} {Q : Value → Shared → Prop} (hl : IsSq b s.heap l xs) (h : Q (.ref s.heap.objs.size) { s with heap := s.heap.push (itObj b l) }) : wpAny (model prog w) A (pyIter (.ref l)) Q E s := by
  cases b
  · exact wpAny_pyIter_tuple hl h
  · exact wpAny_pyIter_list hl h
theorem IsSq.push {b : Bool} {h : Heap} {l : Addr} {xs : Array Value} (x : IsSq b h l xs) (o : Obj) : IsSq b (h.push o) l xs := x.at fun _ e => Heap.get?_push_of_some _ e
noncomputable abbrev zH1 (b1 : Bool) (h : Heap) (l1 : Addr) : Heap := h.push (itObj b1 l1)
noncomputable abbrev zH2 (b1 b2 : Bool) (h : Heap) (l1 l2 : Addr) : Heap := (zH1 b1 h l1).push (itObj b2 l2)
noncomputable abbrev zH3 (b1 b2 : Bool) (h : Heap) (l1 l2 : Addr) : Heap := (zH2 b1 b2 h l1 l2).push { cls := .type "tuple", data := .seq #[.ref h.objs.size, .ref (zH1 b1 h l1).objs.size] }
noncomputable abbrev zH4 (b1 b2 : Bool) (h : Heap) (l1 l2 : Addr) : Heap := (zH3 b1 b2 h l1 l2).push { cls := .type "tuple", data := .seq #[.none, .none] }
noncomputable abbrev zH5 (b1 b2 : Bool) (h : Heap) (l1 l2 : Addr) : Heap := (zH4 b1 b2 h l1 l2).push { cls := .type "zip", data := .fields #[.none, .bool false, .bool false, .ref (zH2 b1 b2 h l1 l2).objs.size, .ref (zH3 b1 b2 h l1 l2).objs.size] }
theorem zip_new (b1 b2 : Bool) (l1 l2 : Addr) (xs ys : Array Value) : Meets (Builtin.«zip.__new__» ⟨[.type "zip", .ref l1, .ref l2], []⟩) (fun _ R s => IsSq b1 s.heap l1 xs ∧ IsSq b2 s.heap l2 ys ∧ R (.ok (.ret (.ref (zH4 b1 b2 s.heap l1 l2).objs.size))) { s with heap := zH5 b1 b2 s.heap l1 l2 }) :=
  .of_wp fun prog w A R s h => by
    obtain ⟨hp, g, d, tk, os⟩ := s; obtain ⟨hl1, hl2, h⟩ := h; have hsub := sub_zip
    have hL1 : IsSq b1 (Shared.heap ⟨hp, g, d, tk, os⟩) l1 xs := hl1
    have hL2 : IsSq b2 (Shared.heap ⟨hp.push (itObj b1 l1), g, d, tk, os⟩) l2 ys := hl2.push _
    wp_walk using pyIter_sq hL1, pyIter_sq hL2
    exact ⟨_, rfl, h⟩
theorem itAt (b : Bool) {h : Heap} {i l : Addr} (e : h.get? i = some (itObj b l)) : IsIt b h i l 0 := by
  cases b
  · exact ⟨_, e, rfl, rfl⟩
  · exact ⟨_, e, rfl, rfl⟩
theorem call_zip {b1 b2 : Bool} {l1 l2 : Addr} {xs ys : Array Value} {Q : Value → Shared → Prop} (hl1 : IsSq b1 s.heap l1 xs) (hl2 : IsSq b2 s.heap l2 ys)
    (h : ∀ h', IsZip h' (s.heap.objs.size + 4) (s.heap.objs.size + 2) (s.heap.objs.size + 3) .none → IsPair h' (s.heap.objs.size + 2) (.ref s.heap.objs.size) (.ref (s.heap.objs.size + 1)) → IsPair h' (s.heap.objs.size + 3) .none .none →
      IsIt b1 h' s.heap.objs.size l1 0 → IsIt b2 h' (s.heap.objs.size + 1) l2 0 → h'.objs.size = s.heap.objs.size + 5 → (∀ c o, s.heap.get? c = some o → h'.get? c = some o) → Q (.ref (s.heap.objs.size + 4)) { s with heap := h' }) :
    wpAny (model prog w) A (call (.type "zip") [.ref l1, .ref l2]) Q E s := by
  refine callType_new F.called_zip (by decide) (F.typeCall_zip_2 _ _) (F.newCall_zip_2 _ _) (fun obj => F.args_object_init_3 obj _ _) F.entry_zip_new (zip_new b1 b2 l1 l2 xs ys) ⟨hl1, hl2, ?_⟩
  have z1 : (zH1 b1 s.heap l1).objs.size = s.heap.objs.size + 1 := Heap.size_push ..
  have z2 : (zH2 b1 b2 s.heap l1 l2).objs.size = s.heap.objs.size + 2 := by rw [Heap.size_push, z1]
  have z3 : (zH3 b1 b2 s.heap l1 l2).objs.size = s.heap.objs.size + 3 := by rw [Heap.size_push, z2]
  have z4 : (zH4 b1 b2 s.heap l1 l2).objs.size = s.heap.objs.size + 4 := by rw [Heap.size_push, z3]
  have z5 : (zH5 b1 b2 s.heap l1 l2).objs.size = s.heap.objs.size + 5 := by rw [Heap.size_push, z4]
  have g5 : (zH5 b1 b2 s.heap l1 l2).get? (zH4 b1 b2 s.heap l1 l2).objs.size = some _ := Heap.get?_push_size _ rfl
  have g4 : (zH5 b1 b2 s.heap l1 l2).get? (zH3 b1 b2 s.heap l1 l2).objs.size = some _ := Heap.get?_push_of_some _ (Heap.get?_push_size _ rfl)
  have g3 : (zH5 b1 b2 s.heap l1 l2).get? (zH2 b1 b2 s.heap l1 l2).objs.size = some _ := Heap.get?_push_of_some _ (Heap.get?_push_of_some _ (Heap.get?_push_size _ rfl))
  have g2 : (zH5 b1 b2 s.heap l1 l2).get? (zH1 b1 s.heap l1).objs.size = some (itObj b2 l2) := Heap.get?_push_of_some _ (Heap.get?_push_of_some _ (Heap.get?_push_of_some _ (Heap.get?_push_size _ (by unfold itObj; rfl))))
  have g1 : (zH5 b1 b2 s.heap l1 l2).get? s.heap.objs.size = some (itObj b1 l1) := Heap.get?_push_of_some _ (Heap.get?_push_of_some _ (Heap.get?_push_of_some _ (Heap.get?_push_of_some _ (Heap.get?_push_size _ (by unfold itObj; rfl)))))
  show _ ∧ _
  rw [z2, z3, z4] at g5; rw [z1, z2] at g3; rw [z3] at g4; rw [z1] at g2; rw [z4]
  exact ⟨⟨_, g5, rfl⟩, h _ g5 g3 g4 (itAt b1 g1) (itAt b2 g2) z5 fun c o q => Heap.get?_push_of_some _ (Heap.get?_push_of_some _ (Heap.get?_push_of_some _ (Heap.get?_push_of_some _ (Heap.get?_push_of_some _ q))))⟩
end
end L3

end
section
namespace L3
open PySem PySem.Spec PyProof.Rows L2
noncomputable def Sq (b : Bool) (K : PySem.W.Frag) (H : Hp) (a : Addr) (xs : List V) : Prop := if b = true then SqL K H a xs else SqT K H a xs
theorem Sq.real {b : Bool} {X : Cx} {pins : List (Addr × Obj)} {σ : L2.St} {H : Hp} {s : Shared} {a : Addr} {xs : List V} (I : Inv X pins σ H s) (h : Sq b X.K H a xs) : ∃ its : List Value, Vals xs its ∧ IsSq b s.heap a its.toArray := by
  cases b
  · obtain ⟨its, r, p, _⟩ := I.tuple (show SqT X.K H a xs from h); exact ⟨its, r, p⟩
  · obtain ⟨its, r, p, _⟩ := I.list (show SqL X.K H a xs from h); exact ⟨its, r, p.isList⟩
theorem Sq.inj {b : Bool} {X : Cx} {pins : List (Addr × Obj)} {σ : L2.St} {H : Hp} {s : Shared} {a : Addr} {xs ys : List V} (I : Inv X pins σ H s) (h : Sq b X.K H a xs) (h' : Sq b X.K H a ys) : xs = ys := by
  cases b
  · exact I.tuple_inj h h'
  · exact I.list_inj h h'
noncomputable def Itz (K : PySem.W.Frag) (b1 b2 : Bool) (a1 a2 : Addr) : It :=
  ⟨fun i H => ∃ xs ys x y, Sq b1 K H a1 xs ∧ Sq b2 K H a2 ys ∧ xs[i]? = some x ∧ ys[i]? = some y,
   fun i H v H' => ∃ p x y, H p = none ∧ v = .ref p ∧ H' = upd H p (.tup [x, y]) ∧ (∀ xs, Sq b1 K H a1 xs → xs[i]? = some x) ∧ ∀ ys, Sq b2 K H a2 ys → ys[i]? = some y,
   fun i H => ∃ xs ys, Sq b1 K H a1 xs ∧ Sq b2 K H a2 ys ∧ (xs.length ≤ i ∨ ys.length ≤ i)⟩
noncomputable def ZipTn (b1 b2 : Bool) (z TI TO i1 i2 l1 l2 : Addr) (i : Nat) (h : Heap) : Prop :=
  IsZip h z TI TO .none ∧ IsPair h TI (.ref i1) (.ref i2) ∧ (∃ a b, IsPair h TO a b) ∧ IsIt b1 h i1 l1 i ∧ IsIt b2 h i2 l2 i
theorem turn_zip {P : Program} {w : World} {K : PySem.W.Frag} {elts : List Expr} {kk : Nat} {tp : Pos} (b1 b2 : Bool) (z TI TO i1 i2 l1 l2 : Addr) (D : ZipApart z TI TO i1 i2 l1 l2) :
    Turn P w K (.Tuple elts kk tp) (Itz K b1 b2 l1 l2) [z, TI, TO, i1, i2] z (ZipTn b1 b2 z TI TO i1 i2 l1 l2) where
  mem := by simp
  obj := fun i h st b hb => by
    obtain ⟨hz, hTI, ⟨a, c, hTO⟩, h1, h2⟩ := st
    have hb' : b = z ∨ b = TI ∨ b = TO ∨ b = i1 ∨ b = i2 := by simpa using hb
    rcases hb' with rfl | rfl | rfl | rfl | rfl
    · exact ⟨_, hz, fun v q => by cases q⟩
    · exact ⟨_, hTI, fun v q => by cases q⟩
    · exact ⟨_, hTO, fun v q => by cases q⟩
    · exact h1.rec
    · exact h2.rec
  keep := fun i h h' st k => by
    obtain ⟨hz, hTI, ⟨a, c, hTO⟩, h1, h2⟩ := st
    exact ⟨k z (by simp) _ hz, k TI (by simp) _ hTI, ⟨a, c, k TO (by simp) _ hTO⟩, h1.at fun o e => k i1 (by simp) o e, h2.at fun o e => k i2 (by simp) o e⟩
  item := by
    intro X hP hw hK hc i pins s σ H E I hf st hg
    subst hP hw hK
    obtain ⟨xs, ys, x, y, q1, q2, hx, hy⟩ := hg
    obtain ⟨us, r1, p1⟩ := q1.real I
    obtain ⟨ts, r2, p2⟩ := q2.real I
    obtain ⟨u, hu, ru⟩ := r1.get hx
    obtain ⟨t, ht, rt⟩ := r2.get hy
    obtain ⟨hz, hTI, ⟨a, c, hTO⟩, h1, h2⟩ := st
    have fz := hf z (by simp)
    have fTI := hf TI (by simp)
    have fTO := hf TO (by simp)
    have f1 := hf i1 (by simp)
    have f2 := hf i2 (by simp)
    refine pyNext_zip D hz hTI hTO h1 h2 p1 p2 (by simpa using hu) (by simpa using ht) fun h' a1 a2 a3 a4 a5 a6 hk => ?_
    have hp : H s.heap.objs.size = none := I.hok.fresh (Nat.le_refl _)
    have inC : ∀ b, b ∈ [z, TO, i1, i2] → FpOk X pins H b := fun b hb => by
      have hb' : b = z ∨ b = TO ∨ b = i1 ∨ b = i2 := by simpa using hb
      rcases hb' with rfl | rfl | rfl | rfl
      · exact fz
      · exact fTO
      · exact f1
      · exact f2
    have hk' : ∀ b o, b ∉ [z, TO, i1, i2] → s.heap.get? b = some o → h'.get? b = some o := fun b o hb e => hk b o (fun q => hb (by simp [q])) (fun q => hb (by simp [q])) (fun q => hb (by simp [q])) (fun q => hb (by simp [q])) e
    have nC : ∀ b v, H b = some v → b ∉ [z, TO, i1, i2] := fun b v e hb => by rw [(inC b hb).1] at e; cases e
    have nP : ∀ b v, H b = some v → b ≠ s.heap.objs.size := fun b v e => ne_of_none e hp
    have I1 : Inv X pins σ (upd H s.heap.objs.size (.tup [x, y])) { s with heap := h' } := by
      refine I.step (g' := s.gens) (t' := s.toks) (d' := s.drawn) (ch := [z, TO, i1, i2]) (fun b hb => ⟨(inC b hb).2.2.2.1, (inC b hb).2.1, (inC b hb).2.2.2.2.1, (inC b hb).2.2.2.2.2⟩) (fun b o _ _ hb e _ => hk' b o hb e) (fun b o _ _ hb e _ => ⟨o.slots, hk' b o hb e⟩)
        (fun b o hb e n => by rw [upd_ne (Nat.ne_of_lt (Heap.lt_size e))]; exact n) (fun b o hb e => ⟨o, hk' b o hb e⟩) (fun b v e => by rw [upd_ne (nP b _ e)]; exact e) (fun b o v e => by rw [upd_ne (nP b _ e)]; exact e) (fun b ps e => ⟨#[], by rw [upd_ne (nP b _ e), e]; simp⟩)
        (fun m hm => ?_) (fun b v e => ?_) I.bare
      · obtain ⟨o, es, ep, ho, rr⟩ := hm
        exact ⟨o, es, ep, hk' _ o (fun hb => (inC _ hb).2.1 rfl) ho, rr⟩
      · by_cases hb : b = s.heap.objs.size
        · subst hb
          rw [upd_same] at e; cases e
          exact ⟨by rw [sizeLine_eq]; show 2 ≤ 16777216; decide, [u, t], .cons ru (.cons rt .nil), ⟨_, a5, rfl, _, rfl⟩⟩
        · rw [upd_ne hb] at e
          refine (I.hok b v e).stay (fun c' v' hc' q => ?_) (fun c' q => by rw [upd_ne (nP c' _ q)]; exact q) fun c' xs' q => by rw [upd_ne (nP c' _ q)]; exact q
          rcases hc' with rfl | hc'
          · exact hk' _ _ (nC _ _ e) q
          · exact hk' _ _ (nC _ _ hc') q
    refine ⟨_, rfl, wpAny_letOwnedTupleGo_zip a1 fun h'' hz'' hs'' => ?_⟩
    have hpz : s.heap.objs.size ≠ z := Nat.ne_of_gt (Heap.lt_size hz)
    have I2 : Inv X pins σ (upd H s.heap.objs.size (.tup [x, y])) { s with heap := h'' } := Inv.turned (s := { s with heap := h' }) (t' := s.toks) I1 (fun b o hb e => hs''.extBut b o hb e) (by rw [upd_ne (Ne.symm hpz)]; exact fz.1) fz.2.1 fz.2.2.2.1 fz.2.2.2.2.1 fz.2.2.2.2.2
    refine ⟨.ref s.heap.objs.size, _, I2, rfl, ⟨_, x, y, hp, rfl, rfl, fun xs' q => by rw [q.inj I q1]; exact hx, fun ys' q => by rw [q.inj I q2]; exact hy⟩,
      ⟨hz'', hs''.extBut _ _ D.TIz (hk _ _ D.TIz D.TITO D.TIi1 D.TIi2 hTI), ⟨_, _, hs''.extBut _ _ D.TOz a2⟩, a3.at fun o e => hs''.extBut _ o D.i1z e, a4.at fun o e => hs''.extBut _ o D.i2z e⟩, fun b hb => ?_⟩
    have lt : b < s.heap.objs.size := by
      have hb' : b = z ∨ b = TI ∨ b = TO ∨ b = i1 ∨ b = i2 := by simpa using hb
      rcases hb' with rfl | rfl | rfl | rfl | rfl
      · exact Heap.lt_size hz
      · exact Heap.lt_size hTI
      · exact Heap.lt_size hTO
      · exact h1.lt
      · exact h2.lt
    rw [upd_ne (Nat.ne_of_lt lt)]
    exact (hf b hb).1
  done := by
    intro X hP hw hK hc i pins s σ H E I hf st hg
    subst hP hw hK
    obtain ⟨xs, ys, q1, q2, hl⟩ := hg
    obtain ⟨us, r1, p1⟩ := q1.real I
    obtain ⟨ts, r2, p2⟩ := q2.real I
    have l1 := r1.length
    have l2 := r2.length
    obtain ⟨hz, hTI, ⟨a, c, hTO⟩, h1, h2⟩ := st
    have inC : ∀ b, b ∈ [z, TO, i1, i2] → FpOk X pins H b := fun b hb => hf b (by
      have hb' : b = z ∨ b = TO ∨ b = i1 ∨ b = i2 := by simpa using hb
      rcases hb' with rfl | rfl | rfl | rfl <;> simp)
    refine pyNext_zipEnd (I.ok.hd hc) D hz hTI hTO h1 h2 p1 p2 (by
      rcases hl with z | z
      · exact .inl (by simp; omega)
      · exact .inr (by simp; omega)) fun h' hk => ⟨rfl, ?_⟩
    have hk' : ∀ b o, b ∉ [z, TO, i1, i2] → s.heap.get? b = some o → h'.get? b = some o := fun b o hb e => hk b o (fun q => hb (by simp [q])) (fun q => hb (by simp [q])) (fun q => hb (by simp [q])) (fun q => hb (by simp [q])) e
    have nC : ∀ b v, H b = some v → b ∉ [z, TO, i1, i2] := fun b v e hb => by rw [(inC b hb).1] at e; cases e
    refine I.step (g' := s.gens) (t' := s.toks) (d' := s.drawn) (ch := [z, TO, i1, i2]) (fun b hb => ⟨(inC b hb).2.2.2.1, (inC b hb).2.1, (inC b hb).2.2.2.2.1, (inC b hb).2.2.2.2.2⟩) (fun b o _ _ hb e _ => hk' b o hb e) (fun b o _ _ hb e _ => ⟨o.slots, hk' b o hb e⟩)
      (fun b o hb e n => n) (fun b o hb e => ⟨o, hk' b o hb e⟩) (fun b v e => e) (fun b o v e => e) (fun b ps e => ⟨#[], by rw [e]; simp⟩) (fun m hm => ?_) (fun b v e => ?_) I.bare
    · obtain ⟨o, es, ep, ho, rr⟩ := hm
      exact ⟨o, es, ep, hk' _ o (fun hb => (inC _ hb).2.1 rfl) ho, rr⟩
    · refine (I.hok b v e).stay (fun c' v' hc' q => ?_) (fun c' q => q) fun c' xs' q => q
      rcases hc' with rfl | hc'
      · exact hk' _ _ (nC _ _ e) q
      · exact hk' _ _ (nC _ _ hc') q
  self := fun _ _ _ _ _ st h => wpAny_pyIter_zip st.1 h
section
variable {X : Cx} {ca : Nat → Addr} {e1 e2 : Expr} {m1 m2 : ME} {p pos tp : Pos} {elts : List Expr} {kk : Nat}
theorem pi_zip {ta : TA} (hg : Gl X "zip") (hm : X.mg "zip" = none) (ha : PA X [e1, e2] ta) (hs : starEach [e1, e2] X.env = [(false, eval e1 X.env), (false, eval e2 X.env)]) (hs2 : starEach [e2] X.env = [(false, eval e2 X.env)]) :
    PI X (.Tuple elts kk tp) (.Call (.Name "zip" p) [e1, e2] [] pos) (fun σ H R => ta σ H fun vs H1 => ∃ b1 b2 a1 a2 xs ys, vs = [.ref a1, .ref a2] ∧ Sq b1 X.K H1 a1 xs ∧ Sq b2 X.K H1 a2 ys ∧ R (Itz X.K b1 b2 a1 a2) H1) := by
  intro pins s σ H R I h
  refine Call_ (ld_blt I hg hm boot_zip (PyProof.Rows.callWith_type1 (thn (ha pos pins s σ H _ I h) fun us s1 ⟨vs, H1, I1, r1, q1⟩ => ?_) (by rw [hs, hs2]) (by rw [hs2]; rfl)))
  obtain ⟨b1, b2, a1, a2, xs, ys, rfl, q1, q2, q⟩ := q1
  cases r1 with
  | cons ru rr =>
    cases rr with
    | cons rt rr =>
      cases rr
      cases ru
      cases rt
      obtain ⟨its1, v1, p1⟩ := q1.real I1
      obtain ⟨its2, v2, p2⟩ := q2.real I1
      refine call_zip p1 p2 fun h' hz hTI hTO hi1 hi2 hsz hk => wpAny_pyIter_zip hz ?_
      have I2 : Inv X pins σ H1 { s1 with heap := h' } := I1.kept (t' := s1.toks) hk
      refine ⟨s1.heap.objs.size + 4, _, _, _, H1, rfl, I2, turn_zip b1 b2 _ (s1.heap.objs.size + 2) (s1.heap.objs.size + 3) s1.heap.objs.size (s1.heap.objs.size + 1) a1 a2 (PyProof.Rows.zipApart_new p1.lt p2.lt), ⟨hz, hTI, ⟨_, _, hTO⟩, hi1, hi2⟩, fun b hb => ?_, q⟩
      have hb' : b = s1.heap.objs.size + 4 ∨ b = s1.heap.objs.size + 2 ∨ b = s1.heap.objs.size + 3 ∨ b = s1.heap.objs.size ∨ b = s1.heap.objs.size + 1 := by simpa using hb
      have hle : s1.heap.objs.size ≤ b := by rcases hb' with h | h | h | h | h <;> rw [h] <;> first | exact Nat.le_refl _ | exact Nat.le_add_right _ _
      exact I1.fpOk hle (I1.hok.fresh hle)
theorem seqOf_sq {K : PySem.W.Frag} {μ : List Addr} {H : Hp} {g : G} {v : V} {d : D} {b : Bool} {ds : List D} (r : GRep K ca μ H g) (q : Den K μ H v d) (h : seqOf g d = some (b, ds)) : ∃ a vs, v = .ref a ∧ Sq b K H a vs ∧ Dens K μ H vs ds := by
  cases q with
  | @tup a vs es ht hs => cases h; exact ⟨a, vs, rfl, ht, hs⟩
  | @fl a vs es ht hs => cases h; exact ⟨a, vs, rfl, ht.sq, hs⟩
  | @ref n a hn =>
    unfold seqOf at h
    dsimp only at h
    cases hg : g[n]? with
    | none => rw [hg] at h; cases h
    | some o =>
      rw [hg] at h
      obtain ⟨a', ha', ob⟩ := r.addr hg
      rw [hn] at ha'; cases ha'
      cases o with
      | lst es => cases h; obtain ⟨vs, hH, q⟩ := ob; exact ⟨a, vs, rfl, SqL.of hH, q⟩
      | _ => cases h
  | _ => cases h
theorem seqOf_kind {K : PySem.W.Frag} {μ : List Addr} {H : Hp} {g g' : G} {μ' : List Addr} {H' : Hp} {d : D} {v : V} {b b' : Bool} {ds ds' : List D} (h : seqOf g d = some (b, ds)) (h' : seqOf g' d = some (b', ds')) : b = b' := by
  unfold seqOf at h h'
  cases d with
  | tup es => cases h; cases h'; rfl
  | fl es => cases h; cases h'; rfl
  | ref n =>
    dsimp only at h h'
    have k1 : b = true := by
      cases hg : g[n]? with
      | none => rw [hg] at h; cases h
      | some o => rw [hg] at h; cases o <;> cases h <;> rfl
    have k2 : b' = true := by
      cases hg : g'[n]? with
      | none => rw [hg] at h'; cases h'
      | some o => rw [hg] at h'; cases o <;> cases h' <;> rfl
    rw [k1, k2]
  | _ => cases h
theorem sim_zip {K : PySem.W.Frag} {μ : List Addr} {H : Hp} {g : G} {v1 v2 : V} {d1 d2 : D} {b1 b2 : Bool} {xs ys : List D} {t : Nat} (q1 : Den K μ H v1 d1) (q2 : Den K μ H v2 d2) (h1 : seqOf g d1 = some (b1, xs)) (h2 : seqOf g d2 = some (b2, ys)) {a1 a2 : Addr} (e1 : v1 = .ref a1) (e2 : v2 = .ref a2) :
    Sim K ca μ H ⟨fun g i => (match seqOf g d1, seqOf g d2 with
    | some (_, xs), some (_, ys) => (match xs[i]?, ys[i]? with
      | some x, some y => some (some (.tup [x, y]))
      | _, _ => some none)
    | _, _ => none), t⟩ (Itz K b1 b2 a1 a2) := by
  intro i H1 μ1 g1 ex r
  dsimp only
  cases k1 : seqOf g1 d1 with
  | none => trivial
  | some p1 =>
    obtain ⟨c1, xs1⟩ := p1
    cases k2 : seqOf g1 d2 with
    | none => trivial
    | some p2 =>
      obtain ⟨c2, ys1⟩ := p2
      have f1 := seqOf_kind (K := K) (μ := μ) (H := H) (μ' := μ) (H' := H) (v := v1) h1 k1
      have f2 := seqOf_kind (K := K) (μ := μ) (H := H) (μ' := μ) (H' := H) (v := v1) h2 k2
      subst f1 f2
      obtain ⟨z1, vs, w1, s1, d1s⟩ := seqOf_sq r (q1.mono ex) k1
      obtain ⟨z2, ws, w2, s2, d2s⟩ := seqOf_sq r (q2.mono ex) k2
      rw [e1] at w1; cases w1
      rw [e2] at w2; cases w2
      dsimp only
      cases hx : xs1[i]? with
      | none =>
        refine ⟨vs, ws, s1, s2, .inl ?_⟩
        rw [d1s.length]; exact List.getElem?_eq_none_iff.mp hx
      | some x =>
        cases hy : ys1[i]? with
        | none =>
          refine ⟨vs, ws, s1, s2, .inr ?_⟩
          rw [d2s.length]; exact List.getElem?_eq_none_iff.mp hy
        | some y =>
          obtain ⟨vx, hvx, qx⟩ := d1s.get hx
          obtain ⟨vy, hvy, qy⟩ := d2s.get hy
          refine ⟨⟨vs, ws, vx, vy, s1, s2, hvx, hvy⟩, fun v H' yl => ?_⟩
          obtain ⟨pp, x', y', hp, rfl, rfl, u1, u2⟩ := yl
          have := u1 vs s1
          rw [hvx] at this; cases this
          have := u2 ws s2
          rw [hvy] at this; cases this
          exact ⟨ext_new hp, r.new hp, .tup (.of upd_same) (.cons (qx.mono (ext_new hp)) (.cons (qy.mono (ext_new hp)) .nil))⟩
theorem r_zip (hm : X.mg "zip" = none) (h1 : PE3 ca X e1 m1) (h2 : PE3 ca X e2 m2) (hg : Gl X "zip" := by rfl) (hs : starEach [e1, e2] X.env = [(false, eval e1 X.env), (false, eval e2 X.env)] := by rfl) (hs2 : starEach [e2] X.env = [(false, eval e2 X.env)] := by rfl)
    (hs3 : starEach [e1, e2] X.env = (false, eval e1 X.env) :: starEach [e2] X.env := by rfl) : PI3 ca X (.Tuple elts kk tp) (.Call (.Name "zip" p) [e1, e2] [] pos) (mItZip m1 m2) :=
  fun pn Φ => conseqI (pi_zip (X := xat X ca pn Φ) hg hm (r_cons h1 (r_cons h2 r_nil hs2) hs3 pn Φ) hs hs2) fun σ H R hQ => by
    obtain ⟨σ3, g, μ, Rp, q⟩ := hQ
    refine ⟨σ3, g, μ, Rp, ?_⟩
    unfold mItZip at q
    unfold mCons mNil
    cases hm1 : m1 σ3 g with
    | raise _ _ => rw [hm1] at q; exact q
    | stuck => rw [hm1] at q; exact q.elim
    | ok d1 g1 =>
      rw [hm1, Res.bind_ok] at q
      rw [Res.bind_ok]
      cases hm2 : m2 σ3 g1 with
      | raise _ _ => rw [hm2] at q; exact q
      | stuck => rw [hm2] at q; exact q.elim
      | ok d2 g2 =>
        rw [hm2, Res.bind_ok] at q
        rw [Res.bind_ok, Res.bind_ok, Res.bind_ok]
        intro vs H1 μ1 ex r1 q1
        cases q1 with
        | @cons v1 _ _ _ n1 q1 =>
          cases q1 with
          | @cons v2 _ _ _ n2 q1 =>
            cases q1
            unfold srcZip at q
            cases k1 : seqOf g2 d1 with
            | none => rw [k1] at q; exact q.elim
            | some p1 =>
              obtain ⟨b1, xs⟩ := p1
              cases k2 : seqOf g2 d2 with
              | none => rw [k1, k2] at q; exact q.elim
              | some p2 =>
                obtain ⟨b2, ys⟩ := p2
                rw [k1, k2] at q
                obtain ⟨a1, us, rfl, s1, _⟩ := seqOf_sq r1 n1 k1
                obtain ⟨a2, ts, rfl, s2, _⟩ := seqOf_sq r1 n2 k2
                exact ⟨b1, b2, a1, a2, us, ts, rfl, s1, s2, q _ H1 μ1 ex r1 (sim_zip n1 n2 k1 k2 rfl rfl)⟩
end
end L3

end
section
namespace L3
open PySem PySem.Spec PyProof.Rows L2
theorem kit_tab (K : PySem.W.Frag) (t c : Ty) : PySem.W.kitOne K (.type t.name) (.type c.name) = some (tyLe t c) := by
  cases t <;> cases c <;> kernel_rfl
section
variable {X : Cx} {ca : Nat → Addr} {a b c e : Expr} {ma mb mc me : ME} {pos p p2 : Pos} {k : Nat}
theorem call_isin (c : Ty) : CallR X (.builtin "isinstance") (fun xs H Q => ∃ x g μ d t, xs = [x, .ty c.name] ∧ GRep X.K ca μ H g ∧ Den X.K μ H x d ∧ tyOf g d = some t ∧ Q (.bl (tyLe t c)) H) := by
  intro pins s σ H xs us Q I rv h
  obtain ⟨x, g, μ, d, t, rfl, r, q, ht, qq⟩ := h
  obtain ⟨u, u2, rfl, ru, ru2⟩ := rv.two
  cases ru2
  have fin : ∀ tk, EP X pins σ Q (.bool (tyLe t c)) { s with toks := tk } := fun tk => ⟨.bl _, H, I.tok tk, rfl, qq⟩
  cases q with
  | non => cases ht; exact isinst_ok I ru .non (kit_tab X.K .non c) fin
  | bl y => cases ht; exact isinst_ok I ru (.bl y) (kit_tab X.K .bool c) fin
  | int y => cases ht; exact isinst_ok I ru (.int y) (kit_tab X.K .int c) fin
  | str y => cases ht; exact isinst_ok I ru (.str y) (kit_tab X.K .str c) fin
  | @tup a vs ds hq hs =>
    cases ht
    cases ru
    obtain ⟨its, _, ⟨o, h1, h2, _⟩, _⟩ := I.tuple hq
    exact PySem.W.kia_one PySem.W.kitx_tuple I.kIn ⟨o, h1, h2⟩ (kit_tab X.K .tuple c) (fun z => nomatch z) fin
  | @fl a vs ds hq hs =>
    cases ht
    cases ru
    obtain ⟨its, _, p, _⟩ := I.list hq.sq
    obtain ⟨o, h1, h2, _⟩ := p.isList
    exact PySem.W.kia_one PySem.W.kitx_list I.kIn ⟨o, h1, h2⟩ (kit_tab X.K .list c) (fun z => nomatch z) fin
  | @ref n a hn =>
    unfold tyOf at ht
    dsimp only at ht
    cases hg : g[n]? with
    | none => rw [hg] at ht; cases ht
    | some o =>
      rw [hg] at ht
      obtain ⟨a', ha', ob⟩ := r.addr hg
      rw [hn] at ha'; cases ha'
      cases o with
      | lst ds => cases ht; obtain ⟨vs, hH, _⟩ := ob; exact isinst_ok I ru (.lst hH) (kit_tab X.K .list c) fin
      | dct ks => cases ht; obtain ⟨kv, hH, _⟩ := ob; exact isinst_ok I ru (.dK hH) (kit_tab X.K .dict c) fin
      | ins _ _ => cases ht
      | exc _ => cases ht
theorem r_isin {x : Str} (c : Ty) (hi : X.mg "isinstance" = none) (hm : X.mg x = none) (hv : bootBuiltins x = some (.type c.name)) (he : PE3 ca X e me) (hgi : Gl X "isinstance" := by rfl) (hg : Gl X x := by rfl) (hnm : x ≠ "__name__" := by decide) (hdb : (x == ("__debug__" : Str)) = false := by decide)
    (hs : starEach [e, .Name x p2] X.env = (false, eval e X.env) :: starEach [.Name x p2] X.env := by rfl) (hs2 : starEach [.Name x p2] X.env = (false, eval (.Name x p2) X.env) :: starEach [] X.env := by rfl) (hpl : (backTo pos (starEach [.Name x p2] X.env)).any (·.1) = false := by rfl) :
    PE3 ca X (.Call (.Name "isinstance" p) [e, .Name x p2] [] pos) (mOp1 (pIsin c) me) :=
  fun pn Φ => conseq (pe_callB (X := xat X ca pn Φ) (call_isin (ca := ca) c) hgi hi boot_isinstance (pa_cons (X := xat X ca pn Φ) (he pn Φ) (pa_cons (X := xat X ca pn Φ) (pe_bltn (X := xat X ca pn Φ) (v := .ty c.name) hg hm hv rfl hnm hdb) pa_nil hs2) hs) (by decide) (by decide) hs hpl) fun σ H Q ⟨σ3, g, μ, R, q⟩ =>
    up_mono (bindE R q) fun y H1 hQ => by
      obtain ⟨d, g1, μ1, e1, R1, q1, p1⟩ := hQ
      unfold pIsin at p1
      cases ht : tyOf g1 d with
      | none => rw [ht] at p1; exact p1.elim
      | some t => rw [ht] at p1; exact ⟨y, g1, μ1, d, t, rfl, R1.g, q1, ht, p1 _ H1 μ1 .refl R1.g (.bl _)⟩
theorem allB_get {K : PySem.W.Frag} {μ : List Addr} {H : Hp} : ∀ {vs : List V} {ds : List D} {us : List Value} {b : Bool}, Dens K μ H vs ds → Vals vs us → allB ds = some b → ∃ bs : List Bool, us = bs.map Value.bool ∧ bs.all id = b
  | _, _, _, b, .nil, .nil, h => by cases h; exact ⟨[], rfl, rfl⟩
  | _, _, _, b, @Dens.cons _ _ _ _ _ _ ds q qs, .cons r rs, h => by
    cases q with
    | bl c =>
      unfold allB at h
      cases hd : allB ds with
      | none => rw [hd] at h; cases h
      | some d =>
        rw [hd] at h
        cases h
        obtain ⟨bs, h1, h2⟩ := allB_get qs rs hd
        cases r
        exact ⟨c :: bs, by rw [h1]; rfl, by simp [h2]⟩
    | _ => cases h
theorem all_range (bs : List Bool) : ((List.range bs.length).all fun i => (bs[i]?).getD true) = bs.all id := by
  rw [Bool.eq_iff_iff, List.all_eq_true, List.all_eq_true]
  constructor
  · intro h b hb
    obtain ⟨i, hi, rfl⟩ := List.getElem_of_mem hb
    have := h i (List.mem_range.mpr hi)
    simpa [hi] using this
  · intro h i hi
    have hi' := List.mem_range.mp hi
    have := h bs[i] (List.getElem_mem hi')
    simpa [hi'] using this
theorem call_allD (hc : X.calm = true) : CallR X (.builtin "all") (fun xs H Q => ∃ p vs ds μ b, xs = [.ref p] ∧ SqL X.K H p vs ∧ Dens X.K μ H vs ds ∧ allB ds = some b ∧ Q (.bl b) H) := by
  intro pins s σ H xs us Q I rv h
  obtain ⟨l, vs, ds, μ, b, rfl, hq, q, hb, qq⟩ := h
  obtain ⟨u, rfl, ru⟩ := rv.one
  cases ru
  obtain ⟨its, rs, pl, _⟩ := I.list hq
  obtain ⟨bs, rfl, e2⟩ := allB_get q rs hb
  have hl := pl.isList
  have hlt : l < s.heap.objs.size := by obtain ⟨_, e, _⟩ := hl; exact Heap.lt_size e
  refine call_all_walk (wpAny_pyIter_list hl ⟨s.heap.objs.size, [s.heap.objs.size, l], [s.heap.objs.size], _, _, _, fun i => (bs[i]?).getD true, rfl, Walks.list (A := X.A.in1) (show X.A.in1.handled = none from I.ok.hd hc) _ l (Nat.ne_of_lt hlt) _, ⟨⟨_, Heap.get?_push_size _ rfl, rfl, rfl⟩, hl.push _⟩, fun i v s' Q' E' hP hQ => ?_, fun h' tk hk => ?_⟩)
  · have hP : (bs.map Value.bool).toArray[i]? = some v := hP
    rw [List.getElem?_toArray, List.getElem?_map] at hP
    cases hi : bs[i]? with
    | none => rw [hi] at hP; cases hP
    | some c =>
      rw [hi] at hP
      cases hP
      simp only [hi, Option.getD_some] at hQ
      exact wpAny_truthy_bool hQ
  · have kept : ∀ c o, s.heap.get? c = some o → h'.get? c = some o := fun c o e => hk c o (fun hm => by rw [List.mem_singleton.mp hm] at e; exact Nat.lt_irrefl _ (Heap.lt_size e)) (Heap.get?_push_of_some _ e)
    have ea : ((List.range (bs.map Value.bool).toArray.size).all fun i => (bs[i]?).getD true) = b := by
      rw [List.size_toArray, List.length_map, all_range, e2]
    rw [ea]
    exact ⟨.bl b, H, I.kept kept, rfl, qq⟩
theorem r_all (hc : X.calm = true) (hm : X.mg "all" = none) (he : PE3 ca X e me) (hg : Gl X "all" := by rfl) (hs : starEach [e] X.env = [(false, eval e X.env)] := by rfl) (hpl : (backTo pos (starEach [] X.env)).any (·.1) = false := by rfl) :
    PE3 ca X (.Call (.Name "all" p) [e] [] pos) (mOp1 pAll me) :=
  r_blt (r := fun xs H Q => ∃ p vs ds μ b, xs = [V.ref p] ∧ SqL X.K H p vs ∧ Dens X.K μ H vs ds ∧ allB ds = some b ∧ Q (.bl b) H) (fun pn Φ => call_allD (X := xat X ca pn Φ) hc) hm boot_all (fun Φ σ H μ g y d Q r q pp => by
    unfold pAll at pp
    cases q with
    | @ref n t hn =>
      dsimp only at pp
      cases hgn : g[n]? with
      | none => rw [hgn] at pp; exact pp.elim
      | some ob =>
        rw [hgn] at pp
        obtain ⟨t', ht', orp⟩ := r.addr hgn
        rw [hn] at ht'; cases ht'
        cases ob with
        | lst ds =>
          obtain ⟨vs, hH, q⟩ := orp
          dsimp only at pp
          cases hb : allB ds with
          | none => rw [hb] at pp; exact pp.elim
          | some b => rw [hb] at pp; exact ⟨t, vs, ds, μ, b, rfl, .of hH, q, hb, pp _ H μ .refl r (.bl _)⟩
        | _ => exact pp.elim
    | _ => exact pp.elim) he hg (by decide) (by decide) hs hpl
theorem chain_up {K : PySem.W.Frag} {Φ : XS} {r r' : R2} {f f' : D → D → G → Res D} (h1 : Prim2 K ca r f) (h2 : Prim2 K ca r' f') (σ : L2.St) (H : Hp) (Q : VK) (h : up K ca Φ (mChain f f' ma mb mc) σ H Q) : tChain r r' (up K ca Φ ma) (up K ca Φ mb) (up K ca Φ mc) σ H Q := by
  obtain ⟨σ3, g, μ, R, p⟩ := h
  refine up_mono (bindE R p) fun x H1 ⟨dx, g1, μ1, e1, R1, q1, p1⟩ => ?_
  refine up_mono (bindE R1 p1) fun y H2 ⟨dy, g2, μ2, e2, R2, q2, p2⟩ => ?_
  refine h1 Φ σ H2 μ2 g2 x y dx dy _ R2.g (q1.mono e2) q2 ?_
  cases hf : f dx dy g2 with
  | raise _ _ => rw [hf] at p2; exact p2
  | stuck => rw [hf] at p2; exact p2.elim
  | ok z g3 =>
    rw [hf, Res.bind_ok] at p2
    intro v H3 μ3 e3 r3 q3
    cases q3 with
    | bl t =>
      refine ⟨t, rfl, ?_⟩
      cases t with
      | true =>
        rw [if_pos rfl]
        dsimp only at p2
        refine up_mono (bindE (R2.go e3 r3) (p2.go e3)) fun w' H4 ⟨dw, g4, μ4, e4, R4, q4, p4⟩ => ?_
        exact h2 Φ σ H4 μ4 g4 y w' dy dw Q R4.g ((q2.mono e3).mono e4) q4 p4
      | false =>
        rw [if_neg Bool.false_ne_true]
        exact p2 _ H3 μ3 e3 r3 (.bl _)
    | _ => exact p2.elim
theorem r_leLt (ha : PE3 ca X a ma) (hb : PE3 ca X b mb) (hc : PE3 ca X c mc) (hm : lastMarks [.LtE, .Lt] [b, c] = false := by with_unfolding_all rfl) : PE3 ca X (.Compare a [.LtE, .Lt] [b, c] pos) (mChain pLe pLt ma mb mc) :=
  fun pn Φ => conseq (pe_chain (X := xat X ca pn Φ) op_le op_lt (ha pn Φ) (hb pn Φ) (hc pn Φ) hm) (chain_up (prim_cmp _) (prim_cmp _))
theorem flat_V {K : PySem.W.Frag} {μ : List Addr} {H : Hp} {v : V} {d : D} (q : Den K μ H v d) (h : flatD d = true) : flatV v = true := by cases q <;> first | rfl | cases h
theorem flats_V {K : PySem.W.Frag} {μ : List Addr} {H : Hp} : ∀ {vs : List V} {ds : List D}, Dens K μ H vs ds → ds.all flatD = true → vs.all flatV = true
  | _, _, .nil, _ => rfl
  | _, _, .cons q qs, h => by
    rw [List.all_cons, Bool.and_eq_true] at h ⊢
    exact ⟨flat_V q h.1, flats_V qs h.2⟩
theorem eqF_V {K : PySem.W.Frag} {μ : List Addr} {H : Hp} {v w : V} {d e : D} (q : Den K μ H v d) (q' : Den K μ H w e) (h : flatD d = true) (h' : flatD e = true) : eqV v w = eqF d e := by
  cases q <;> cases q' <;> first | rfl | cases h | cases h'
theorem any_V {K : PySem.W.Frag} {μ : List Addr} {H : Hp} {w : V} {e : D} (q' : Den K μ H w e) (h' : flatD e = true) : ∀ {vs : List V} {ds : List D}, Dens K μ H vs ds → ds.all flatD = true → (vs.any fun y => eqV y w) = ds.any fun d => eqF d e
  | _, _, .nil, _ => rfl
  | _, _, .cons q qs, h => by
    rw [List.all_cons, Bool.and_eq_true] at h
    rw [List.any_cons, List.any_cons, eqF_V q q' h.1 h', any_V q' h' qs h.2]
theorem prim_in {K : PySem.W.Frag} (neg : Bool) : Prim2 K ca (rIn K neg) (pIn neg) := by
  intro Φ σ H μ g x y dx dy Q r qx qy p
  unfold pIn at p
  cases hs : seqOf g dy with
  | none => rw [hs] at p; exact p.elim
  | some pr =>
    obtain ⟨bb, ds⟩ := pr
    rw [hs] at p
    dsimp only at p
    by_cases z : flatD dx = true ∧ ds.all flatD = true
    · rw [if_pos z] at p
      obtain ⟨a, vs, rfl, sq, qs⟩ := seqOf_sq r qy hs
      refine ⟨a, vs, rfl, ?_, flat_V qx z.1, flats_V qs z.2, p _ H μ .refl r ?_⟩
      · cases bb
        · exact .inr sq
        · exact .inl sq
      · unfold inV
        rw [any_V qx z.1 qs z.2]
        cases neg <;> exact .bl _
    · rw [if_neg z] at p; exact p.elim
theorem r_in (ha : PE3 ca X a ma) (hb : PE3 ca X b mb) (hm : behindInMarks .In b = false := by rfl) : PE3 ca X (.Compare a [.In] [b] pos) (mOp2 (pIn false) ma mb) := r_cmp (fun _ _ => op_in_seq) (prim_in false) ha hb hm
end
end L3

end
section
namespace L3
open PySem PySem.Spec PyProof.Rows L2
section
variable {prog : Program} {w : World} {A : Around} {E : Value → Shared → Prop} {s : Shared}
end
theorem sIx_D (n d : Nat) (o : Option Int) : HT.sIx n d o = sIxD n d o := by cases o <;> rfl
theorem Dens.cut {K : PySem.W.Frag} {μ : List Addr} {H : Hp} {vs : List V} {ds : List D} (lo hi : Option Int) (h : Dens K μ H vs ds) : Dens K μ H (cutV vs lo hi) (cutD ds lo hi) := by
  unfold cutV cutD
  rw [sIx_D, sIx_D, h.length]
  exact (h.drop _).take _
section
variable {X : Cx} {ca : Nat → Addr} {e : Expr} {me : ME} {lo hi : Option Expr} {ml mh : MO} {pos p2 : Pos}
noncomputable def upO (K : PySem.W.Frag) (ca : Nat → Addr) (Φ : XS) (m : MO) : TO := fun σ H Q => ∃ σ3 g μ, Rep K ca μ σ3 g σ H ∧ match m σ3 g with
  | .ok o g' => ∀ H' μ', Ext K μ H μ' H' → GRep K ca μ' H' g' → Q o H'
  | .raise x g' => RaP K ca Φ σ H μ x g'
  | .stuck => False
noncomputable def PO3 (ca : Nat → Addr) (X : Cx) (e : Option Expr) (m : MO) : Prop := ∀ pn Φ, PO (xat X ca pn Φ) e (upO X.K ca Φ m)
theorem r_noPart : PO3 ca X none mNoPart := fun pn Φ pins s σ H Q I ⟨_, _, μ, R, p⟩ => po_none (X := xat X ca pn Φ) pins s σ H Q I (p H μ .refl R.g)
theorem r_part (he : PE3 ca X e me) : PO3 ca X (some e) (mPart me) := fun pn Φ pins s σ H Q I hQ => by
  obtain ⟨σ3, g, μ, R, p⟩ := hQ
  refine po_some (X := xat X ca pn Φ) (he pn Φ) pins s σ H Q I ⟨σ3, g, μ, R, ?_⟩
  unfold mPart at p
  cases hm : me σ3 g with
  | raise _ _ => rw [hm] at p; exact p
  | stuck => rw [hm] at p; exact p
  | ok d g1 =>
    rw [hm, Res.bind_ok] at p
    intro v H1 μ1 e1 r1 q1
    cases q1 with
    | int i => exact ⟨i, rfl, p H1 μ1 e1 r1⟩
    | _ => exact p.elim
theorem r_slice (he : PE3 ca X e me) (hl : PO3 ca X lo ml) (hh : PO3 ca X hi mh) : PE3 ca X (.Subscript e (.Slice lo hi none p2) pos) (mSlice me ml mh) := fun pn Φ =>
  conseq (pe_slice (X := xat X ca pn Φ) sl_list (he pn Φ) (hl pn Φ) (hh pn Φ)) fun σ H Q ⟨σ3, g, μ, R, p⟩ => up_mono (bindE R p) fun x H1 hQ => by
    obtain ⟨d, g1, μ1, e1, R1, q1, p1⟩ := hQ
    refine ⟨σ3, g1, μ1, R1, ?_⟩
    cases hm : ml σ3 g1 with
    | raise _ _ => rw [hm] at p1; exact p1
    | stuck => rw [hm] at p1; exact p1
    | ok l g2 =>
      rw [hm, Res.bind_ok] at p1
      intro H2 μ2 e2 r2
      refine ⟨σ3, g2, μ2, R1.go e2 r2, ?_⟩
      cases hm2 : mh σ3 g2 with
      | raise _ _ => rw [hm2] at p1; exact RaP.go e2 p1
      | stuck => rw [hm2] at p1; exact p1
      | ok u g3 =>
        rw [hm2, Res.bind_ok] at p1
        intro H3 μ3 e3 r3
        have p3 := Post.go (e2.trans e3) p1
        have q3 := (q1.mono e2).mono e3
        unfold pSlice at p3
        cases q3 with
        | @fl a vs ds ht hs =>
          refine ⟨a, vs, rfl, ht.sq, fun t ht' => p3 _ _ (μ3 ++ [t]) (ext_push ht') (r3.push ht' ⟨_, upd_same, (hs.cut l u).mono (ext_push ht')⟩) (.ref ?_)⟩
          rw [← r3.len]; simp
        | @ref n a hn =>
          dsimp only at p3
          cases hg : g3[n]? with
          | none => rw [hg] at p3; exact p3.elim
          | some o =>
            rw [hg] at p3
            obtain ⟨a', ha', ob⟩ := r3.addr hg
            rw [hn] at ha'; cases ha'
            cases o with
            | lst ds =>
              obtain ⟨vs, hH, hs⟩ := ob
              refine ⟨a, vs, rfl, .of hH, fun t ht' => p3 _ _ (μ3 ++ [t]) (ext_push ht') (r3.push ht' ⟨_, upd_same, (hs.cut l u).mono (ext_push ht')⟩) (.ref ?_)⟩
              rw [← r3.len]; simp
            | _ => exact p3.elim
        | _ => exact p3.elim
end
end L3

end
section
namespace L3
open PySem PySem.Spec PyProof.Rows L2
abbrev bmV : List Value := [.type "ValueError", .type "Exception", .type "BaseException", .type "object"]
structure ExK (K : PySem.W.Frag) (C : Addr) : Prop where
  ga : PySem.W.findIn K (.ref C) "__getattribute__" = some (some (.builtin "BaseException.__getattribute__"))
  gx : PySem.W.findIn K (.ref C) "__getattr__" = some none
  cl : PySem.W.findIn K (.ref C) "__class__" = some (some (.builtin "object.__class__"))
  gt : PySem.W.specialIn K (.builtin "object.__class__") "__get__" = some (some (.builtin "getset_descriptor.__get__"))
  tk : PySem.W.takesIn K (.builtin "object.__class__") = some true
  mr : PySem.W.mroIn K C (.type "object") = some true
  sb : PySem.W.subIn K (.ref C) (.type "BaseException") = some true
  ci : (PySem.W.clsIn K C).isSome = true
section
variable {prog : Program} {w : World} {A : Around} {E : Value → Shared → Prop} {s : Shared} {K : PySem.W.Frag} {C e : Addr} {oe : Obj} {vs : Array Value}
theorem inst_exc {h : Heap} (hx : h.get? e = some oe) (hc : oe.cls = .ref C) (hd : oe.data = .fields vs) (hn : oe.dict = none) : PySem.W.InstAt h e oe C none :=
  ⟨hx, hc, by obtain ⟨c, d, dt, sl⟩ := oe; obtain rfl : dt = _ := hd; rfl, by rw [hn]; trivial⟩
theorem findExc (F : ExK K C) : PySem.W.findObj K C none "__class__" = some (.bind (.builtin "getset_descriptor.__get__") (.builtin "object.__class__")) := by
  obtain ⟨cd, hc⟩ := Option.isSome_iff_exists.mp F.ci
  unfold PySem.W.findObj
  rw [hc, Option.bind_some, F.cl, Option.bind_some]
  simp [F.gt, F.tk]
theorem check_ga {nm : Value} {Q : Unit → Shared → Prop} (X : K.In s.heap) (F : ExK K C) (I : PySem.W.InstAt s.heap e oe C none) (hq : Q () s) : wpAny (model prog w) A (checkBuiltinCall "BaseException.__getattribute__" ⟨[.ref e, nm], []⟩) Q E s := by
  obtain ⟨h, g, d, t, os⟩ := s
  have hk : builtinKind "BaseException.__getattribute__" = some .slot := by decide +kernel
  have hsplit : splitId "BaseException.__getattribute__" = some ("BaseException", "__getattribute__") := by decide +kernel
  have L0 := I.type (M := model prog w)
  have L1 := PySem.W.looks_subIn (M := model prog w) X F.sb
  have ha := PySem.F.args_bexc_ga (.ref e) nm
  simp only [checkBuiltinCall, hk, hsplit]
  unfold isInstance
  refine wpAny_bind (wpAny_bind (L0.at (L1.at ?_)))
  repeat (first | exact hq | wp_step)
theorem exc_class {Q : Option Value → Shared → Prop} (X : K.In s.heap) (F : ExK K C) (I : PySem.W.InstAt s.heap e oe C none) (h : Q (some (.ref C)) { s with toks := s.toks + 1 }) : wpAny (model prog w) A (getAttr? (.ref e) "__class__") Q E s := by
  obtain ⟨hh, g, d, t, os⟩ := s
  have L0 := I.type (M := model prog w)
  have L1 := PySem.W.looks_findIn (M := model prog w) X F.ga
  have L2 := PySem.W.looks_findIn (M := model prog w) X F.gx
  have L3 := PySem.W.looks_find (M := model prog w) X I (findExc F)
  have hb := PySem.F.attr_ValueError.ga.bind (.ref e)
  unfold getAttr? getAttrBy? getAttrBy
  refine wpAny_bind (wpAny_mkText (wpAny_bind (wpAny_attempt (wpAny_holding (wpAny_bind (L0.at (wpAny_bind (L1.at ?_))))))))
  show wpAny _ _ (getAttrByItsOwn _ _ _ _ _ _) _ _ _
  unfold getAttrByItsOwn hookBefore callGetattribute boundAndCalled
  refine wpAny_bind (L2.at ?_)
  refine wpAny_bind (wpAny_attempt (wpAny_holding ?_))
  show wpAny _ _ (bindSpecial (.builtin "BaseException.__getattribute__") (.ref e) >>= _) _ _ _
  rw [hb]
  refine wpAny_bind (wpAny_pure ?_)
  refine wpAny_call (codeAny_call_builtin PySem.F.attr_ValueError.ga.plain PySem.F.entry_bexc_ga (check_ga (s := ⟨hh, g, d, t + 1, os⟩) X F I ?_))
  unfold Builtin.«object.__getattribute__»
  refine wpAny_bind (wpAny_of_eq (a := (Value.ref e, [Value.str (Str.ofString "__class__") t])) rfl ?_)
  refine wpAny_bind (wpAny_of_eq (a := Str.ofString "__class__") rfl ?_)
  refine wpAny_bind (L0.at (wpAny_bind (L3.at ?_)))
  show wpAny _ _ (Builtin.ObjectAttr.bindTo (.builtin "getset_descriptor.__get__") (.builtin "object.__class__") (.ref e) (.ref C)) _ _ _
  refine wpAny_bind (wpAny_holding (wpAny_call (PySem.W.class_get (s := ⟨hh, g, d, t + 1, os⟩) (od := none) X I F.mr ?_)))
  refine wpAny_pure ?_
  show wpAny (model prog w) A (handedOut (Value.ref C)) _ _ _
  exact wpAny_pure (wpAny_pure h)
theorem kitx_exc (F : ExK K C) : PySem.W.KitX K (.ref e) (.ref C) (fun h => ∃ o vs, h.get? e = some o ∧ (o.cls = .ref C ∧ o.dict = none) ∧ o.data = .fields vs) where
  ty := fun M h _ ⟨o, vs, h1, h2, h3⟩ => (inst_exc h1 h2.1 h3 h2.2).type
  it := fun _ _ X _ => by
    obtain ⟨cd, hc⟩ := Option.isSome_iff_exists.mp F.ci
    unfold PySem.W.clsIn at hc
    split at hc
    · rename_i c' d' cd' sl' ho
      intro A' Q' E' s' k q
      unfold isType loadHead
      exact wpAny_bind (wpAny_loadPart (k _ _ (X _ _ ho)) (wpAny_pure q))
    · cases hc
  ne := fun h tp dd its n sl X htp => by
    obtain ⟨cd, hc⟩ := Option.isSome_iff_exists.mp F.ci
    refine Bool.eq_false_iff.mpr fun q => ?_
    have z : C = tp := Value.ref.inj (beq_iff_eq.mp q)
    subst z
    unfold PySem.W.clsIn at hc
    split at hc
    · rename_i c' d' cd' sl' ho
      cases (X _ _ ho).symm.trans htp
    · cases hc
  ca := fun X ⟨o, vs, h1, h2, h3⟩ k => exc_class X F (inst_exc h1 h2.1 h3 h2.2) k
end
structure IsX (K : PySem.W.Frag) (ca : Nat → Addr) (T : Value) (all cs : List Nat) : Prop where
  ex : ∀ c ∈ all, ExK K (ca c)
  an : ∀ c ∈ all, PySem.W.kitOne K (.ref (ca c)) T = some (decide (c ∈ cs))
  no : PySem.W.kitOne K (.type "NoneType") T = some false
section
variable {X : Cx} {ca : Nat → Addr} {e : Expr} {me : ME} {pos p p2 : Pos} {all cs : List Nat}
theorem call_isinX {u : V} {T : Value} (hu : ∀ v, L2.RelV u v → v = T) (h : IsX X.K ca T all cs) : CallR X (.builtin "isinstance") (fun xs H Q => ∃ x g μ d b, xs = [x, u] ∧ GRep X.K ca μ H g ∧ Den X.K μ H x d ∧ pIsinX all cs d g = .ok (.bl b) g ∧ Q (.bl b) H) := by
  intro pins s σ H xs us Q I rv z
  obtain ⟨x, g, μ, d, b, rfl, r, q, ht, qq⟩ := z
  obtain ⟨v, v2, rfl, rx, r2⟩ := rv.two
  have e2 : v2 = T := hu v2 r2
  subst e2
  have fin : ∀ tk, EP X pins σ Q (.bool b) { s with toks := tk } := fun tk => ⟨.bl _, H, I.tok tk, rfl, qq⟩
  cases q with
  | non => cases ht; exact isinst_ok I rx .non h.no fin
  | @ref n a hn =>
    unfold pIsinX at ht
    dsimp only at ht
    cases hg : g[n]? with
    | none => rw [hg] at ht; cases ht
    | some o =>
      rw [hg] at ht
      obtain ⟨a', ha', ob⟩ := r.addr hg
      rw [hn] at ha'; cases ha'
      cases o with
      | exc ex =>
        dsimp only at ht
        by_cases hm : ex.1 ∈ all
        · rw [if_pos hm] at ht
          cases ht
          cases rx
          obtain ⟨⟨o, vs, h1, h2, h3⟩, _⟩ := I.hok a _ ob
          exact PySem.W.kia_one (kitx_exc (h.ex _ hm)) I.kIn ⟨o, vs, h1, h2, h3⟩ (h.an _ hm) (fun z => nomatch z) fin
        · rw [if_neg hm] at ht; cases ht
      | _ => cases ht
  | _ => cases ht
theorem isinX_up {K : PySem.W.Frag} {Φ : XS} {u : V} (σ : L2.St) (H : Hp) (Q : VK) (h : up K ca Φ (mOp1 (pIsinX all cs) me) σ H Q) : up K ca Φ me σ H fun y H1 => ∃ x g μ d b, [y, u] = [x, u] ∧ GRep K ca μ H1 g ∧ Den K μ H1 x d ∧ pIsinX all cs d g = .ok (.bl b) g ∧ Q (.bl b) H1 := by
  obtain ⟨σ3, g, μ, R, q⟩ := h
  refine up_mono (bindE R q) fun y H1 ⟨d, g1, μ1, e1, R1, q1, p1⟩ => ?_
  have : ∃ b, pIsinX all cs d g1 = .ok (.bl b) g1 := by
    unfold pIsinX at p1 ⊢
    cases d with
    | non => exact ⟨false, rfl⟩
    | ref n =>
      dsimp only at p1 ⊢
      cases hg : g1[n]? with
      | none => rw [hg] at p1; exact p1.elim
      | some o =>
        rw [hg] at p1
        cases o with
        | exc ex =>
          dsimp only at p1 ⊢
          by_cases hm : ex.1 ∈ all
          · rw [if_pos hm]; exact ⟨_, rfl⟩
          · rw [if_neg hm] at p1; exact p1.elim
        | _ => exact p1.elim
    | _ => exact p1.elim
  obtain ⟨b, hb⟩ := this
  rw [hb] at p1
  exact ⟨y, g1, μ1, d, b, rfl, R1.g, q1, hb, p1 _ H1 μ1 .refl R1.g (.bl _)⟩
theorem r_isinX {x : Str} {C : Addr} (hi : X.mg "isinstance" = none) (hC : X.mg x = some (.ref C) ∧ IsX X.K ca (.ref C) all cs) (he : PE3 ca X e me) (hgi : Gl X "isinstance" := by rfl) (hg : Gl X x := by rfl) (hdb : (x == ("__debug__" : Str)) = false := by decide)
    (hs : starEach [e, .Name x p2] X.env = (false, eval e X.env) :: starEach [.Name x p2] X.env := by rfl) (hs2 : starEach [.Name x p2] X.env = (false, eval (.Name x p2) X.env) :: starEach [] X.env := by rfl) (hpl : (backTo pos (starEach [.Name x p2] X.env)).any (·.1) = false := by rfl) :
    PE3 ca X (.Call (.Name "isinstance" p) [e, .Name x p2] [] pos) (mOp1 (pIsinX all cs) me) := fun pn Φ =>
  conseq (pe_callB (X := xat X ca pn Φ) (call_isinX (ca := ca) (u := .ref C) (fun _ h => h) hC.2) hgi hi boot_isinstance (pa_cons (X := xat X ca pn Φ) (he pn Φ) (pa_cons (X := xat X ca pn Φ) (pe_glob (X := xat X ca pn Φ) (v := .ref C) hg hC.1 rfl hdb) pa_nil hs2) hs) (by decide) (by decide) hs hpl) fun σ H Q h => isinX_up σ H Q h
theorem r_isinB {x : Str} {T : String} (hi : X.mg "isinstance" = none) (hm : X.mg x = none) (hC : bootBuiltins x = some (.type T) ∧ IsX X.K ca (.type T) all cs) (he : PE3 ca X e me) (hgi : Gl X "isinstance" := by rfl) (hg : Gl X x := by rfl) (hnm : x ≠ "__name__" := by decide) (hdb : (x == ("__debug__" : Str)) = false := by decide)
    (hs : starEach [e, .Name x p2] X.env = (false, eval e X.env) :: starEach [.Name x p2] X.env := by rfl) (hs2 : starEach [.Name x p2] X.env = (false, eval (.Name x p2) X.env) :: starEach [] X.env := by rfl) (hpl : (backTo pos (starEach [.Name x p2] X.env)).any (·.1) = false := by rfl) :
    PE3 ca X (.Call (.Name "isinstance" p) [e, .Name x p2] [] pos) (mOp1 (pIsinX all cs) me) := fun pn Φ =>
  conseq (pe_callB (X := xat X ca pn Φ) (call_isinX (ca := ca) (u := .ty T) (fun _ h => h) hC.2) hgi hi boot_isinstance (pa_cons (X := xat X ca pn Φ) (he pn Φ) (pa_cons (X := xat X ca pn Φ) (pe_bltn (X := xat X ca pn Φ) (v := .ty T) hg hm hC.1 rfl hnm hdb) pa_nil hs2) hs) (by decide) (by decide) hs hpl) fun σ H Q h => isinX_up σ H Q h
end
section
variable {K : PySem.W.Frag} {C : Addr} {x : Str} {mg : Str → Option Value} {h : Heap}
theorem own_cls (X : K.In h) (e : mg x = some (.ref C)) (q : PySem.W.excIn K C bmV "ValueError.__new__" = true) : OwnCls x C bmV "ValueError.__new__" mg h := by
  refine ⟨e, ?_⟩
  unfold PySem.W.excIn at q
  split at q
  · rename_i dd cd sl ho
    split at q
    · rename_i C' bm k0 k1 k2 k3 n k5 hm hs
      simp only [Bool.and_eq_true, beq_iff_eq, Bool.not_eq_true'] at q
      obtain ⟨⟨⟨⟨⟨rfl, rfl⟩, hdel⟩, ht⟩, hok⟩, hni⟩ := q
      obtain ⟨nm, bs, mro, ns, qn, hd, sn, sub, ab, col, del⟩ := cd
      dsimp only at hm hdel hok hni
      subst hm hdel
      have hsl : sl = #[k0, k1, k2, k3, some (.builtin "ValueError.__new__"), k5] := by
        obtain ⟨l⟩ := sl
        simp only at hs
        rw [hs]
      subst hsl
      exact ⟨bm, ns, nm, qn, bs, hd, sn, sub, ab, col, dd, k0, k1, k2, k3, k5, _, X _ _ ho, .of_isNs (PySem.W.isNs_of_in X hok), PySem.W.nsMap_none_of_in X hok hni, PySem.W.tail_of_in X ht⟩
    · cases q
  · cases q
end
theorem Inv.there' {X : Cx} {pins : List (Addr × Obj)} {σ : L2.St} {H : Hp} {s : Shared} {a : Addr} {o : HO} (I : Inv X pins σ H s) (h : H a = some o) : ∃ u, s.heap.get? a = some u := by
  have := I.hok a o h
  cases o with
  | lst xs => obtain ⟨_, _, _, _, e⟩ := this; exact ⟨_, e⟩
  | tup xs => obtain ⟨_, _, _, u, e, _⟩ := this; exact ⟨u, e⟩
  | dK kvs => obtain ⟨_, _, _, _, u, _, _, e, _⟩ := this; exact ⟨u, e⟩
  | dT kvs => obtain ⟨_, _, _, _, u, _, _, e, _⟩ := this; exact ⟨u, e⟩
  | set S n => obtain ⟨u, _, _, _, e, _⟩ := this; exact ⟨u, e⟩
  | ins C dx fs => obtain ⟨_, _, _, e, _⟩ := this; exact ⟨_, e⟩
  | own y => exact this
  | xd fs => obtain ⟨_, ⟨_, _, _, e, _⟩, _⟩ := this; exact ⟨_, e⟩
  | met f x => exact ⟨_, this⟩
  | rng lo hi => obtain ⟨_, _, _, e⟩ := this; exact ⟨_, e⟩
  | frz u v => exact ⟨_, this.1⟩
  | tbl ps => exact ⟨_, this⟩
  | ext φ => exact this.2.1
structure RaH (K : PySem.W.Frag) (mg : Str → Option Value) (ca : Nat → Addr) (c : Nat) (x : Str) : Prop where
  at' : mg x = some (.ref (ca c))
  ex : PySem.W.excIn K (ca c) bmV "ValueError.__new__" = true
section
variable {X : Cx} {ca : Nat → Addr} {e : Expr} {es : List Expr} {mr : MA} {np cpos pos : Pos} {c : Nat} {x : Str}
theorem r_raise (h : RaH X.K X.mg ca c x) (hh : X.A.handled = none) (ha : PA3 ca X (e :: es) mr) (hg : Gl X x := by rfl) (hdb : (x == ("__debug__" : Str)) = false := by decide)
    (he : starEach (e :: es) X.env = (false, eval e X.env) :: starEach es X.env := by rfl) (hpl : (backTo cpos (starEach es X.env)).any (·.1) = false := by rfl) : PS3 ca X (.Raise (some (.Call (.Name x np) (e :: es) [] cpos)) none pos) (mRaise c mr) := by
  intro pn Φ pins s σ H En I ⟨σ3, g, μ, R, p⟩
  obtain ⟨bm, N, nm, q, bs, hdct, sn, sub, ab, col, dd, k0, k1, k2, k3, k5, mN, hC, hN, hni, T⟩ := (own_cls (h := X.base) I.ok.mod.kin h.at' h.ex).obj
  refine wpAny_Raise_call_subT (C := ca c) (nm := nm) (q := q) (N := N) (bs := bs) (bm := bm) (hdct := hdct) (sn := sn) (sub := sub) (ab := ab) (col := col) (dd := dd) (k0 := k0) (k1 := k1) (k2 := k2) (k3 := k3) (k5 := k5)
    PySem.F.excBase_ValueError (mN := mN) (T.hasType PySem.F.excBase_ValueError.hasBase) hh ?_ hni (ld_glob I hg h.at' ⟨rfl, ?_⟩ hdb)
  · show (backTo cpos (starEach (e :: es) X.env)).any (·.1) = false
    rw [he]
    show (false || (backTo cpos (starEach es X.env)).any (·.1)) = false
    rw [hpl]; rfl
  · have z : upA X.K ca Φ mr σ H fun vs H1 => vs.length ≤ sizeLine ∧ Φ (c, none) σ H1 := by
      refine ⟨σ3, g, μ, R, ?_⟩
      unfold mRaise at p
      cases hm : mr σ3 g with
      | raise _ _ => rw [hm] at p; exact RaP.stmt R p
      | stuck => rw [hm] at p; exact p
      | ok ds g1 =>
        rw [hm] at p
        dsimp only at p
        intro vs H1 μ1 e1 r1 q1
        by_cases hz : ds.length ≤ SZ
        · rw [if_pos hz] at p
          exact ⟨q1.sz hz, p σ H1 μ1 e1 (R.go e1 r1)⟩
        · rw [if_neg hz] at p; exact p.elim
    have az := ha pn Φ cpos pins s σ H _ I z
    have he' : starEach (e :: es) (xat X ca pn Φ).env = (false, eval e X.env) :: starEach es X.env := he
    show wpAny _ _ (evalArgs (.ref (ca c)) true (backTo cpos (starEach (e :: es) X.env)) []) _ _ s
    rw [he'] at az
    rw [he]
    refine Calls.evalArgs_plain (wpAny_mono az (fun us s2 ⟨vs, H1, I1, r1, hz, hΦ⟩ => ⟨rfl, by rw [← r1.length]; exact hz, I1.bk _ _ hC, hN.keeps I1.bk, T.keeps I1.bk, fun h' ea hm => ?_⟩) fun _ _ y => y)
    have I2 : Inv (xon X pn) [] σ H1 s2 := (inv_on I1).pins_of fun p hp => absurd hp (by simp)
    have I3 : Inv (xon X pn) [] σ H1 { s2 with heap := h' } := I2.kept (t' := s2.toks) hm.keeps
    have hn : H1 ea = none := by
      cases hq : H1 ea with
      | none => rfl
      | some o =>
        obtain ⟨o', ho'⟩ := Inv.there' I2 hq
        rw [hm.new] at ho'; cases ho'
    obtain ⟨t, ht, _⟩ := hm.there
    exact ⟨ea, (c, none), σ, H1, rfl, I3, ⟨fpW_of I2 hm.new hn, rfl, _, _, ht, ⟨rfl, rfl⟩, rfl, by simp, .inl rfl⟩, hΦ⟩
end
end L3

end
section
namespace L3
open PySem PySem.Spec PyProof.Rows L2
structure CatX (K : PySem.W.Frag) (ca : Nat → Addr) (C : Addr) (cs no : List Nat) : Prop where
  ci : (PySem.W.clsIn K C).isSome = true
  ty : PySem.W.typeIn K (.ref C) = some (.type "type")
  sb : PySem.W.subIn K (.ref C) (.type "BaseException") = some true
  yes : ∀ c ∈ cs, PySem.W.subIn K (.ref (ca c)) (.ref C) = some true
  no' : ∀ c ∈ no, PySem.W.subIn K (.ref (ca c)) (.ref C) = some false
section
variable {prog : Program} {w : World} {A : Around} {E : Value → Shared → Prop} {s : Shared} {K : PySem.W.Frag} {ca : Nat → Addr} {C D e : Addr} {oe : Obj} {cs no : List Nat} {b : Bool}
theorem exc_match {Q : Bool → Shared → Prop} (X : K.In s.heap) (F : CatX K ca C cs no) (hx : s.heap.get? e = some oe) (hc : oe.cls = .ref D) (hs : PySem.W.subIn K (.ref D) (.ref C) = some b) (h : Q b s) : wpAny (model prog w) A (excMatches (.ref e) (.ref C)) Q E s := by
  obtain ⟨hh, g, d, t, os⟩ := s
  have L0 := PySem.W.looks_typeIn (M := model prog w) X F.ty
  have L1 := PySem.W.looks_subIn (M := model prog w) X F.sb
  have L2 := PySem.W.looks_subIn (M := model prog w) X hs
  have L3 : PySem.W.Looks (model prog w) hh (isType (.ref C)) true := by
    obtain ⟨cd, hc⟩ := Option.isSome_iff_exists.mp F.ci
    unfold PySem.W.clsIn at hc
    split at hc
    · rename_i c' d' cd' sl' ho
      intro A' Q' E' s' k q
      unfold isType loadHead
      exact wpAny_bind (wpAny_loadPart (k _ _ (X _ _ ho)) (wpAny_pure q))
    · cases hc
  have f := tc_notTuple
  unfold excMatches isInstance
  refine wpAny_bind (wpAny_bind (L0.at (wpAny_of_eq f ?_)))
  simp only [Bool.false_eq_true, if_false]
  refine wpAny_bind (wpAny_pure ?_)
  simp only [List.forIn_cons, List.forIn_nil]
  unfold isExcClass
  refine wpAny_bind (wpAny_bind (wpAny_bind (wpAny_bind (L3.at ?_))))
  rw [if_pos rfl]
  refine L1.at ?_
  simp only [Bool.not_true, Bool.false_eq_true, if_false]
  refine wpAny_pure (wpAny_pure ?_)
  have L4 : PySem.W.Looks (model prog w) hh (typeOf (.ref e)) (.ref D) := hc ▸ (PySem.W.Looks.ld hx).andThen .now
  refine wpAny_bind (L4.at (wpAny_bind (wpAny_bind (wpAny_bind (L2.at ?_)))))
  cases b with
  | true => rw [if_pos rfl]; exact wpAny_pure (wpAny_pure (wpAny_pure h))
  | false => rw [if_neg Bool.false_ne_true]; exact wpAny_pure (wpAny_pure (wpAny_pure h))
end
noncomputable abbrev xmk (X : Cx) (v : Value) : Cx := { X with A := X.A.mark (some v), calm := false }
section
variable {X : Cx} {ca : Nat → Addr} {pins : List (Addr × Obj)} {σ : L2.St} {H : Hp} {s : Shared} {a : Addr} {x : Xc}
theorem inv_mk (v : Value) (I : Inv X pins σ H s) : Inv (xmk X v) pins σ H s :=
  ⟨⟨I.ok.mod, I.ok.kind, I.ok.glob, I.ok.blt, I.ok.above, I.ok.inj, I.ok.has, I.ok.cab, (fun z => by cases z), I.ok.frames, I.ok.stk, I.ok.exf, I.ok.bs, I.ok.bsz, I.ok.noex, I.ok.exfs, I.ok.funs, I.ok.frf⟩, I.os, I.bare, I.base, I.loc, I.cell, I.free, I.freeC, I.pin, I.hok, I.len⟩
theorem inv_unmk {v : Value} (h : X.calm = true → X.A.handled = none) (I : Inv (xmk X v) pins σ H s) : Inv X pins σ H s :=
  ⟨⟨I.ok.mod, I.ok.kind, I.ok.glob, I.ok.blt, I.ok.above, I.ok.inj, I.ok.has, I.ok.cab, h, I.ok.frames, I.ok.stk, I.ok.exf, I.ok.bs, I.ok.bsz, I.ok.noex, I.ok.exfs, I.ok.funs, I.ok.frf⟩, I.os, I.bare, I.base, I.loc, I.cell, I.free, I.freeC, I.pin, I.hok, I.len⟩
theorem inv_trackW {o : HO} (I : Inv X pins σ H s) (ha : FpW X pins H a) (new : ObjOk X.prog X.w (upd H a o) s.heap a o) : Inv X pins σ (upd H a o) s := by
  have ne : ∀ b u, H b = some u → b ≠ a := fun b u e => ne_of_none e ha.1
  refine inv_stepW (h' := s.heap) (H' := upd H a o) (g' := s.gens) (t' := s.toks) (d' := s.drawn) (ch := [a]) I (fun b hb => ?_) (fun b o _ _ _ e _ => e) (fun b o _ _ _ e _ => ⟨o.slots, e⟩) (fun b o hb e n => ?_) (fun b o _ e => ⟨o, e⟩)
    (fun b xs e => by rw [upd_ne (ne b _ e)]; exact e) (fun b o u e => by rw [upd_ne (ne b _ e)]; exact e) (fun b ps e => ⟨#[], by rw [upd_ne (ne b _ e), e]; simp⟩) (fun _ h => h) (fun b u e => ?_) I.bare
  · rw [List.mem_singleton.mp hb]
    exact ⟨ha.2.2.2.1, ha.2.1, ha.2.2.2.2.1, ha.2.2.2.2.2⟩
  · rw [upd_ne (fun z => hb (by simp [z]))]; exact n
  · by_cases hb : b = a
    · subst hb; rw [upd_same] at e; cases e; exact new
    · rw [upd_ne hb] at e
      exact (I.hok b u e).stay (fun _ _ _ q => q) (fun c q => by rw [upd_ne (ne c _ q)]; exact q) fun c xs q => by rw [upd_ne (ne c _ q)]; exact q
theorem gone_ok {M : Model} {A : Around} {E : Value → Shared → Prop} {i : Nat} {n : Str} {pos : Pos} {Q : Unit → Shared → Prop} (I : Inv X pins σ H s) (hN : X.N.Nodup) (hi : X.N[i]? = some n) (hl : X.env.kindOf n = some .local)
    (h : ∀ s', Inv X pins (σ.set i none) H s' → Q () s') : wpAny M A (do bindName X.env n .none; unbindBehindTheSuite X.env n pos) Q E s := by
  obtain ⟨m, hn, hlk⟩ := id I.loc
  have hcls : (X.env.scope.kind == .class || (X.env.scope.kind == .module && X.env.locals != X.env.globals)) = false := by rw [I.ok.kind]; rfl
  refine wpAny_nameGoes_keeps hl hn hcls fun h' v hn' hs => h _ ?_
  have old : ∀ b o, b ≠ X.env.locals → s.heap.get? b = some o → h'.get? b = some o := fun b o hb e => (hs.2 b hb).trans e
  have neL : ∀ b o, X.s₀.heap.get? b = some o → b ≠ X.env.locals := fun b o e => Nat.ne_of_lt (Nat.lt_of_lt_of_le (Heap.lt_size e) I.ok.above)
  obtain ⟨oL, _, _, hoL, _⟩ := id hn
  refine ⟨I.ok, I.os, I.bare, ⟨fun b o e n hb hx => old b o (neL b o e) (I.base.keep b o e n hb hx), fun b o e n hb hx => ?_, I.base.free, fun b o e hx => ?_, I.base.tups, I.base.frzs, I.base.tbls⟩, ⟨_, hn', fun j y u e1 e2 e3 => ?_⟩, fun y c e => ?_, I.free, I.freeC, fun p hp => ?_, fun b o e => ?_, by simpa using I.len⟩
  · obtain ⟨sl, z⟩ := I.base.slot b o e n hb hx
    exact ⟨sl, old b _ (neL b o e) z⟩
  · obtain ⟨o', z⟩ := I.base.there b o e hx
    exact ⟨o', old b _ (neL b o e) z⟩
  · have hj : j ≠ i := fun z => by
      subst z
      rw [List.getElem?_set] at e2
      split at e2
      · split at e2 <;> simp at e2
      · rename_i q; exact q rfl
    rw [List.getElem?_set_ne (Ne.symm hj)] at e2
    obtain ⟨u', r', q⟩ := hlk j y u e1 e2 e3
    refine ⟨u', r', ?_⟩
    rcases q with ⟨k, e⟩ | ⟨k, c, e, z⟩
    · refine .inl ⟨k, ?_⟩
      have : y ≠ n := fun e => hj (nodup_ix hN e1 (e ▸ hi))
      simp [this, e]
    · exact .inr ⟨k, c, e, z.sameBut hs (I.cne y c e)⟩
  · obtain ⟨w', z⟩ := I.cell y c e
    exact ⟨w', z.sameBut hs (I.cne y c e)⟩
  · obtain ⟨e, n, ne, nf, d⟩ := I.pin p hp
    exact ⟨old p.1 _ ne e, n, ne, nf, d⟩
  · refine (I.hok b o e).stay (fun c w' hc q => old c _ ?_ q) (fun _ q => q) fun _ _ q => q
    rintro rfl
    rcases hc with z | z
    · rw [← z, I.free] at e; cases e
    · rw [I.free] at z; cases z
end
end L3

end
section
namespace L3
open PySem PySem.Spec PyProof.Rows L2
section
variable {X : Cx} {ca : Nat → Addr} {body suite : List Stmt} {b0 : Stmt} {mb mc : MS} {np hpos pos : Pos} {C : Addr} {cs no : List Nat} {T n : Str}
theorem inv_pn {Y : Cx} {pn pins : List (Addr × Obj)} {E E' : Value → Shared → Prop} {σ : L2.St} {H : Hp} {s : Shared} (I : Inv { Y with pn := pn, xe := E } pins σ H s) : Inv { Y with pn := pn ++ pins, xe := E' } [] σ H s :=
  ⟨⟨I.ok.mod, I.ok.kind, I.ok.glob, I.ok.blt, I.ok.above, I.ok.inj, I.ok.has, I.ok.cab, I.ok.hd, I.ok.frames, I.ok.stk, I.ok.exf, I.ok.bs, I.ok.bsz, I.ok.noex, I.ok.exfs, I.ok.funs, I.ok.frf⟩, I.os, I.bare, I.base, I.loc, I.cell, I.free, I.freeC, fun p hp => I.pin p (by rw [List.append_nil] at hp; exact hp), I.hok, I.len⟩
theorem inv_np {Y : Cx} {pn pins : List (Addr × Obj)} {E E' : Value → Shared → Prop} {σ : L2.St} {H : Hp} {s : Shared} (I : Inv { Y with pn := pn ++ pins, xe := E } [] σ H s) : Inv { Y with pn := pn, xe := E' } pins σ H s :=
  ⟨⟨I.ok.mod, I.ok.kind, I.ok.glob, I.ok.blt, I.ok.above, I.ok.inj, I.ok.has, I.ok.cab, I.ok.hd, I.ok.frames, I.ok.stk, I.ok.exf, I.ok.bs, I.ok.bsz, I.ok.noex, I.ok.exfs, I.ok.funs, I.ok.frf⟩, I.os, I.bare, I.base, I.loc, I.cell, I.free, I.freeC, fun p hp => I.pin p (by rw [List.append_nil]; exact hp), I.hok, I.len⟩
theorem test_of {pn : List (Addr × Obj)} {σ : L2.St} {H : Hp} {s : Shared} {a : Addr} {x : Xc} {oe : Obj} {R : Result → Shared → Prop} {b : Bool} (I : Inv (xon X pn) [] σ H s) (hT : X.mg T = some (.ref C)) (F : CatX X.K ca C cs no) (he : s.heap.get? a = some oe) (ho : XOb ca x oe)
    (hs : PySem.W.subIn X.K (.ref (ca x.1)) (.ref C) = some b) (hg : Gl X T) (hdb : (T == ("__debug__" : Str)) = false) (h : R (.ok (if b then .brk else .next)) s) :
    codeAny (model X.prog X.w) (X.A.mark (some (.ref a))) (.handlers (.ref a) [.ExceptHandler (some (.Name T np)) none [] hpos] X.env) R s :=
  codeAny_handlers_test (ld_glob (X := xmk (xon X pn) (.ref a)) (inv_mk _ I) hg hT (exc_match I.kIn F he ho.1 hs h) hdb)
theorem pass_on {pn pins : List (Addr × Obj)} {Φ : XS} {σ : L2.St} {H : Hp} {s : Shared} {a : Addr} {x : Xc} {Q : Flow → Shared → Prop} (hf : X.env.frame = some X.env.locals) (I : Inv (xon X (pn ++ pins)) [] σ H s) (fl : FlT (xon X (pn ++ pins)) ca a x H s.heap) (h : Φ x σ H) :
    wpAny (model X.prog X.w) X.A (handleBy (.ref a) X.env []) Q (xat X ca pn Φ).xe s := by
  refine wpAny_handleBy_nil ?_
  unfold PySem.passOn
  obtain ⟨fp, ln, oe, vs, T, oT, ts, he, hc, hd, hv, hTa, fT, hT, hdT, hs3⟩ := id fl
  refine wpAny_bind (wpAny_field he hd hv ?_)
  rw [if_neg (show ¬ ((Value.ref T == Value.none) = true) from by simp)]
  refine wpAny_bind (flight_fl (fo := X.env.frame) I fl fun h2 T oT ts oe vs I2 a1 a2 a3 a4 a5 a6 a7 a8 a9 a10 => wpAny_throw ?_)
  rw [hf] at a10
  have dn : ∀ {b : Addr}, FpW (xon X (pn ++ pins)) [] H b → FpW (xon X pn) [] H b := fun z => ⟨z.1, z.2.1, z.2.2.1, z.2.2.2.1, z.2.2.2.2.1, fun p hp => z.2.2.2.2.2 p (by rw [List.append_nil] at hp ⊢; exact List.mem_append_left _ hp)⟩
  exact ⟨a, x, σ, H, rfl, (inv_np (Y := X) I2).pins_of fun p hp => absurd hp (by simp), FlN.fl ⟨dn fp, ln, oe, vs, T, oT, ts, a1, a2, a3, a4, a5, dn a6, a7, a8, a10⟩, h⟩
theorem try_body {hs : List MH} {h0 : ExceptHandler} {hr : List ExceptHandler} (hb : PSs3 ca X body mb) (hk : X.stack = X.env :: X.outer) (hf : X.env.frame = some X.env.locals)
    (hh : ∀ (pn pins : List (Addr × Obj)) (Φ : XS) (En : Ends) (σ : L2.St) (H : Hp) (s : Shared) (a : Addr) (x : Xc) (σ3 : S3) (g : G) (μ : List Addr), (X.calm = true → X.A.handled = none) → Inv (xon X (pn ++ pins)) [] σ H s → FlT (xon X (pn ++ pins)) ca a x H s.heap → Rep X.K ca μ σ3 g σ H → PostS X.K ca Φ En H μ (runH hs x σ3 g) →
      wpAny (model X.prog X.w) X.A (handleBy (.ref a) X.env (h0 :: hr)) (SP (xat X ca pn Φ) pins En) (xat X ca pn Φ).xe s) : PS3 ca X (.Try body (h0 :: hr) [] [] pos) (mTry mb hs) := by
  intro pn Φ pins s σ H En I ⟨σ3, g, μ, R, p⟩
  refine wpAny_Try_except ?_
  have p1 : PostS X.K ca (fun x σ' H' => ∃ σ4 g4 μ4, Rep X.K ca μ4 σ4 g4 σ' H' ∧ PostS X.K ca Φ En H' μ4 (runH hs x σ4 g4)) En H μ (mb σ3 g) := by
    unfold mTry at p
    cases hm : mb σ3 g with
    | nx _ _ => rw [hm] at p; exact p
    | rt _ _ => rw [hm] at p; exact p
    | bk _ _ => rw [hm] at p; exact p
    | ct _ _ => rw [hm] at p; exact p
    | raise x σ' g' => rw [hm] at p; exact fun σ4 H' μ' e R' => ⟨σ', g', μ', R', PostS.go e p⟩
    | stuck => rw [hm] at p; exact p
  refine wpAny_mono (hb (pn ++ pins) _ [] s σ H En (inv_pn (Y := X) I) ⟨σ3, g, μ, R, p1⟩) (fun f s1 h1 => ?_) fun v s1 h1 => ?_
  · cases f with
    | next => obtain ⟨σ', H', J, q⟩ := h1; exact pss_nil (X := xat X ca pn Φ) pins s1 σ' H' En (inv_np (Y := X) J) q
    | brk => obtain ⟨σ', H', J, q⟩ := h1; exact ⟨σ', H', inv_np (Y := X) J, q⟩
    | cont => obtain ⟨σ', H', J, q⟩ := h1; exact ⟨σ', H', inv_np (Y := X) J, q⟩
    | ret u => obtain ⟨v, σ', H', J, r, q⟩ := h1; exact ⟨v, σ', H', inv_np (Y := X) J, r, q⟩
  · obtain ⟨a, x, σ', H', rfl, I1, fl, σ4, g4, μ4, R4, p4⟩ := h1
    refine note_fl (X := xon X (pn ++ pins)) I1 hk hf fl fun h2 I2 f2 => ?_
    refine flight_fl (X := xon X (pn ++ pins)) (fo := none) I2 f2.t fun h3 T oT ts oe vs I3 a1 a2 a3 a4 a5 a6 a7 a8 a9 a10 => ?_
    exact hh pn pins Φ En σ' H' _ a x σ4 g4 μ4 I.ok.hd I3 ⟨f2.1, f2.2.1, oe, vs, T, oT, ts, a1, a2, a3, a4, a5, a6, a7, a8, a9⟩ R4 p4
theorem r_tryAs (i : Nat) (hN : X.N.Nodup) (hT : X.mg T = some (.ref C) ∧ CatX X.K ca C cs no) (hb : PSs3 ca X body mb) (hc : ∀ a, PSs3 ca (xmk X (.ref a)) (b0 :: suite) mc) (hi : X.N[i]? = some n := by rfl) (hl : X.env.kindOf n = some .local := by rfl)
    (hg : Gl X T := by rfl) (hdb : (T == ("__debug__" : Str)) = false := by decide) (hk : X.stack = X.env :: X.outer := by rfl) (hf : X.env.frame = some X.env.locals := by rfl) :
    PS3 ca X (.Try body [.ExceptHandler (some (.Name T np)) (some n) (b0 :: suite) hpos] [] [] pos) (mTry mb [⟨cs, no, some i, mc⟩]) := by
  refine try_body hb hk hf fun pn pins Φ En σ H s a x σ3 g μ hcalm I fl R p => ?_
  obtain ⟨fp, ln, oe, vs, Tb, oT, ts, he, hox, hd, hv, hTa, fT, hTT, hdT, hs3⟩ := id fl
  unfold runH at p
  by_cases hx : x.1 ∈ cs
  · rw [if_pos hx] at p
    dsimp only at p
    refine wpAny_handleBy_cons (test_of I hT.1 hT.2 he hox (hT.2.yes _ hx) hg hdb ?_) (by intro q; cases q)
    refine codeAny_handlers_suite_as ?_
    refine flight_fl (fo := none) I fl fun h2 T2 oT2 ts2 oe2 vs2 I2 b1 b2 b3 b4 b5 b6 b7 b8 b9 b10 => ?_
    have I3 : Inv (xon X (pn ++ pins)) [] σ (upd H a (XO ca a x)) { s with heap := h2 } := inv_trackW I2 fp ⟨⟨oe2, vs2, b1, b2, b3⟩, ⟨oe2, b1⟩, fun h3 h4 ⟨o, ws, c1, c2, c3⟩ k => ⟨o, ws, k o c1, c2, c3⟩⟩
    have ex : Ext X.K μ H (μ ++ [a]) (upd H a (XO ca a x)) := ext_push fp.1
    have G3 : GRep X.K ca (μ ++ [a]) (upd H a (XO ca a x)) (g ++ [.exc x]) := R.g.push fp.1 upd_same
    have ea : (μ ++ [a])[g.length]? = some a := by rw [← R.g.len]; simp
    refine store_ok (X := xmk (xon X (pn ++ pins)) (.ref a)) (inv_mk _ I3) hN hi (.inl hl) (v := .ref a) rfl (fun s4 I4 => ?_) (.inr hl)
    have R4 : Rep X.K ca (μ ++ [a]) (σ3.set i (some (.ref g.length))) (g ++ [.exc x]) (σ.set i (some (.ref a))) (upd H a (XO ca a x)) := (R.go ex G3).set (.ref ea) i
    have hcc := hc a (pn ++ pins) F0 [] s4 (σ.set i (some (.ref a))) (upd H a (XO ca a x)) { nx := fun σ' H' => En.nx (σ'.set i none) H', rt := En.rt } (Inv.wish I4 _) ⟨_, _, _, R4, by
      cases hm : mc (σ3.set i (some (.ref g.length))) (g ++ [.exc x]) with
      | nx σ5 g5 =>
        rw [hm] at p
        intro σ' H' μ' e' R'
        refine p (σ'.set i none) H' μ' (ex.trans e') ⟨R'.g, by rw [List.length_set, List.length_set, R'.len], fun j d hj => ?_⟩
        have hji : j ≠ i := fun z => by
          subst z
          rw [List.getElem?_set] at hj
          split at hj
          · split at hj <;> simp at hj
          · rename_i q; exact q rfl
        rw [List.getElem?_set_ne (Ne.symm hji)] at hj ⊢
        exact R'.st j d hj
      | rt d g5 => rw [hm] at p; exact fun v H' μ' e' => p v H' μ' (ex.trans e')
      | bk _ _ => rw [hm] at p; exact p.elim
      | ct _ _ => rw [hm] at p; exact p.elim
      | raise _ _ _ => rw [hm] at p; exact p.elim
      | stuck => rw [hm] at p; exact p.elim⟩
    refine wpAny_mono (noX hcc) (fun f s5 h5 => ?_) fun _ _ z => z.elim
    cases f with
    | next =>
      obtain ⟨σ', H', J, q⟩ := h5
      have J' : Inv (xon X (pn ++ pins)) [] σ' H' s5 := inv_unmk (v := .ref a) hcalm (Inv.wish J _)
      exact gone_ok (X := xon X (pn ++ pins)) J' hN hi hl fun s6 J6 => ⟨_, H', inv_np (Y := X) J6, q⟩
    | ret u =>
      obtain ⟨v, σ', H', J, r, q⟩ := h5
      have J' : Inv (xon X (pn ++ pins)) [] σ' H' s5 := inv_unmk (v := .ref a) hcalm (Inv.wish J _)
      exact gone_ok (X := xon X (pn ++ pins)) J' hN hi hl fun s6 J6 => ⟨v, _, H', inv_np (Y := X) J6, r, q⟩
    | brk => obtain ⟨_, _, _, q⟩ := h5; exact q.elim
    | cont => obtain ⟨_, _, _, q⟩ := h5; exact q.elim
  · rw [if_neg hx] at p
    by_cases hn : x.1 ∈ no
    · rw [if_pos hn] at p
      refine wpAny_handleBy_cons (test_of I hT.1 hT.2 he hox (hT.2.no' _ hn) hg hdb ?_) (by intro q; cases q)
      exact pass_on hf I fl (p σ H μ .refl R)
    · rw [if_neg hn] at p; exact p.elim
end
end L3

end
section
namespace L3
open PySem PySem.Spec PyProof.Rows L2
noncomputable def bchk (sc scope : Scope) (N Nb : List Str) (no : Nat) (cap : List Nat) : Bool :=
  decide (scope.kind = .function) && scope.names.all (fun y => decide (y.2 ≠ .cell)) && scope.names.all (fun y => decide (y.2 ≠ .local) || decide (scope.names.lookup y.1 = some .local)) &&
  scope.names.all (fun y => decide (y.2 ≠ .free) || decide (sc.names.lookup y.1 = some .cell) || decide (sc.names.lookup y.1 = some .free)) && decide (Nb.length = no + cap.length) &&
  (List.range cap.length).all fun j => match cap[j]?, Nb[no + j]? with
    | some i, some x => decide (N[i]? = some x) && decide (scope.names.lookup x = some .free) && (decide (sc.names.lookup x = some .cell) || decide (sc.names.lookup x = some .free))
    | _, _ => false
theorem bscope_mk {X : Cx} {scope sc : Scope} {N Nb : List Str} {no : Nat} {cap : List Nat} (hsc : X.env.scope = sc) (hN : X.N = N) (h : bchk sc scope N Nb no cap = true) : BScope X scope Nb no cap := by
  subst hsc hN
  unfold bchk at h
  simp only [Bool.and_eq_true, decide_eq_true_eq] at h
  obtain ⟨⟨⟨⟨⟨h1, h2⟩, h3⟩, h4⟩, h5⟩, h6⟩ := h
  rw [List.all_eq_true] at h2 h3 h4 h6
  refine ⟨h1, fun y hy => of_decide_eq_true (h2 y hy), fun y hy e => ?_, fun y hy e => ?_, h5, fun j i hj => ?_⟩
  · rcases Bool.or_eq_true_iff.mp (h3 y hy) with z | z
    · exact absurd e (of_decide_eq_true z)
    · exact of_decide_eq_true z
  · rcases Bool.or_eq_true_iff.mp (h4 y hy) with z | z
    · rcases Bool.or_eq_true_iff.mp z with z | z
      · exact absurd e (of_decide_eq_true z)
      · exact .inl (of_decide_eq_true z)
    · exact .inr (of_decide_eq_true z)
  · have hl : j < cap.length := (List.getElem?_eq_some_iff.mp hj).1
    have z := h6 j (List.mem_range.mpr hl)
    rw [hj] at z
    cases hx : Nb[no + j]? with
    | none => rw [hx] at z; cases z
    | some x =>
      rw [hx] at z
      simp only [Bool.and_eq_true, Bool.or_eq_true, decide_eq_true_eq] at z
      obtain ⟨⟨z1, z2⟩, z3⟩ := z
      refine ⟨x, rfl, z1, z2, .inr z3, fun q => ?_⟩
      have q : X.env.scope.names.lookup x = some .local := q
      rcases z3 with z | z
      · rw [z] at q; cases q
      · rw [z] at q; cases q
noncomputable def exkB (K : PySem.W.Frag) (C : Addr) : Bool :=
  (PySem.W.findIn K (.ref C) "__getattribute__" == some (some (.builtin "BaseException.__getattribute__"))) && (PySem.W.findIn K (.ref C) "__getattr__" == some none) && (PySem.W.findIn K (.ref C) "__class__" == some (some (.builtin "object.__class__"))) &&
  (PySem.W.specialIn K (.builtin "object.__class__") "__get__" == some (some (.builtin "getset_descriptor.__get__"))) && (PySem.W.takesIn K (.builtin "object.__class__") == some true) && (PySem.W.mroIn K C (.type "object") == some true) &&
  (PySem.W.subIn K (.ref C) (.type "BaseException") == some true) && (PySem.W.clsIn K C).isSome
theorem exk_of {K : PySem.W.Frag} {C : Addr} (h : exkB K C = true) : ExK K C := by
  unfold exkB at h
  simp only [Bool.and_eq_true, beq_iff_eq] at h
  obtain ⟨⟨⟨⟨⟨⟨⟨h1, h2⟩, h3⟩, h4⟩, h5⟩, h6⟩, h7⟩, h8⟩ := h
  exact ⟨h1, h2, h3, h4, h5, h6, h7, h8⟩
noncomputable def isxB (K : PySem.W.Frag) (ca : Nat → Addr) (T : Value) (all cs : List Nat) : Bool := all.all (fun c => exkB K (ca c) && (PySem.W.kitOne K (.ref (ca c)) T == some (decide (c ∈ cs)))) && (PySem.W.kitOne K (.type "NoneType") T == some false)
theorem isx_of {K : PySem.W.Frag} {ca : Nat → Addr} {T : Value} {all cs : List Nat} (h : isxB K ca T all cs = true) : IsX K ca T all cs := by
  unfold isxB at h
  rw [Bool.and_eq_true, List.all_eq_true] at h
  exact ⟨fun c hc => exk_of (Bool.and_eq_true_iff.mp (h.1 c hc)).1, fun c hc => beq_iff_eq.mp (Bool.and_eq_true_iff.mp (h.1 c hc)).2, beq_iff_eq.mp h.2⟩
noncomputable def catB (K : PySem.W.Frag) (ca : Nat → Addr) (C : Addr) (cs no : List Nat) : Bool := (PySem.W.clsIn K C).isSome && (PySem.W.typeIn K (.ref C) == some (.type "type")) && (PySem.W.subIn K (.ref C) (.type "BaseException") == some true) &&
  cs.all (fun c => PySem.W.subIn K (.ref (ca c)) (.ref C) == some true) && no.all fun c => PySem.W.subIn K (.ref (ca c)) (.ref C) == some false
theorem cat_of {K : PySem.W.Frag} {ca : Nat → Addr} {C : Addr} {cs no : List Nat} (h : catB K ca C cs no = true) : CatX K ca C cs no := by
  unfold catB at h
  simp only [Bool.and_eq_true, beq_iff_eq, List.all_eq_true] at h
  obtain ⟨⟨⟨⟨h1, h2⟩, h3⟩, h4⟩, h5⟩ := h
  exact ⟨h1, h2, h3, h4, h5⟩
noncomputable def clsB (K : PySem.W.Frag) (C : Addr) : Bool := PySem.W.plainGet K C Str.empty && PySem.W.hasDictIn K C && PySem.W.plainOver K C && (PySem.W.findIn K (.ref C) "__setattr__" == some (some (.builtin "object.__setattr__")))
theorem cls_of {K : PySem.W.Frag} {C : Addr} (h : clsB K C = true) : Cls K C := by
  unfold clsB at h
  simp only [Bool.and_eq_true, beq_iff_eq] at h
  obtain ⟨⟨⟨h1, h2⟩, h3⟩, h4⟩ := h
  exact ⟨h1, h2, h3, h4⟩
noncomputable def fldB (K : PySem.W.Frag) (ca : Nat → Addr) (cs : List Nat) (f : Str) : Bool := cs.all fun c => clsB K (ca c) && (PySem.W.findIn K (.ref (ca c)) f == some none)
theorem fld_of {K : PySem.W.Frag} {ca : Nat → Addr} {cs : List Nat} {f : Str} (h : fldB K ca cs f = true) : FldOk K ca cs f := by
  unfold fldB at h
  rw [List.all_eq_true] at h
  exact ⟨fun c hc => cls_of (Bool.and_eq_true_iff.mp (h c hc)).1, fun c hc => beq_iff_eq.mp (Bool.and_eq_true_iff.mp (h c hc)).2⟩
section
variable {X : Cx} {ca : Nat → Addr} {pos : Pos} {x : Str}
theorem r_gstr {t : Str} (h : ∃ k, X.mg x = some (.str t k)) (hg : Gl X x := by rfl) (hd : (x == ("__debug__" : Str)) = false := by decide) : PE3 ca X (.Name x pos) (mLit (.str t)) := by
  obtain ⟨k, h⟩ := h
  exact r_glob h (v := .str t) ⟨k, rfl⟩ (fun _ _ _ => .str t) hg hd
end
theorem bt_int : bootBuiltins "int" = some (.type Ty.int.name) := boot_int
theorem bt_bool : bootBuiltins "bool" = some (.type Ty.bool.name) := by decide +kernel
theorem bt_str : bootBuiltins "str" = some (.type Ty.str.name) := by decide +kernel
theorem bt_tuple : bootBuiltins "tuple" = some (.type Ty.tuple.name) := boot_tuple
theorem bt_list : bootBuiltins "list" = some (.type Ty.list.name) := boot_list
theorem bt_dict : bootBuiltins "dict" = some (.type Ty.dict.name) := by decide +kernel
theorem bt_ValueError : bootBuiltins "ValueError" = some (.type "ValueError") := by decide +kernel
section
variable {P : Program} {w : World} {K : PySem.W.Frag} {mg : Str → Option Value} {base : Heap} {ca : Nat → Addr}
theorem fn_none {f : Addr} {fd : FuncData} {ps : List Str} {k n : Nat} (hn : ps.length = n) : FnOk P w K mg base (CXW P w ca) k f fd ps (spM K ca n fun _ _ => .stuck) := by
  subst hn
  exact ⟨fun vs H Q E q => q.1, fun A outer s H args us vs Q E _ _ _ _ h => by obtain ⟨_, _, _, _, _, _, z⟩ := h; exact z.elim⟩
theorem law_sp {F : MF} {H : Hp} {a : Addr} {ns : List Int} (hO : Only H) (hS : SqL K H a (ns.map V.int)) (h : ∃ g', F [.fl (ns.map D.int)] [] = .ok (.bl true) g') : spM K ca 1 F [.ref a] H (fun v _ => v = .bl true) fun _ _ _ => False := by
  obtain ⟨g', h⟩ := h
  have hF : SqF K H a (ns.map V.int) := by
    rcases hS with (h | ⟨o, h⟩) | h
    · rcases hO a with z | ⟨o, xs, z⟩
      · rw [h] at z; cases z
      · rw [h] at z; cases z
    · exact .inl ⟨o, h⟩
    · exact .inr (.inr h)
  refine ⟨rfl, [.fl (ns.map D.int)], [], [], ⟨rfl, .nil, fun n a o h => by simp at h⟩, .cons (.fl hF (Dens.ints ns)) .nil, ?_⟩
  rw [h]
  intro v H' μ' e r q
  cases q
  rfl
end
end L3

end
section
namespace L3
open PySem PySem.Spec
theorem len0 {α : Type} {us : List α} (h : us.length = 0) : us = [] := List.eq_nil_of_length_eq_zero h
theorem len1 {α : Type} {us : List α} (h : us.length = 1) : ∃ a0, us = [a0] := by
  cases us with
  | nil => cases h
  | cons a r =>
    have e := len0 (Nat.succ.inj h)
    subst e
    exact ⟨a, rfl⟩
theorem len2 {α : Type} {us : List α} (h : us.length = 2) : ∃ a0 a1, us = [a0, a1] := by
  cases us with
  | nil => cases h
  | cons a r =>
    obtain ⟨b0, rfl⟩ := len1 (Nat.succ.inj h)
    exact ⟨a, b0, rfl⟩
theorem len3 {α : Type} {us : List α} (h : us.length = 3) : ∃ a0 a1 a2, us = [a0, a1, a2] := by
  cases us with
  | nil => cases h
  | cons a r =>
    obtain ⟨b0, b1, rfl⟩ := len2 (Nat.succ.inj h)
    exact ⟨a, b0, b1, rfl⟩
theorem len4 {α : Type} {us : List α} (h : us.length = 4) : ∃ a0 a1 a2 a3, us = [a0, a1, a2, a3] := by
  cases us with
  | nil => cases h
  | cons a r =>
    obtain ⟨b0, b1, b2, rfl⟩ := len3 (Nat.succ.inj h)
    exact ⟨a, b0, b1, b2, rfl⟩
noncomputable def noStar : Expr → Bool
  | .Starred .. => false
  | _ => true
theorem star_cons {e : Expr} {es : List Expr} {env : Env} (h : noStar e = true) : starEach (e :: es) env = (false, eval e env) :: starEach es env := by
  cases e <;> first | rfl | exact absurd h Bool.false_ne_true

variable {P : Program} {w : World} {K : PySem.W.Frag} {mg : Str → Option Value} {base : Heap} {ca : Nat → Addr} {X : L2.Cx}
theorem r_cns {e : Expr} {es : List Expr} {me : ME} {mr : MA} (ha : PE3 ca X e me) (hr : PA3 ca X es mr) (hs : noStar e = true := by rfl) : PA3 ca X (e :: es) (mCons me mr) := r_cons ha hr (star_cons hs)
noncomputable def noComp : Expr → Bool
  | .ListComp .. => false
  | .SetComp .. => false
  | .DictComp .. => false
  | _ => true
theorem swap_no {e : Expr} {t : Option Expr} {l : Nat} {env : Env} (h : noComp e = true) : swapsWith e t l env = pure false := by
  cases e <;> first | rfl | exact absurd h Bool.false_ne_true
theorem r_sto (i : Nat) {x : Str} {pos pos' : Pos} {e : Expr} {me : ME} (hN : X.N.Nodup) (he : PE3 ca X e me) (hi : X.N[i]? = some x := by rfl) (hx : L2.Loc X.env.scope x := by first | exact Or.inl rfl | exact Or.inr rfl)
    (hs : noComp e = true := by rfl) (hf : X.fn x = true ∨ X.env.scope.names.lookup x = some .local := by first | exact .inl rfl | exact .inr rfl) :
    PS3 ca X (.Assign [.Name x pos'] e pos) (mAsg (gSet i) me) := r_set i hN he hi hx (swap_no hs) hf
end L3

end
section
namespace L3
open PySem
noncomputable def insZ (x : Int) : List Int → List Int
  | [] => [x]
  | y :: r => if x ≤ y then x :: y :: r else y :: insZ x r
noncomputable def sortZ : List Int → List Int
  | [] => []
  | x :: r => insZ x (sortZ r)
noncomputable def pSorted (x : D) (g : G) : Res D := match seqOf g x with
  | some (true, ds) => (match intsD ds with
    | some ns => if ns.length < 64 then .ok (.ref g.length) (g ++ [.lst ((sortZ ns).map .int)]) else .stuck
    | none => .stuck)
  | _ => .stuck
noncomputable def pListRange (x : D) (g : G) : Res D := match x with
  | .int j => if 0 ≤ j ∧ j ≤ 1000000 then .ok (.ref g.length) (g ++ [.lst ((List.range j.toNat).map fun i => .int (i : Nat))]) else .stuck
  | _ => .stuck
noncomputable def insL {α : Type} (xs : List α) (k : Nat) (y : α) : List α := xs.take k ++ y :: xs.drop k
noncomputable def mInsert (o i e : ME) : ME := fun σ g => (o σ g).bind fun x g1 => match x with
  | .ref n => (match g1[n]? with
    | some (.lst _) => (i σ g1).bind fun z g2 => (e σ g2).bind fun y g3 => (match z, g3[n]? with
      | .int k, some (.lst ds) => if 0 ≤ k ∧ k ≤ ds.length ∧ ds.length < SZ then .ok .non (g3.set n (.lst (insL ds k.toNat y))) else .stuck
      | _, _ => .stuck)
    | _ => .stuck)
  | _ => .stuck
noncomputable def srcEnum (d : D) (g : G) : Res Src := match seqOf g d with
  | some (true, ds) => .ok ⟨fun g i => (match seqOf g d with
    | some (_, es) => (match es[i]? with
      | some x => some (some (.tup [.int i, x]))
      | none => some none)
    | none => none), ds.length⟩ g
  | _ => .stuck
noncomputable def mItEnum (a : ME) : MI := fun σ g => (a σ g).bind srcEnum
theorem insZ_perm (x : Int) : ∀ l : List Int, (insZ x l).Perm (x :: l)
  | [] => .refl _
  | y :: r => by
    unfold insZ
    split
    · exact .refl _
    · exact ((insZ_perm x r).cons y).trans (List.Perm.swap x y r)
theorem sortZ_perm : ∀ l : List Int, (sortZ l).Perm l
  | [] => .refl _
  | x :: r => (insZ_perm x (sortZ r)).trans ((sortZ_perm r).cons x)
theorem insZ_sorted (x : Int) : ∀ l : List Int, l.Pairwise (· ≤ ·) → (insZ x l).Pairwise (· ≤ ·)
  | [], _ => by simp [insZ]
  | y :: r, h => by
    unfold insZ
    have h' := List.pairwise_cons.mp h
    split
    · rename_i hxy
      exact List.pairwise_cons.mpr ⟨fun z hz => by
        rcases List.mem_cons.mp hz with rfl | hz
        · exact hxy
        · exact Int.le_trans hxy (h'.1 z hz), h⟩
    · rename_i hxy
      refine List.pairwise_cons.mpr ⟨fun z hz => ?_, insZ_sorted x r h'.2⟩
      rcases List.mem_cons.mp ((insZ_perm x r).mem_iff.mp hz) with rfl | hz
      · omega
      · exact h'.1 z hz
theorem sortZ_sorted : ∀ l : List Int, (sortZ l).Pairwise (· ≤ ·)
  | [] => .nil
  | x :: r => insZ_sorted x _ (sortZ_sorted r)
theorem sorted_uniq : ∀ (l m : List Int), l.Perm m → l.Pairwise (· ≤ ·) → m.Pairwise (· ≤ ·) → l = m
  | [], m, h, _, _ => (List.nil_perm.mp h).symm
  | x :: l, [], h, _, _ => by have := h.length_eq; simp at this
  | x :: l, y :: m, h, hl, hm => by
    have hl' := List.pairwise_cons.mp hl
    have hm' := List.pairwise_cons.mp hm
    have e : x = y := by
      have h1 : x ∈ y :: m := h.mem_iff.mp (List.mem_cons_self ..)
      have h2 : y ∈ x :: l := h.mem_iff.mpr (List.mem_cons_self ..)
      have a : y ≤ x := by
        rcases List.mem_cons.mp h1 with e | h1
        · omega
        · exact hm'.1 x h1
      have b : x ≤ y := by
        rcases List.mem_cons.mp h2 with e | h2
        · omega
        · exact hl'.1 y h2
      omega
    subst e
    rw [sorted_uniq l m ((List.perm_cons x).mp h) hl'.2 hm'.2]
end L3

end
section
namespace L3
open PySem PySem.Spec PyProof.Rows L2
section
variable {X : Cx} {ca : Nat → Addr} {a b e o i : Expr} {ma mb me mo mi : ME} {pos p p2 apos : Pos} {k : Nat}
noncomputable def rInsert : V → List V → Hp → VK → Prop := fun x vs H Q => ∃ l xs k y, x = .ref l ∧ vs = [.int ((k : Nat) : Int), y] ∧ H l = some (.lst xs) ∧ k ≤ xs.length ∧ xs.length < sizeLine ∧ Q .non (upd H l (.lst (insL xs k y)))
theorem mt_insert : MtM X "list.insert" rInsert := by
  intro pins s σ H x vs v us Q I rx rv h
  obtain ⟨l, xs, k, y, rfl, rfl, hH, hk, hz, q⟩ := h
  cases rx
  obtain ⟨u, w', rfl, ⟨t, rfl⟩, rw'⟩ := vals2 rv
  obtain ⟨z, its, n, r, hl, e⟩ := I.lstM hH
  have hz2 : xs.length < 16777216 := by rw [← sizeLine_eq]; exact hz
  have hf : Builtin.List.listFitsIndex ((k : Nat) : Int) = true := fitsIndex_both (by omega) (by omega)
  have hs0 : its.toArray.size ≤ sizeLine := by rw [List.size_toArray, ← hl]; exact Nat.le_of_lt hz
  have hc0 : ¬(!Builtin.List.listFitsIndex ((k : Nat) : Int)) = true := by rw [hf]; decide
  have M := @PySem.AutoSeq1.list_insert_list_int_val_1 l its.toArray n ((k : Nat) : Int) t w' hc0 hs0
  refine call_meets PySem.F.slot_list_insert ⟨_, e, rfl⟩ PySem.F.entry_list_insert (PySem.F.args_list_insert_3 (.ref l) (.int ((k : Nat) : Int) t) w') (by assumption) ?_
  refine ⟨e, ?_⟩
  refine ⟨.non, _, I.lset (its' := insL its k w') hH e ?_ ((r.take k).append (.cons rw' (r.drop k))) ?_, rfl, q⟩
  · show ((its.toArray.extract 0 (if ((k : Nat) : Int) < 0 then (((k : Nat) : Int) + ((its.toArray.size : Nat) : Int)).toNat else min ((k : Nat) : Int).toNat its.toArray.size)).push w' ++ its.toArray.extract (if ((k : Nat) : Int) < 0 then (((k : Nat) : Int) + ((its.toArray.size : Nat) : Int)).toNat else min ((k : Nat) : Int).toNat its.toArray.size)) = _
    rw [if_neg (by omega), Int.toNat_natCast, List.size_toArray, Nat.min_eq_left (by omega)]
    apply Array.toList_inj.mp
    simp [insL]
    exact List.take_of_length_le (by simp)
  · rw [List.length_append, List.length_cons, List.length_take, List.length_drop]
    omega
theorem Dens.insL {K : PySem.W.Frag} {μ : List Addr} {H : Hp} {vs : List V} {ds : List D} {v : V} {d : D} (h : Dens K μ H vs ds) (hd : Den K μ H v d) (k : Nat) : Dens K μ H (L3.insL vs k v) (L3.insL ds k d) := (h.take k).append (.cons hd (h.drop k))
theorem r_insert (ho : PE3 ca X o mo) (hi : PE3 ca X i mi) (he : PE3 ca X e me) (hbase : attributeBase o "insert" X.env (eval o X.env) = eval o X.env := by rfl)
    (hfew : ((backTo pos (starEach [i, e] X.env)).all (fun x => !x.1) && (backToKw pos (keywordEach [] X.env)).all (fun x => x.1.isSome) && decide ([i, e].length + ([] : List Keyword).length + (if ([] : List Keyword).isEmpty then 0 else 1) < 30)) = true := by rfl)
    (hline : (apos.endLine == pos.line) = true := by rfl) (hs : starEach [i, e] X.env = (false, eval i X.env) :: starEach [e] X.env := by rfl) (hs2 : starEach [e] X.env = (false, eval e X.env) :: starEach [] X.env := by rfl) (hplain : (backTo pos (starEach [e] X.env)).any (·.1) = false := by rfl) :
    PE3 ca X (.Call (.Attribute o "insert" apos) [i, e] [] pos) (mInsert mo mi me) :=
  fun pn Φ => conseq (pe_bm (X := xat X ca pn Φ) PySem.F.plainAttrs_list PySem.F.slot_list_insert PySem.F.type_list_insert mt_insert (ho pn Φ) (r_cons hi (r_cons he r_nil hs2) hs pn Φ) hbase hfew hline hs hplain) fun σ H Q ⟨σ3, g, μ, R, q⟩ => up_mono (bindE R q) fun x H1 hQ => by
    obtain ⟨d, g1, μ1, e1, R1, q1, p1⟩ := hQ
    cases q1 with
    | @ref n t hn =>
      dsimp only at p1
      cases hgn : g1[n]? with
      | none => rw [hgn] at p1; exact p1.elim
      | some ob =>
        rw [hgn] at p1
        obtain ⟨t', ht', orp⟩ := R1.g.addr hgn
        rw [hn] at ht'; cases ht'
        cases ob with
        | lst ds0 =>
          obtain ⟨vs0, hH0, _⟩ := orp
          dsimp only at p1
          refine ⟨.inl ⟨rfl, _, .of hH0⟩, σ3, g1, μ1, R1, ?_⟩
          unfold mCons mNil
          cases hmi : mi σ3 g1 with
          | raise _ _ => rw [hmi] at p1; exact p1
          | stuck => rw [hmi] at p1; exact p1.elim
          | ok z g2 =>
            rw [hmi, Res.bind_ok] at p1
            rw [Res.bind_ok]
            cases hm : me σ3 g2 with
            | raise _ _ => rw [hm] at p1; exact p1
            | stuck => rw [hm] at p1; exact p1.elim
            | ok y g3 =>
              rw [hm, Res.bind_ok] at p1
              rw [Res.bind_ok, Res.bind_ok, Res.bind_ok]
              intro vs H2 μ2 e2 r2 q2
              cases q2 with
              | @cons vz _ _ _ hz1 hz2 =>
                cases hz2 with
                | @cons vy _ _ _ h1 h2 =>
                  cases h2
                  cases hg2 : g3[n]? with
                  | none => rw [hg2] at p1; cases z <;> exact p1.elim
                  | some ob2 =>
                    rw [hg2] at p1
                    obtain ⟨t', ht', orp⟩ := r2.addr hg2
                    rw [e2.at hn] at ht'; cases ht'
                    cases hz1 with
                    | int kk =>
                      cases ob2 with
                      | lst ds =>
                        obtain ⟨ws, hH, qs⟩ := orp
                        dsimp only at p1
                        by_cases zz : 0 ≤ kk ∧ kk ≤ ds.length ∧ ds.length < SZ
                        · rw [if_pos zz] at p1
                          have ek : ((kk.toNat : Nat) : Int) = kk := by omega
                          have ex : Ext X.K μ2 H2 μ2 (upd H2 t (.lst (L3.insL ws kk.toNat vy))) := ext_set hH (by intro _ z; cases z) (by intro _ _ z; cases z)
                          refine ⟨t, ws, kk.toNat, vy, rfl, by rw [ek], hH, by rw [qs.length]; omega, by rw [qs.length]; exact Nat.lt_of_lt_of_le zz.2.2 sz_line, p1 _ _ μ2 (e2.trans ex) ?_ .non⟩
                          exact r2.set (e2.at hn) hH (by intro _ z; cases z) (by intro _ _ z; cases z) ⟨_, upd_same, Dens.insL (qs.mono ex) (h1.mono ex) _⟩
                        · rw [if_neg zz] at p1; exact p1.elim
                      | _ => exact p1.elim
                    | _ => exact p1.elim
        | _ => exact p1.elim
    | _ => exact p1.elim
theorem intsAre_of : ∀ {ns : List Int} {us : List Value}, Vals (ns.map V.int) us → IntsAre us ns
  | [], _, h => by cases h; exact .nil
  | n :: ns, _, h => by
    cases h with
    | cons h1 h2 =>
      obtain ⟨t, rfl⟩ := h1
      exact .cons n t (intsAre_of h2)
theorem vals_of : ∀ {us : List Value} {ns : List Int}, IntsAre us ns → Vals (ns.map V.int) us
  | _, _, .nil => .nil
  | _, _, .cons n t r => .cons ⟨t, rfl⟩ (vals_of r)
theorem call_sorted : CallR X (.builtin "sorted") (fun xs H Q => ∃ (p : Addr) (ns : List Int), xs = [.ref p] ∧ SqL X.K H p (ns.map V.int) ∧ ns.length < 64 ∧ ∀ l, H l = none → Q (.ref l) (upd H l (.lst ((sortZ ns).map V.int)))) := by
  intro pins s σ H xs us Q I r h
  obtain ⟨p, ns, rfl, hq, h64, q⟩ := h
  obtain ⟨u, rfl, rx⟩ := vals1 r
  cases rx
  obtain ⟨its, r', pl, hz⟩ := I.list hq
  have hlen := r'.length
  rw [List.length_map] at hlen
  refine sorted_ints pl.isList (intsAre_of r') (by omega) fun out ns' a1 a2 a3 => ?_
  have e : ns' = sortZ ns := sorted_uniq _ _ (a2.trans (sortZ_perm ns).symm) a3 (sortZ_sorted ns)
  subst e
  obtain ⟨c, he⟩ := sortedAll_at s.heap its out
  have hl2 : ((sortZ ns).map V.int).length ≤ sizeLine := by rw [List.length_map, (sortZ_perm ns).length_eq]; rw [List.length_map] at hz; exact hz
  exact ⟨.ref (s.heap.objs.size + 1), _, I.laid (t' := s.toks) (fun b o => sortedAll_old) (Nat.le_succ _) (show ObjOk X.prog X.w _ _ _ (.lst ((sortZ ns).map V.int)) from ⟨hl2, out.toList, c, vals_of a1, he⟩), rfl, q _ (I.hok.fresh (Nat.le_succ _))⟩
theorem dens_mk {K : PySem.W.Frag} {μ : List Addr} {H : Hp} : ∀ ns : List Int, Dens K μ H (ns.map V.int) (ns.map D.int)
  | [] => .nil
  | n :: ns => .cons (.int n) (dens_mk ns)
theorem r_sorted (hm : X.mg "sorted" = none) (he : PE3 ca X e me) (hg : Gl X "sorted" := by rfl) (hs : starEach [e] X.env = [(false, eval e X.env)] := by rfl) (hpl : (backTo pos (starEach [] X.env)).any (·.1) = false := by rfl) :
    PE3 ca X (.Call (.Name "sorted" p) [e] [] pos) (mOp1 pSorted me) :=
  r_blt (r := fun xs H Q => ∃ (p : Addr) (ns : List Int), xs = [V.ref p] ∧ SqL X.K H p (ns.map V.int) ∧ ns.length < 64 ∧ ∀ l, H l = none → Q (.ref l) (upd H l (.lst ((sortZ ns).map V.int)))) (fun _ _ => call_sorted) hm boot_sorted (fun Φ σ H μ g y d Q r q pp => by
    have el : ∀ l : Addr, (μ ++ [l])[g.length]? = some l := fun l => by rw [← r.len]; simp
    unfold pSorted at pp
    cases hs1 : seqOf g d with
    | none => rw [hs1] at pp; exact pp.elim
    | some p1 =>
      obtain ⟨b, ds⟩ := p1
      rw [hs1] at pp
      cases b with
      | false => exact pp.elim
      | true =>
        dsimp only at pp
        cases hi : intsD ds with
        | none => rw [hi] at pp; exact pp.elim
        | some ns =>
          rw [hi] at pp
          dsimp only at pp
          by_cases h64 : ns.length < 64
          · rw [if_pos h64] at pp
            obtain ⟨a, ws, rfl, sq, dn⟩ := seqOf_sq r q hs1
            have ew := dens_ints dn hi
            subst ew
            exact ⟨a, ns, rfl, sq, h64, fun l hl => pp _ _ (μ ++ [l]) (ext_push hl) (r.push hl ⟨_, upd_same, dens_mk _⟩) (.ref (el l))⟩
          · rw [if_neg h64] at pp; exact pp.elim) he hg (by decide) (by decide) hs hpl
theorem vals_rng : ∀ (us : List Value) (k : Nat), (∀ (i : Nat) v, us[i]? = some v → ∃ t, v = .int ((k + i : Nat) : Int) t) → Vals ((List.range' k us.length).map fun (i : Nat) => V.int (i : Int)) us
  | [], _, _ => .nil
  | u :: us, k, h => by
    rw [List.length_cons, List.range'_succ, List.map_cons]
    refine .cons (h 0 u rfl) (vals_rng us (k + 1) fun i v hv => ?_)
    obtain ⟨t, rfl⟩ := h (i + 1) v hv
    exact ⟨t, by rw [show k + (i + 1) = k + 1 + i by omega]⟩
theorem pe_listRange {te : TE} {pos2 : Pos} (hc : X.calm = true) (hgl : Gl X "list") (hml : X.mg "list" = none) (hgr : Gl X "range") (hmr : X.mg "range" = none) (he : PE X e te) (hs : starEach [e] X.env = [(false, eval e X.env)])
    (hs1 : starEach [.Call (.Name "range" p2) [e] [] pos2] X.env = [(false, eval (.Call (.Name "range" p2) [e] [] pos2) X.env)]) :
    PE X (.Call (.Name "list" p) [.Call (.Name "range" p2) [e] [] pos2] [] pos) (fun σ H Q => te σ H fun v H1 => ∃ j : Nat, v = .int (j : Int) ∧ j ≤ 1000000 ∧ ∀ l, H1 l = none → Q (.ref l) (upd H1 l (.lst ((List.range j).map fun (i : Nat) => V.int (i : Int))))) := by
  intro pins s σ H Q I h
  refine wpAny_Call_Name_kw (ld_blt I hgl hml boot_list (PyProof.Rows.callWith_type1 ?_ hs1 rfl))
  rw [hs1]
  show wpAny _ _ (spliced ((false, eval (.Call (.Name "range" p2) [e] [] pos2) X.env) :: [])) _ _ s
  refine Calls.spliced_cons ?_
  refine Call_ (ld_blt I hgr hmr boot_range (PyProof.Rows.callWith_type1 ?_ hs rfl))
  rw [hs]
  show wpAny _ _ (spliced ((false, eval e X.env) :: [])) _ _ s
  refine Calls.spliced_cons (thn (he pins s σ H _ I h) fun u s1 ⟨v, H1, I1, r1, j, ej, hj, q⟩ => ?_)
  subst ej
  obtain ⟨t, rfl⟩ := r1
  refine wpAny_pure ?_
  refine call_range_1 ?_
  refine wpAny_pure ?_
  refine call_list_range (n := j) (I1.ok.hd hc) (IsRange.new s1.heap 0 (j : Int) 1 s1.toks t (s1.toks + 1)) (small_one (by decide) (by decide) (by omega) (by omega)) ?_ (by omega) fun h' tk acc' c' kp e ia => ?_
  · rw [rangeSize_one]; split <;> omega
  · obtain ⟨hsz, hit⟩ := ia
    have hv : Vals ((List.range j).map fun (i : Nat) => V.int (i : Int)) acc'.toList := by
      have := vals_rng acc'.toList 0 fun i v hv => by
        rw [Array.getElem?_toList] at hv
        obtain ⟨t', rfl⟩ := hit i v hv
        exact ⟨t', by rw [show (0 : Int) + (i : Int) * 1 = ((0 + i : Nat) : Int) by omega]⟩
      rw [Array.length_toList, hsz, ← List.range_eq_range'] at this
      exact this
    exact ⟨.ref _, _, I1.laid (t' := tk) (fun b o eb => kp b o (Heap.get?_push_of_some _ eb)) (by rw [Heap.size_push]; exact Nat.le_succ _) (show ObjOk X.prog X.w _ h' _ (.lst ((List.range j).map fun (i : Nat) => V.int (i : Int))) from ⟨by rw [List.length_map, List.length_range, sizeLine_eq]; omega, acc'.toList, c', hv, e⟩), rfl, q _ (I1.hok.fresh (by rw [Heap.size_push]; exact Nat.le_succ _))⟩
theorem r_listRange {pos2 : Pos} (hc : X.calm = true) (hml : X.mg "list" = none) (hmr : X.mg "range" = none) (he : PE3 ca X e me) (hgl : Gl X "list" := by rfl) (hgr : Gl X "range" := by rfl) (hs : starEach [e] X.env = [(false, eval e X.env)] := by rfl)
    (hs1 : starEach [.Call (.Name "range" p2) [e] [] pos2] X.env = [(false, eval (.Call (.Name "range" p2) [e] [] pos2) X.env)] := by rfl) : PE3 ca X (.Call (.Name "list" p) [.Call (.Name "range" p2) [e] [] pos2] [] pos) (mOp1 pListRange me) :=
  fun pn Φ => conseq (pe_listRange (X := xat X ca pn Φ) hc hgl hml hgr hmr (he pn Φ) hs hs1) fun σ H Q ⟨σ3, g, μ, R, q⟩ => up_mono (bindE R q) fun x H1 hQ => by
    obtain ⟨d, g1, μ1, e1, R1, q1, p1⟩ := hQ
    have el : ∀ l : Addr, (μ1 ++ [l])[g1.length]? = some l := fun l => by rw [← R1.g.len]; simp
    unfold pListRange at p1
    cases q1 with
    | int jj =>
      dsimp only at p1
      by_cases hj : 0 ≤ jj ∧ jj ≤ 1000000
      · rw [if_pos hj] at p1
        refine ⟨jj.toNat, by rw [show ((jj.toNat : Nat) : Int) = jj by omega], by omega, fun l hl => p1 _ _ (μ1 ++ [l]) (ext_push hl) (R1.g.push hl ⟨_, upd_same, ?_⟩) (.ref (el l))⟩
        have := dens_mk (K := X.K) (μ := μ1 ++ [l]) (H := upd H1 l (.lst ((List.range jj.toNat).map fun (i : Nat) => V.int (i : Int)))) ((List.range jj.toNat).map fun (i : Nat) => (i : Int))
        rw [List.map_map, List.map_map] at this
        exact this
      · rw [if_neg hj] at p1; exact p1.elim
    | _ => exact p1.elim
end
end L3

end
section
namespace L3
open PySem PySem.Spec PyProof.Rows L2
noncomputable def Ite (K : PySem.W.Frag) (a : Addr) : It :=
  ⟨fun i H => ∃ xs x, SqL K H a xs ∧ xs[i]? = some x,
   fun i H v H' => ∃ p x, H p = none ∧ v = .ref p ∧ H' = upd H p (.tup [.int (i : Int), x]) ∧ ∀ xs, SqL K H a xs → xs[i]? = some x,
   fun i H => ∃ xs, SqL K H a xs ∧ xs.length ≤ i⟩
noncomputable def EnTn (e it l : Addr) (i : Nat) (h : Heap) : Prop := (∃ old, IsEnum h e it (i : Int) old) ∧ h.IsListIter it l i
theorem turn_enum {P : Program} {w : World} {K : PySem.W.Frag} {elts : List Expr} {kk : Nat} {tp : Pos} (e it l : Addr) (hei : e ≠ it) :
    Turn P w K (.Tuple elts kk tp) (Ite K l) [e, it] e (EnTn e it l) where
  mem := by simp
  obj := fun i h st b hb => by
    obtain ⟨⟨old, hE⟩, hI⟩ := st
    have hb' : b = e ∨ b = it := by simpa using hb
    rcases hb' with rfl | rfl
    · exact ⟨_, hE, fun v q => by cases q⟩
    · obtain ⟨o, eo, c, d⟩ := hI
      exact ⟨o, eo, fun v z => by rw [d] at z; cases z⟩
  keep := fun i h h' st k => by
    obtain ⟨⟨old, hE⟩, hI⟩ := st
    exact ⟨⟨old, k e (by simp) _ hE⟩, hI.at fun o x => k it (by simp) o x⟩
  item := by
    intro X hP hw hK hc i pins s σ H E I hf st hg
    subst hP hw hK
    obtain ⟨xs, x, q1, hx⟩ := hg
    obtain ⟨its, r1, p1, hz1⟩ := I.list q1
    obtain ⟨u, hu, ru⟩ := r1.get hx
    obtain ⟨⟨old, hE⟩, hI⟩ := st
    have fe := hf e (by simp)
    have fi := hf it (by simp)
    refine wpAny_pyNext_enum_item hE hI p1.isList (x := u) (by simpa using hu) hei fun h' ho hit' hT hsz hk => ?_
    have hp : H s.heap.objs.size = none := I.hok.fresh (Nat.le_refl _)
    have inC : ∀ b, b ∈ [e, it] → FpOk X pins H b := fun b hb => hf b hb
    have hk' : ∀ b o, b ∉ [e, it] → s.heap.get? b = some o → h'.get? b = some o := fun b o hb ee => hk b o (fun q => hb (by simp [q])) (fun q => hb (by simp [q])) ee
    have nC : ∀ b v, H b = some v → b ∉ [e, it] := fun b v ee hb => by rw [(inC b hb).1] at ee; cases ee
    have nP : ∀ b v, H b = some v → b ≠ s.heap.objs.size := fun b v ee => ne_of_none ee hp
    have I1 : Inv X pins σ (upd H s.heap.objs.size (.tup [.int (i : Int), x])) { s with heap := h', toks := s.toks + 1 } := by
      refine I.step (g' := s.gens) (t' := s.toks + 1) (d' := s.drawn) (ch := [e, it]) (fun b hb => ⟨(inC b hb).2.2.2.1, (inC b hb).2.1, (inC b hb).2.2.2.2.1, (inC b hb).2.2.2.2.2⟩) (fun b o _ _ hb ee _ => hk' b o hb ee) (fun b o _ _ hb ee _ => ⟨o.slots, hk' b o hb ee⟩)
        (fun b o hb ee n => by rw [upd_ne (Nat.ne_of_lt (Heap.lt_size ee))]; exact n) (fun b o hb ee => ⟨o, hk' b o hb ee⟩) (fun b v ee => by rw [upd_ne (nP b _ ee)]; exact ee) (fun b o v ee => by rw [upd_ne (nP b _ ee)]; exact ee) (fun b ps ee => ⟨#[], by rw [upd_ne (nP b _ ee), ee]; simp⟩)
        (fun m hm => ?_) (fun b v ee => ?_) I.bare
      · obtain ⟨o, es, ep, hoo, rr⟩ := hm
        exact ⟨o, es, ep, hk' _ o (fun hb => (inC _ hb).2.1 rfl) hoo, rr⟩
      · by_cases hb : b = s.heap.objs.size
        · subst hb
          rw [upd_same] at ee; cases ee
          exact ⟨by rw [sizeLine_eq]; show 2 ≤ 16777216; decide, [.int (i : Int) s.toks, u], .cons ⟨_, rfl⟩ (.cons ru .nil), ⟨_, hT, rfl, _, rfl⟩⟩
        · rw [upd_ne hb] at ee
          refine (I.hok b v ee).stay (fun c' v' hc' q => ?_) (fun c' q => by rw [upd_ne (nP c' _ q)]; exact q) fun c' xs' q => by rw [upd_ne (nP c' _ q)]; exact q
          rcases hc' with rfl | hc'
          · exact hk' _ _ (nC _ _ ee) q
          · exact hk' _ _ (nC _ _ hc') q
    refine ⟨_, rfl, wpAny_letOwnedTupleGo_enum (s := { s with heap := h', toks := s.toks + 1 }) ho fun h'' hE'' hs'' => ?_⟩
    have hpe : s.heap.objs.size ≠ e := Nat.ne_of_gt (Heap.lt_size hE)
    have I2 : Inv X pins σ (upd H s.heap.objs.size (.tup [.int (i : Int), x])) { s with heap := h'', toks := s.toks + 1 } := Inv.turned (s := { s with heap := h', toks := s.toks + 1 }) (t' := s.toks + 1) I1 (fun b o hb ee => hs''.extBut b o hb ee) (by rw [upd_ne (Ne.symm hpe)]; exact fe.1) fe.2.1 fe.2.2.2.1 fe.2.2.2.2.1 fe.2.2.2.2.2
    have e2 : (i : Int) + 1 = ((i + 1 : Nat) : Int) := by omega
    rw [e2] at hE''
    refine ⟨.ref s.heap.objs.size, _, I2, rfl, ⟨_, x, hp, rfl, rfl, fun xs' q => by rw [I.list_inj q q1]; exact hx⟩, ⟨⟨_, hE''⟩, hit'.at fun o ee => hs''.extBut _ o (Ne.symm hei) ee⟩, fun b hb => ?_⟩
    have lt : b < s.heap.objs.size := by
      have hb' : b = e ∨ b = it := by simpa using hb
      rcases hb' with rfl | rfl
      · exact Heap.lt_size hE
      · obtain ⟨o, eo, _⟩ := hI
        exact Heap.lt_size eo
    rw [upd_ne (Nat.ne_of_lt lt)]
    exact (hf b hb).1
  done := by
    intro X hP hw hK hc i pins s σ H E I hf st hg
    subst hP hw hK
    obtain ⟨xs, q1, hl⟩ := hg
    obtain ⟨its, r1, p1, hz1⟩ := I.list q1
    have hlen := r1.length
    obtain ⟨⟨old, hE⟩, hI⟩ := st
    obtain ⟨f0, f1, f2, f3, f4, f5⟩ := hf it (by simp)
    exact wpAny_pyNext_enum_end (I.ok.hd hc) hE hI p1.isList (Array.getElem?_eq_none (by simp; omega)) fun h' eb => ⟨rfl, I.turned (t' := s.toks) (fun b o hb ee => eb b o hb ee) f0 f1 f3 f4 f5⟩
  self := fun _ _ _ _ _ st h => by
    obtain ⟨⟨old, hE⟩, _⟩ := st
    exact wpAny_pyIter_enum hE h
section
variable {X : Cx} {ca : Nat → Addr} {e1 : Expr} {m1 : ME} {p pos tp : Pos} {elts : List Expr} {kk : Nat}
theorem pi_enum {ta : TA} (hg : Gl X "enumerate") (hm : X.mg "enumerate" = none) (ha : PA X [e1] ta) (hs : starEach [e1] X.env = [(false, eval e1 X.env)]) :
    PI X (.Tuple elts kk tp) (.Call (.Name "enumerate" p) [e1] [] pos) (fun σ H R => ta σ H fun vs H1 => ∃ a xs, vs = [.ref a] ∧ SqL X.K H1 a xs ∧ R (Ite X.K a) H1) := by
  intro pins s σ H R I h
  refine Call_ (ld_blt I hg hm boot_enumerate (PyProof.Rows.callWith_type1 (thn (ha pos pins s σ H _ I h) fun us s1 ⟨vs, H1, I1, r1, q1⟩ => ?_) hs rfl))
  obtain ⟨a, xs, rfl, hq, q⟩ := q1
  cases r1 with
  | cons ru rr =>
    cases rr
    cases ru
    obtain ⟨its, v1, p1, hz⟩ := I1.list hq
    refine call_enumerate_list p1.isList fun h' hE hI hsz hk => wpAny_pyIter_enum hE ?_
    have I2 : Inv X pins σ H1 { s1 with heap := h' } := I1.kept (t' := s1.toks) hk
    refine ⟨s1.heap.objs.size + 1, _, _, _, H1, rfl, I2, turn_enum _ s1.heap.objs.size a (Nat.succ_ne_self _), ⟨⟨_, hE⟩, hI⟩, fun b hb => ?_, q⟩
    have hb' : b = s1.heap.objs.size + 1 ∨ b = s1.heap.objs.size := by simpa using hb
    have hle : s1.heap.objs.size ≤ b := by rcases hb' with h | h <;> rw [h] <;> first | exact Nat.le_refl _ | exact Nat.le_add_right _ _
    exact I1.fpOk hle (I1.hok.fresh hle)
theorem sim_enum {K : PySem.W.Frag} {μ : List Addr} {H : Hp} {g : G} {v1 : V} {d1 : D} {xs : List D} {t : Nat} (q1 : Den K μ H v1 d1) (h1 : seqOf g d1 = some (true, xs)) {a1 : Addr} (e1 : v1 = .ref a1) :
    Sim K ca μ H ⟨fun g i => (match seqOf g d1 with
    | some (_, es) => (match es[i]? with
      | some x => some (some (.tup [.int i, x]))
      | none => some none)
    | none => none), t⟩ (Ite K a1) := by
  intro i H1 μ1 g1 ex r
  dsimp only
  cases k1 : seqOf g1 d1 with
  | none => trivial
  | some p1 =>
    obtain ⟨c1, xs1⟩ := p1
    have f1 := seqOf_kind (K := K) (μ := μ) (H := H) (μ' := μ) (H' := H) (v := v1) h1 k1
    subst f1
    obtain ⟨z1, vs, w1, s1, d1s⟩ := seqOf_sq r (q1.mono ex) k1
    rw [e1] at w1; cases w1
    dsimp only
    cases hx : xs1[i]? with
    | none =>
      refine ⟨vs, s1, ?_⟩
      rw [d1s.length]; exact List.getElem?_eq_none_iff.mp hx
    | some x =>
      obtain ⟨vx, hvx, qx⟩ := d1s.get hx
      refine ⟨⟨vs, vx, s1, hvx⟩, fun v H' yl => ?_⟩
      obtain ⟨pp, x', hp, rfl, rfl, u1⟩ := yl
      have := u1 vs s1
      rw [hvx] at this; cases this
      exact ⟨ext_new hp, r.new hp, .tup (.of upd_same) (.cons (.int _) (.cons (qx.mono (ext_new hp)) .nil))⟩
theorem r_itEnum (hm : X.mg "enumerate" = none) (h1 : PE3 ca X e1 m1) (hg : Gl X "enumerate" := by rfl) (hs : starEach [e1] X.env = [(false, eval e1 X.env)] := by rfl) : PI3 ca X (.Tuple elts kk tp) (.Call (.Name "enumerate" p) [e1] [] pos) (mItEnum m1) :=
  fun pn Φ => conseqI (pi_enum (X := xat X ca pn Φ) hg hm (r_cons h1 r_nil hs pn Φ) hs) fun σ H R hQ => by
    obtain ⟨σ3, g, μ, Rp, q⟩ := hQ
    refine ⟨σ3, g, μ, Rp, ?_⟩
    unfold mItEnum at q
    unfold mCons mNil
    cases hm1 : m1 σ3 g with
    | raise _ _ => rw [hm1] at q; exact q
    | stuck => rw [hm1] at q; exact q.elim
    | ok d1 g1 =>
      rw [hm1, Res.bind_ok] at q
      rw [Res.bind_ok, Res.bind_ok]
      intro vs H1 μ1 ex r1 q1
      unfold srcEnum at q
      cases hs1 : seqOf g1 d1 with
      | none => rw [hs1] at q; exact q.elim
      | some p1 =>
        obtain ⟨b, ds⟩ := p1
        rw [hs1] at q
        cases b with
        | false => exact q.elim
        | true =>
          cases q1 with
          | @cons v _ _ _ n1 q1 =>
            cases q1
            obtain ⟨a, ws, rfl, sq, dn⟩ := seqOf_sq r1 n1 hs1
            exact ⟨a, ws, rfl, sq, q _ H1 μ1 ex r1 (sim_enum n1 hs1 rfl)⟩
end
end L3

end
section
namespace L3
open PySem
noncomputable def b_is_whole : MS := (mRet (mAnd (mOp1 (pIsin .int) (mVar 0)) (mNot (mOp1 (pIsin .bool) (mVar 0)))))
noncomputable def f_is_whole : MF := mDef 1 0 b_is_whole
noncomputable def b_is_below : MS := (mRet (mAnd (mCall f_is_whole (mCons (mVar 0) mNil)) (mChain pLe pLt (mLit (.int 0)) (mVar 0) (mVar 1))))
noncomputable def f_is_below : MF := mDef 2 0 b_is_below
noncomputable def b_other_way : MS := (mRet (mIfE (mTest (mOp2 pEq (mVar 0) (mLit (.str (Str.ofString "r"))))) (mLit (.str (Str.ofString "l"))) (mLit (.str (Str.ofString "r")))))
noncomputable def f_other_way : MF := mDef 1 0 b_other_way
noncomputable def b_is_entry : MS := (mSeq (mIf (mTest (mOp2 pIs (mVar 0) (mLit .non))) (mRet (mLit (.bl true))) mSkip)
  (mSeq (mIf (mOrT (mNotT (mTest (mOp1 (pIsin .tuple) (mVar 0)))) (mTest (mOp2 pNe (mOp1 pLen (mVar 0)) (mLit (.int 3))))) (mRet (mLit (.bl false))) mSkip)
  (mRet (mAnd (mCall f_is_below (mCons (mOp2 pIx (mVar 0) (mLit (.int 0))) (mCons (mVar 2) mNil))) (mAnd (mOp2 (pIn false) (mOp2 pIx (mVar 0) (mLit (.int 1))) (mOpA pTup (mCons (mLit (.str (Str.ofString "l"))) (mCons (mLit (.str (Str.ofString "r"))) mNil)))) (mCall f_is_below (mCons (mOp2 pIx (mVar 0) (mLit (.int 2))) (mCons (mVar 1) mNil))))))))
noncomputable def f_is_entry : MF := mDef 3 0 b_is_entry
noncomputable def b_check_rows_l1 : MS := (mSeq (mIf (mTest (mOp2 pNe (mOp1 pLen (mVar 3)) (mVar 2))) (mRaise 1 (mCons (mLit (.str (Str.ofString "each state has one entry for each sign"))) mNil)) mSkip)
  (mIf (mNotT (mTest (mOp1 pAll (mComp (mItSeq (mVar 3)) 1 [1, 2] (gSet 0) mTrue (mCall f_is_entry (mCons (mVar 0) (mCons (mVar 1) (mCons (mVar 2) mNil)))))))) (mRaise 1 (mCons (mLit (.str (Str.ofString "an entry is None or a tuple of a sign, a way and a state of the machine"))) mNil)) mSkip))
noncomputable def b_check_rows : MS := (mSeq (mIf (mTest (mOp2 pEq (mOp1 pLen (mVar 0)) (mLit (.int 0)))) (mRaise 1 (mCons (mLit (.str (Str.ofString "a machine has at least one state"))) mNil)) mSkip)
  (mSeq (mAsg (gSet 1) (mOp1 pLen (mVar 0)))
  (mSeq (mAsg (gSet 2) (mOp1 pLen (mOp2 pIx (mVar 0) (mLit (.int 0)))))
  (mSeq (mIf (mTest (mOp2 pEq (mVar 2) (mLit (.int 0)))) (mRaise 1 (mCons (mLit (.str (Str.ofString "a machine has at least one sign"))) mNil)) mSkip)
  (mFor (mItSeq (mVar 0)) (gSet 3) b_check_rows_l1)))))
noncomputable def f_check_rows : MF := mDef 1 3 b_check_rows
noncomputable def b_Machine_init : MS := (mSeq (mAsg (gSet 2) (mOp1 pTuple (mComp (mItSeq (mVar 1)) 1 [] (gSet 0) mTrue (mOp1 pTuple (mVar 0)))))
  (mSeq (mExpr (mCall f_check_rows (mCons (mVar 2) mNil)))
  (mSetAttr [11] (Str.ofString "table") (mVar 0) (mVar 2))))
noncomputable def f_Machine_init : MF := mDef 2 1 b_Machine_init
noncomputable def b_states_of : MS := (mRet (mOp1 pLen (mAttr [11] (Str.ofString "table") (mVar 0))))
noncomputable def f_states_of : MF := mDef 1 0 b_states_of
noncomputable def b_signs_of : MS := (mRet (mOp1 pLen (mOp2 pIx (mAttr [11] (Str.ofString "table") (mVar 0)) (mLit (.int 0)))))
noncomputable def f_signs_of : MF := mDef 1 0 b_signs_of
noncomputable def b_mirrored_entry : MS := (mSeq (mIf (mTest (mOp2 pIs (mVar 0) (mLit .non))) (mRet (mLit .non)) mSkip)
  (mRet (mOpA pTup (mCons (mOp2 pIx (mVar 0) (mLit (.int 0))) (mCons (mCall f_other_way (mCons (mOp2 pIx (mVar 0) (mLit (.int 1))) mNil)) (mCons (mOp2 pIx (mVar 0) (mLit (.int 2))) mNil))))))
noncomputable def f_mirrored_entry : MF := mDef 1 0 b_mirrored_entry
noncomputable def b_mirrored_row : MS := (mRet (mComp (mItSeq (mVar 0)) 1 [] (gSet 0) mTrue (mCall f_mirrored_entry (mCons (mVar 0) mNil))))
noncomputable def f_mirrored_row : MF := mDef 1 0 b_mirrored_row
noncomputable def b_mirrored : MS := (mRet (mMake 11 f_Machine_init (mCons (mComp (mItSeq (mAttr [11] (Str.ofString "table") (mVar 0))) 1 [] (gSet 0) mTrue (mCall f_mirrored_row (mCons (mVar 0) mNil))) mNil)))
noncomputable def f_mirrored : MF := mDef 1 0 b_mirrored
noncomputable def b_check_names : MS := (mSeq (mIf (mNotT (mTest (mOp1 pAll (mComp (mItSeq (mVar 0)) 1 [1] (gSet 0) mTrue (mCall f_is_below (mCons (mVar 0) (mCons (mVar 1) mNil))))))) (mRaise 2 (mCons (mLit (.str (Str.ofString "a name is a number from nought to one below how many there are"))) mNil)) mSkip)
  (mSeq (mIf (mTest (mOp2 pNe (mOp1 pSorted (mVar 0)) (mOp1 pListRange (mVar 1)))) (mRaise 2 (mCons (mLit (.str (Str.ofString "each number is there once"))) mNil)) mSkip)
  (mIf (mTest (mOp2 pNe (mOp2 pIx (mVar 0) (mLit (.int 0))) (mLit (.int 0)))) (mRaise 2 (mCons (mLit (.str (Str.ofString "nought stays at its place"))) mNil)) mSkip)))
noncomputable def f_check_names : MF := mDef 2 0 b_check_names
noncomputable def b_renamed_entry : MS := (mSeq (mIf (mTest (mOp2 pIs (mVar 0) (mLit .non))) (mRet (mLit .non)) mSkip)
  (mRet (mOpA pTup (mCons (mOp2 pIx (mVar 2) (mOp2 pIx (mVar 0) (mLit (.int 0)))) (mCons (mOp2 pIx (mVar 0) (mLit (.int 1))) (mCons (mOp2 pIx (mVar 1) (mOp2 pIx (mVar 0) (mLit (.int 2)))) mNil))))))
noncomputable def f_renamed_entry : MF := mDef 3 0 b_renamed_entry
noncomputable def b_renamed_row_l1 : MS := (mSetIx (mVar 3) (mVar 4) (mCall f_renamed_entry (mCons (mVar 5) (mCons (mVar 1) (mCons (mVar 2) mNil)))))
noncomputable def b_renamed_row : MS := (mSeq (mAsg (gSet 3) (mComp (mItSeq (mVar 0)) 1 [] (gSet 0) mTrue (mLit .non)))
  (mSeq (mFor (mItZip (mVar 2) (mVar 0)) (gTup3 [(gSet 4), (gSet 5)]) b_renamed_row_l1)
  (mRet (mVar 3))))
noncomputable def f_renamed_row : MF := mDef 3 3 b_renamed_row
noncomputable def b_renamed_l1 : MS := (mSetIx (mVar 3) (mVar 4) (mCall f_renamed_row (mCons (mVar 5) (mCons (mVar 1) (mCons (mVar 2) mNil)))))
noncomputable def b_renamed : MS := (mSeq (mExpr (mCall f_check_names (mCons (mVar 1) (mCons (mCall f_states_of (mCons (mVar 0) mNil)) mNil))))
  (mSeq (mExpr (mCall f_check_names (mCons (mVar 2) (mCons (mCall f_signs_of (mCons (mVar 0) mNil)) mNil))))
  (mSeq (mAsg (gSet 3) (mComp (mItSeq (mAttr [11] (Str.ofString "table") (mVar 0))) 1 [] (gSet 0) mTrue (mOpA pTup mNil)))
  (mSeq (mFor (mItZip (mVar 1) (mAttr [11] (Str.ofString "table") (mVar 0))) (gTup3 [(gSet 4), (gSet 5)]) b_renamed_l1)
  (mRet (mMake 11 f_Machine_init (mCons (mVar 3) mNil)))))))
noncomputable def f_renamed : MF := mDef 3 3 b_renamed
noncomputable def b_L_next : MS := (mSeq (mSetIx (mVar 1) (mLit (.int 0)) (mOp2 pAdd (mOp2 pIx (mVar 1) (mLit (.int 0))) (mLit (.int 1))))
  (mSeq (mAsg (gSet 2) (mLit (.int 0)))
  (mSeq (mIf (mTest (mOp2 pGt (mOp1 pLen (mVar 0)) (mLit (.int 0)))) (mAsg (gSet 2) (mOp2 pIx (mVar 0) (mOp2 pMod (mOp2 pIx (mVar 1) (mLit (.int 0))) (mOp1 pLen (mVar 0))))) mSkip)
  (mSeq (mAsg (gSet 3) (mOp2 pMod (mOp2 pMul (mOp2 pAdd (mOp2 pAdd (mOp2 pMod (mVar 2) (mLit (.int 2147483647))) (mOp2 pMul (mOp2 pMul (mOp2 pIx (mVar 1) (mLit (.int 0))) (mOp2 pIx (mVar 1) (mLit (.int 0)))) (mLit (.int 7919)))) (mLit (.int 11))) (mLit (.int 48271))) (mLit (.int 2147483647))))
  (mRet (mOp2 pMod (mOp2 pMul (mVar 3) (mVar 3)) (mLit (.int 1999999973))))))))
noncomputable def f_L_next : MF := mDef 2 2 b_L_next
noncomputable def b_L_same (me : MF) : MS := (mSeq (mIf (mTest (mOp1 (pIsin .dict) (mVar 1))) (mSeq (mIf (mOrT (mNotT (mTest (mOp1 (pIsin .dict) (mVar 0)))) (mTest (mOp2 pNe (mOp1 pLen (mVar 0)) (mOp1 pLen (mVar 1))))) (mRet (mLit (.bl false))) mSkip)
  (mRet (mOp1 pAll (mComp (mItSeq (mVar 1)) 1 [0, 1] (gSet 0) mTrue (mAnd (mOp2 (pIn false) (mVar 0) (mVar 1)) (mCall me (mCons (mOp2 pIx (mVar 1) (mVar 0)) (mCons (mOp2 pIx (mVar 2) (mVar 0)) mNil)))))))) mSkip)
  (mSeq (mIf (mOrT (mTest (mOp1 (pIsin .list) (mVar 1))) (mTest (mOp1 (pIsin .tuple) (mVar 1)))) (mSeq (mIf (mOrT (mTest (mOp2 pNe (mOp1 (pIsin .list) (mVar 0)) (mOp1 (pIsin .list) (mVar 1)))) (mTest (mOp2 pNe (mOp1 (pIsin .tuple) (mVar 0)) (mOp1 (pIsin .tuple) (mVar 1))))) (mRet (mLit (.bl false))) mSkip)
  (mRet (mAnd (mOp2 pEq (mOp1 pLen (mVar 0)) (mOp1 pLen (mVar 1))) (mOp1 pAll (mComp (mItZip (mVar 0) (mVar 1)) 2 [] (gTup3 [(gSet 0), (gSet 1)]) mTrue (mCall me (mCons (mVar 0) (mCons (mVar 1) mNil)))))))) mSkip)
  (mSeq (mIf (mTest (mOp1 (pIsin .str) (mVar 1))) (mRet (mAnd (mOp1 (pIsin .str) (mVar 0)) (mOp2 pEq (mVar 0) (mVar 1)))) mSkip)
  (mRet (mAnd (mOp1 (pIsin .int) (mVar 0)) (mAnd (mNot (mOp1 (pIsin .bool) (mVar 0))) (mOp2 pEq (mVar 0) (mVar 1))))))))
noncomputable def f_L_same : Nat → MF
  | 0 => fun _ _ => .stuck
  | k + 1 => mDef 2 0 (b_L_same (f_L_same k))
noncomputable def b_L_table_l2 : MS := (mSeq (mAsg (gSet 8) (mCall f_L_next (mCons (mVar 0) (mCons (mVar 1) mNil))))
  (mSeq (mAsg (gSet 9) (mOpA pTup (mCons (mOp2 pMod (mOp2 pFdiv (mVar 8) (mLit (.int 9))) (mVar 3)) (mCons (mOp2 pIx (mLit (.str (Str.ofString "lr"))) (mOp2 pMod (mOp2 pFdiv (mVar 8) (mLit (.int 100))) (mLit (.int 2)))) (mCons (mOp2 pMod (mOp2 pFdiv (mVar 8) (mLit (.int 300))) (mVar 2)) mNil)))))
  (mSeq (mIf (mTest (mOp2 pEq (mOp2 pMod (mVar 8) (mLit (.int 9))) (mLit (.int 0)))) (mAsg (gSet 9) (mLit .non)) mSkip)
  (mExpr (mAppend (mVar 6) (mVar 9))))))
noncomputable def b_L_table_l1 : MS := (mSeq (mAsg (gSet 6) (mOpA newL mNil))
  (mSeq (mFor (mItRange1 (mVar 3)) (gSet 7) b_L_table_l2)
  (mExpr (mAppend (mVar 4) (mVar 6)))))
noncomputable def b_L_table : MS := (mSeq (mAsg (gSet 4) (mOpA newL mNil))
  (mSeq (mFor (mItRange1 (mVar 2)) (gSet 5) b_L_table_l1)
  (mRet (mVar 4))))
noncomputable def f_L_table : MF := mDef 4 6 b_L_table
noncomputable def b_L_order_l1 : MS := (mExpr (mInsert (mVar 3) (mOp2 pMod (mCall f_L_next (mCons (mVar 0) (mCons (mVar 1) mNil))) (mOp2 pAdd (mOp1 pLen (mVar 3)) (mLit (.int 1)))) (mVar 4)))
noncomputable def b_L_order : MS := (mSeq (mAsg (gSet 3) (mOpA newL mNil))
  (mSeq (mFor (mItRange2 (mLit (.int 1)) (mVar 2)) (gSet 4) b_L_order_l1)
  (mRet (mOp2 pAdd (mOpA newL (mCons (mLit (.int 0)) mNil)) (mVar 3)))))
noncomputable def f_L_order : MF := mDef 3 2 b_L_order
noncomputable def b_L_entries_l2 : MS := (mIf (mOrT (mAndT (mTest (mOp2 pIs (mVar 5) (mLit .non))) (mTest (mOp2 pIsNot (mVar 4) (mLit .non)))) (mAndT (mTest (mOp2 pIsNot (mVar 5) (mLit .non))) (mNotT (mTest (mCall (f_L_same 6) (mCons (mVar 4) (mCons (mVar 5) mNil))))))) (mRet (mLit (.bl false))) mSkip)
noncomputable def b_L_entries_l1 : MS := (mSeq (mIf (mOrT (mNotT (mTest (mOp1 (pIsin .tuple) (mVar 2)))) (mTest (mOp2 pNe (mOp1 pLen (mVar 2)) (mOp1 pLen (mVar 3))))) (mRet (mLit (.bl false))) mSkip)
  (mFor (mItZip (mVar 2) (mVar 3)) (gTup3 [(gSet 4), (gSet 5)]) b_L_entries_l2))
noncomputable def b_L_entries : MS := (mSeq (mIf (mOrT (mNotT (mTest (mOp1 (pIsin .tuple) (mVar 0)))) (mTest (mOp2 pNe (mOp1 pLen (mVar 0)) (mOp1 pLen (mVar 1))))) (mRet (mLit (.bl false))) mSkip)
  (mSeq (mFor (mItZip (mVar 0) (mVar 1)) (gTup3 [(gSet 2), (gSet 3)]) b_L_entries_l1)
  (mRet (mLit (.bl true)))))
noncomputable def f_L_entries : MF := mDef 2 4 b_L_entries
noncomputable def b_L_mirrored_l2 : MS := (mSeq (mAsg (gSet 5) (mLit .non))
  (mSeq (mIf (mTest (mOp2 pIsNot (mVar 4) (mLit .non))) (mAsg (gSet 5) (mOpA pTup (mCons (mOp2 pIx (mVar 4) (mLit (.int 0))) (mCons (mOp2 pIx (mLit (.str (Str.ofString "lr"))) (mOp1 pInt (mOp2 pEq (mOp2 pIx (mVar 4) (mLit (.int 1))) (mLit (.str (Str.ofString "l")))))) (mCons (mOp2 pIx (mVar 4) (mLit (.int 2))) mNil))))) mSkip)
  (mExpr (mAppend (mVar 3) (mVar 5)))))
noncomputable def b_L_mirrored_l1 : MS := (mSeq (mAsg (gSet 3) (mOpA newL mNil))
  (mSeq (mFor (mItSeq (mVar 2)) (gSet 4) b_L_mirrored_l2)
  (mExpr (mAppend (mVar 1) (mVar 3)))))
noncomputable def b_L_mirrored : MS := (mSeq (mAsg (gSet 1) (mOpA newL mNil))
  (mSeq (mFor (mItSeq (mVar 0)) (gSet 2) b_L_mirrored_l1)
  (mRet (mVar 1))))
noncomputable def f_L_mirrored : MF := mDef 1 5 b_L_mirrored
noncomputable def b_L_renamed_l2 : MS := (mIf (mTest (mOp2 pIsNot (mVar 7) (mLit .non))) (mSetIx (mOp2 pIx (mVar 3) (mOp2 pIx (mVar 1) (mVar 4))) (mOp2 pIx (mVar 2) (mVar 6)) (mOpA pTup (mCons (mOp2 pIx (mVar 2) (mOp2 pIx (mVar 7) (mLit (.int 0)))) (mCons (mOp2 pIx (mVar 7) (mLit (.int 1))) (mCons (mOp2 pIx (mVar 1) (mOp2 pIx (mVar 7) (mLit (.int 2)))) mNil))))) mSkip)
noncomputable def b_L_renamed_l1 : MS := (mFor (mItEnum (mVar 5)) (gTup3 [(gSet 6), (gSet 7)]) b_L_renamed_l2)
noncomputable def b_L_renamed : MS := (mSeq (mAsg (gSet 3) (mComp (mItSeq (mVar 0)) 1 [2] (gSet 0) mTrue (mOp2 pMul (mOpA newL (mCons (mLit .non) mNil)) (mOp1 pLen (mVar 1)))))
  (mSeq (mFor (mItEnum (mVar 0)) (gTup3 [(gSet 4), (gSet 5)]) b_L_renamed_l1)
  (mRet (mVar 3))))
noncomputable def f_L_renamed : MF := mDef 3 5 b_L_renamed
noncomputable def b_L_back_l1 : MS := (mSetIx (mVar 1) (mVar 3) (mVar 2))
noncomputable def b_L_back : MS := (mSeq (mAsg (gSet 1) (mOp2 pMul (mOpA newL (mCons (mLit (.int 0)) mNil)) (mOp1 pLen (mVar 0))))
  (mSeq (mFor (mItEnum (mVar 0)) (gTup3 [(gSet 2), (gSet 3)]) b_L_back_l1)
  (mRet (mVar 1))))
noncomputable def f_L_back : MF := mDef 1 3 b_L_back
noncomputable def b_L_wrong : MS := (mSeq (mAsg (gSet 2) (mOp1 pLen (mVar 1)))
  (mSeq (mAsg (gSet 3) (mOp2 pMod (mOp2 pFdiv (mVar 0) (mLit (.int 7))) (mVar 2)))
  (mSeq (mIf (mTest (mOp2 pEq (mOp2 pMod (mVar 0) (mLit (.int 7))) (mLit (.int 0)))) (mRet (mOp2 pAdd (mVar 1) (mOpA newL (mCons (mVar 2) mNil)))) mSkip)
  (mSeq (mIf (mTest (mOp2 pEq (mOp2 pMod (mVar 0) (mLit (.int 7))) (mLit (.int 1)))) (mRet (mSlice (mVar 1) mNoPart (mPart (mOp2 pSub (mVar 2) (mLit (.int 1)))))) mSkip)
  (mSeq (mIf (mAndT (mTest (mOp2 pEq (mOp2 pMod (mVar 0) (mLit (.int 7))) (mLit (.int 2)))) (mTest (mOp2 pGt (mVar 2) (mLit (.int 1))))) (mRet (mOp2 pAdd (mOp2 pAdd (mSlice (mVar 1) mNoPart (mPart (mLit (.int 1)))) (mOp2 pMul (mOpA newL (mCons (mOp2 pIx (mVar 1) (mLit (.int 1))) mNil)) (mOp2 pSub (mVar 2) (mLit (.int 1))))) (mOp2 pMul (mOpA newL (mCons (mOp2 pIx (mVar 1) (mLit (.int 1))) mNil)) (mOp1 pInt (mOp2 pEq (mVar 2) (mLit (.int 2))))))) mSkip)
  (mSeq (mIf (mTest (mOp2 pEq (mOp2 pMod (mVar 0) (mLit (.int 7))) (mLit (.int 3)))) (mRet (mOp2 pAdd (mOp2 pAdd (mSlice (mVar 1) mNoPart (mPart (mVar 3))) (mOpA newL (mCons (mVar 2) mNil))) (mSlice (mVar 1) (mPart (mOp2 pAdd (mVar 3) (mLit (.int 1)))) mNoPart))) mSkip)
  (mSeq (mIf (mAndT (mTest (mOp2 pEq (mOp2 pMod (mVar 0) (mLit (.int 7))) (mLit (.int 4)))) (mTest (mOp2 pGt (mVar 2) (mLit (.int 1))))) (mRet (mOp2 pAdd (mSlice (mVar 1) (mPart (mLit (.int 1))) mNoPart) (mSlice (mVar 1) mNoPart (mPart (mLit (.int 1)))))) mSkip)
  (mSeq (mIf (mAndT (mTest (mOp2 pEq (mOp2 pMod (mVar 0) (mLit (.int 7))) (mLit (.int 5)))) (mTest (mOp2 pGt (mVar 2) (mLit (.int 1))))) (mRet (mComp (mItSeq (mVar 1)) 1 [] (gSet 0) mTrue (mIfE (mTest (mOp2 pEq (mVar 0) (mLit (.int 1)))) (mLit (.bl true)) (mVar 0)))) mSkip)
  (mRet (mOp2 pAdd (mOp2 pAdd (mSlice (mVar 1) mNoPart (mPart (mVar 3))) (mOpA newL (mCons (mOp1 pNeg (mLit (.int 1))) mNil))) (mSlice (mVar 1) (mPart (mOp2 pAdd (mVar 3) (mLit (.int 1)))) mNoPart)))))))))))
noncomputable def f_L_wrong : MF := mDef 2 2 b_L_wrong
noncomputable def b_L_refused : MS := (mSeq (mAsg (gSet 3) (mLit .non))
  (mSeq (mTry (mExpr (mCall f_renamed (mCons (mVar 0) (mCons (mVar 1) (mCons (mVar 2) mNil))))) [⟨[0, 1, 2, 3, 4, 5, 6, 7, 8, 9, 10], [], some 4, (mAsg (gSet 3) (mVar 4))⟩])
  (mSeq (mIf (mOrT (mTest (mOp2 pIs (mVar 3) (mLit .non))) (mOrT (mTest (mOp1 (pIsinX [0, 1, 2, 3, 4, 5, 6, 7, 8, 9, 10] [1]) (mVar 3))) (mOrT (mTest (mOp1 (pIsinX [0, 1, 2, 3, 4, 5, 6, 7, 8, 9, 10] [8]) (mVar 3))) (mTest (mOp1 (pIsinX [0, 1, 2, 3, 4, 5, 6, 7, 8, 9, 10] [3]) (mVar 3)))))) (mRet (mLit (.bl false))) mSkip)
  (mSeq (mIf (mOrT (mTest (mOp1 (pIsinX [0, 1, 2, 3, 4, 5, 6, 7, 8, 9, 10] [7]) (mVar 3))) (mOrT (mTest (mOp1 (pIsinX [0, 1, 2, 3, 4, 5, 6, 7, 8, 9, 10] [4]) (mVar 3))) (mTest (mOp1 (pIsinX [0, 1, 2, 3, 4, 5, 6, 7, 8, 9, 10] [5]) (mVar 3))))) (mRet (mLit (.bl false))) mSkip)
  (mSeq (mIf (mOrT (mTest (mOp1 (pIsinX [0, 1, 2, 3, 4, 5, 6, 7, 8, 9, 10] [10]) (mVar 3))) (mOrT (mTest (mOp1 (pIsinX [0, 1, 2, 3, 4, 5, 6, 7, 8, 9, 10] [9]) (mVar 3))) (mTest (mOp1 (pIsinX [0, 1, 2, 3, 4, 5, 6, 7, 8, 9, 10] [6]) (mVar 3))))) (mRet (mLit (.bl false))) mSkip)
  (mRet (mAnd (mOp1 (pIsinX [0, 1, 2, 3, 4, 5, 6, 7, 8, 9, 10] [2]) (mVar 3)) (mOp1 (pIsinX [0, 1, 2, 3, 4, 5, 6, 7, 8, 9, 10] [0, 1, 2, 3, 4, 5, 6, 7, 8, 9, 10]) (mVar 3)))))))))
noncomputable def f_L_refused : MF := mDef 3 2 b_L_refused
noncomputable def b_law_l1 : MS := (mSeq (mAsg (gSet 3) (mCall f_L_next (mCons (mVar 0) (mCons (mVar 1) mNil))))
  (mSeq (mAsg (gSet 4) (mCall f_L_table (mCons (mVar 0) (mCons (mVar 1) (mCons (mOp2 pAdd (mLit (.int 1)) (mOp2 pMod (mVar 3) (mLit (.int 5)))) (mCons (mOp2 pAdd (mLit (.int 1)) (mOp2 pMod (mOp2 pFdiv (mVar 3) (mLit (.int 5))) (mLit (.int 4)))) mNil))))))
  (mSeq (mAsg (gSet 5) (mMake 11 f_Machine_init (mCons (mVar 4) mNil)))
  (mSeq (mAsg (gSet 6) (mCall f_L_order (mCons (mVar 0) (mCons (mVar 1) (mCons (mOp1 pLen (mVar 4)) mNil)))))
  (mSeq (mAsg (gSet 7) (mCall f_L_order (mCons (mVar 0) (mCons (mVar 1) (mCons (mOp1 pLen (mOp2 pIx (mVar 4) (mLit (.int 0)))) mNil)))))
  (mSeq (mAsg (gSet 8) (mOpA newL (mCons (mOp1 pList (mVar 6)) (mCons (mOp1 pList (mVar 7)) mNil))))
  (mSeq (mIf (mNotT (mTest (mCall f_L_entries (mCons (mAttr [11] (Str.ofString "table") (mCall f_mirrored (mCons (mVar 5) mNil))) (mCons (mCall f_L_mirrored (mCons (mVar 4) mNil)) mNil))))) (mRet (mLit (.bl false))) mSkip)
  (mSeq (mIf (mNotT (mTest (mCall f_L_entries (mCons (mAttr [11] (Str.ofString "table") (mCall f_mirrored (mCons (mCall f_mirrored (mCons (mVar 5) mNil)) mNil))) (mCons (mVar 4) mNil))))) (mRet (mLit (.bl false))) mSkip)
  (mSeq (mAsg (gSet 9) (mCall f_renamed (mCons (mVar 5) (mCons (mOp2 pIx (mVar 8) (mLit (.int 0))) (mCons (mOp2 pIx (mVar 8) (mLit (.int 1))) mNil)))))
  (mSeq (mIf (mOrT (mNotT (mTest (mCall f_L_entries (mCons (mAttr [11] (Str.ofString "table") (mVar 9)) (mCons (mCall f_L_renamed (mCons (mVar 4) (mCons (mVar 6) (mCons (mVar 7) mNil)))) mNil))))) (mTest (mOp2 pNeLL (mVar 8) (mOpA newL (mCons (mVar 6) (mCons (mVar 7) mNil)))))) (mRet (mLit (.bl false))) mSkip)
  (mSeq (mIf (mNotT (mTest (mCall f_L_entries (mCons (mAttr [11] (Str.ofString "table") (mCall f_renamed (mCons (mVar 9) (mCons (mCall f_L_back (mCons (mVar 6) mNil)) (mCons (mCall f_L_back (mCons (mVar 7) mNil)) mNil))))) (mCons (mVar 4) mNil))))) (mRet (mLit (.bl false))) mSkip)
  (mSeq (mAsg (gSet 3) (mCall f_L_next (mCons (mVar 0) (mCons (mVar 1) mNil))))
  (mSeq (mIf (mNotT (mTest (mCall f_L_refused (mCons (mVar 5) (mCons (mCall f_L_wrong (mCons (mOp2 pFdiv (mVar 3) (mLit (.int 2))) (mCons (mVar 6) mNil))) (mCons (mVar 7) mNil)))))) (mRet (mLit (.bl false))) mSkip)
  (mIf (mNotT (mTest (mCall f_L_refused (mCons (mVar 5) (mCons (mVar 6) (mCons (mCall f_L_wrong (mCons (mOp2 pFdiv (mVar 3) (mLit (.int 3))) (mCons (mVar 7) mNil))) mNil)))))) (mRet (mLit (.bl false))) mSkip))))))))))))))
noncomputable def b_law : MS := (mSeq (mAsg (gSet 1) (mOpA newL (mCons (mLit (.int 0)) mNil)))
  (mSeq (mFor (mItRange1 (mOp2 pAdd (mLit (.int 1)) (mOp2 pFdiv (mOp1 pLen (mSlice (mVar 0) mNoPart (mPart (mLit (.int 60))))) (mLit (.int 20))))) (gSet 2) b_law_l1)
  (mRet (mLit (.bl true)))))
noncomputable def f_law : MF := mDef 1 9 b_law
end L3

end
section
namespace L3
open PySem
structure Keeps (S : List Nat) (g g' : G) : Prop where
  len : g.length ≤ g'.length
  at' : ∀ n o, n ∉ S → g[n]? = some o → g'[n]? = some o
theorem Keeps.refl {S : List Nat} {g : G} : Keeps S g g := ⟨Nat.le_refl _, fun _ _ _ h => h⟩
theorem Keeps.trans {S : List Nat} {g g1 g2 : G} (a : Keeps S g g1) (b : Keeps S g1 g2) : Keeps S g g2 := ⟨Nat.le_trans a.len b.len, fun n o h e => b.at' n o h (a.at' n o h e)⟩
theorem Keeps.mono {S T : List Nat} {g g1 : G} (a : Keeps S g g1) (h : ∀ n ∈ S, n ∈ T) : Keeps T g g1 := ⟨a.len, fun n o q e => a.at' n o (fun z => q (h n z)) e⟩
theorem Keeps.all {S : List Nat} {g g1 : G} (a : Keeps [] g g1) : Keeps S g g1 := a.mono (by simp)
theorem Keeps.push {S : List Nat} {g : G} (o : GO) : Keeps S g (g ++ [o]) := ⟨by simp, fun n u _ e => by
  have hl : n < g.length := (List.getElem?_eq_some_iff.mp e).1
  rw [List.getElem?_append_left hl]; exact e⟩
theorem Keeps.set {g : G} (n : Nat) (o : GO) : Keeps [n] g (g.set n o) := ⟨by simp, fun m u h e => by
  rw [List.getElem?_set_ne (fun z => h (by simp [z]))]; exact e⟩
theorem get_push {g : G} (o : GO) : (g ++ [o])[g.length]? = some o := by simp
theorem get_lt {g : G} {n : Nat} {o : GO} (h : g[n]? = some o) : n < g.length := (List.getElem?_eq_some_iff.mp h).1
theorem get_set {g : G} {n : Nat} {o u : GO} (h : g[n]? = some o) : (g.set n u)[n]? = some u := by rw [List.getElem?_set_self (get_lt h)]
noncomputable def exits : Out → Prop
  | .rt _ _ => True
  | .raise _ _ _ => True
  | _ => False
theorem forL_gen {src : Src} {t : MG} {body : MS} {n : Nat} (I : Nat → S3 → G → Prop) (R : Out → Prop)
    (step : ∀ i σ g, i < n → I i σ g → ∃ d σ1, src.at' g i = some (some d) ∧ t d σ = some σ1 ∧ ((∃ σ2 g2, (body σ1 g = .nx σ2 g2 ∨ body σ1 g = .ct σ2 g2) ∧ I (i + 1) σ2 g2) ∨ (exits (body σ1 g) ∧ R (body σ1 g))))
    (stop : ∀ σ g, I n σ g → src.at' g n = some none) : ∀ (f i : Nat) (σ : S3) (g : G), n - i < f → i ≤ n → I i σ g → (∃ σ' g', forL src t body f i σ g = .nx σ' g' ∧ I n σ' g') ∨ (exits (forL src t body f i σ g) ∧ R (forL src t body f i σ g))
  | 0, _, _, _, h, _, _ => by omega
  | f + 1, i, σ, g, hf, hi, h => by
    unfold forL
    by_cases e : i = n
    · subst e
      rw [stop σ g h]
      exact .inl ⟨σ, g, rfl, h⟩
    · obtain ⟨d, σ1, h1, h2, h3⟩ := step i σ g (by omega) h
      rw [h1]
      dsimp only
      rw [h2]
      dsimp only
      rcases h3 with ⟨σ2, g2, h3 | h3, h4⟩ | ⟨h3, h4⟩
      · rw [h3]; exact forL_gen I R step stop f (i + 1) σ2 g2 (by omega) (by omega) h4
      · rw [h3]; exact forL_gen I R step stop f (i + 1) σ2 g2 (by omega) (by omega) h4
      · cases hb : body σ1 g with
        | rt d g' => rw [hb] at h4; exact .inr ⟨trivial, h4⟩
        | raise x σ' g' => rw [hb] at h4; exact .inr ⟨trivial, h4⟩
        | nx _ _ => rw [hb] at h3; exact h3.elim
        | bk _ _ => rw [hb] at h3; exact h3.elim
        | ct _ _ => rw [hb] at h3; exact h3.elim
        | stuck => rw [hb] at h3; exact h3.elim
theorem for_range {t : MG} {body : MS} {lo : Int} {n : Nat} {σ : S3} {g : G} (I : Nat → S3 → G → Prop) (h0 : I 0 σ g)
    (step : ∀ i σ g, i < n → I i σ g → ∃ σ1 σ2 g2, t (.int (lo + i)) σ = some σ1 ∧ body σ1 g = .nx σ2 g2 ∧ I (i + 1) σ2 g2) : ∃ σ' g', forL (srcRange lo n) t body (n + 1) 0 σ g = .nx σ' g' ∧ I n σ' g' := by
  have := forL_gen (src := srcRange lo n) (t := t) (body := body) (n := n) I (fun _ => False) (fun i σ g hi h => by
    obtain ⟨σ1, σ2, g2, a, b, c⟩ := step i σ g hi h
    exact ⟨.int (lo + i), σ1, by simp [srcRange, hi], a, .inl ⟨σ2, g2, .inl b, c⟩⟩) (fun σ g _ => by simp [srcRange]) (n + 1) 0 σ g (by omega) (by omega) h0
  rcases this with h | h
  · exact h
  · exact h.2.elim
theorem for_items_or {t : MG} {body : MS} {ds : List D} {σ : S3} {g : G} (I : Nat → S3 → G → Prop) (R : Out → Prop) (h0 : I 0 σ g)
    (step : ∀ i d σ g, ds[i]? = some d → I i σ g → ∃ σ1, t d σ = some σ1 ∧ ((∃ σ2 g2, body σ1 g = .nx σ2 g2 ∧ I (i + 1) σ2 g2) ∨ (exits (body σ1 g) ∧ R (body σ1 g)))) :
    (∃ σ' g', forL ⟨fun _ i => some ds[i]?, ds.length⟩ t body (ds.length + 1) 0 σ g = .nx σ' g' ∧ I ds.length σ' g') ∨ (exits (forL ⟨fun _ i => some ds[i]?, ds.length⟩ t body (ds.length + 1) 0 σ g) ∧ R (forL ⟨fun _ i => some ds[i]?, ds.length⟩ t body (ds.length + 1) 0 σ g)) :=
  forL_gen (src := ⟨fun _ i => some ds[i]?, ds.length⟩) (t := t) (body := body) (n := ds.length) I R (fun i σ g hi h => by
    obtain ⟨σ1, a, b⟩ := step i ds[i] σ g (by simp [hi]) h
    refine ⟨ds[i], σ1, by simp [hi], a, ?_⟩
    rcases b with ⟨σ2, g2, b, c⟩ | b
    · exact .inl ⟨σ2, g2, .inl b, c⟩
    · exact .inr b) (fun σ g _ => by simp) (ds.length + 1) 0 σ g (by omega) (by omega) h0
theorem for_src {src : Src} {t : MG} {body : MS} {n : Nat} {σ : S3} {g : G} (hn : src.top = n) (I : Nat → S3 → G → Prop) (h0 : I 0 σ g)
    (step : ∀ i σ g, i < n → I i σ g → ∃ d σ1 σ2 g2, src.at' g i = some (some d) ∧ t d σ = some σ1 ∧ body σ1 g = .nx σ2 g2 ∧ I (i + 1) σ2 g2)
    (stop : ∀ σ g, I n σ g → src.at' g n = some none) : ∃ σ' g', forL src t body (src.top + 1) 0 σ g = .nx σ' g' ∧ I n σ' g' := by
  rw [hn]
  have := forL_gen (src := src) (t := t) (body := body) (n := n) I (fun _ => False) (fun i σ g hi h => by
    obtain ⟨d, σ1, σ2, g2, a, b, c, e⟩ := step i σ g hi h
    exact ⟨d, σ1, a, b, .inl ⟨σ2, g2, .inl c, e⟩⟩) stop (n + 1) 0 σ g (by omega) (by omega) h0
  rcases this with h | h
  · exact h
  · exact h.2.elim
theorem compL_gen {src : Src} {t : MG} {c : MT} {e : ME} {n : Nat} (I : Nat → S3 → G → List D → Prop)
    (step : ∀ i σ g acc, i < n → I i σ g acc → ∃ d σ1 g1, src.at' g i = some (some d) ∧ t d σ = some σ1 ∧ ((∃ y g2, c σ1 g = .ok true g1 ∧ e σ1 g1 = .ok y g2 ∧ I (i + 1) σ1 g2 (acc ++ [y])) ∨ (c σ1 g = .ok false g1 ∧ I (i + 1) σ1 g1 acc)))
    (stop : ∀ σ g acc, I n σ g acc → src.at' g n = some none) : ∀ (f i : Nat) (σ : S3) (g : G) (acc : List D), n - i < f → i ≤ n → I i σ g acc → ∃ ds σ' g', compL src t c e f i σ g acc = .ok ds g' ∧ I n σ' g' ds
  | 0, _, _, _, _, h, _, _ => by omega
  | f + 1, i, σ, g, acc, hf, hi, h => by
    unfold compL
    by_cases q : i = n
    · subst q
      rw [stop σ g acc h]
      exact ⟨acc, σ, g, rfl, h⟩
    · obtain ⟨d, σ1, g1, h1, h2, h3⟩ := step i σ g acc (by omega) h
      rw [h1]
      dsimp only
      rw [h2]
      dsimp only
      rcases h3 with ⟨y, g2, h3, h4, h5⟩ | ⟨h3, h5⟩
      · rw [h3]; dsimp only; rw [if_pos rfl, h4]; exact compL_gen I step stop f (i + 1) σ1 g2 _ (by omega) (by omega) h5
      · rw [h3]; dsimp only; rw [if_neg Bool.false_ne_true]; exact compL_gen I step stop f (i + 1) σ1 g1 _ (by omega) (by omega) h5
theorem comp_items {ds : List D} {e : ME} {no : Nat} {σ : S3} {g : G} {f : D → D} (hz : ds.length ≤ SZ) (he : ∀ d ∈ ds, ∀ g1, Keeps [] g g1 → ∃ g2, e ((List.replicate (no + 1) none ++ σ).set 0 (some d)) g1 = .ok (f d) g2 ∧ Keeps [] g1 g2) :
    ∃ g', compL ⟨fun _ i => some ds[i]?, ds.length⟩ (gSet 0) mTrue e (ds.length + 1) 0 (List.replicate (no + 1) none ++ σ) g [] = .ok (ds.map f) g' ∧ Keeps [] g g' := by
  obtain ⟨xs, σ', g', h1, h2, h3, h4⟩ := compL_gen (src := ⟨fun _ i => some ds[i]?, ds.length⟩) (t := gSet 0) (c := mTrue) (e := e) (n := ds.length)
    (fun i σ' g1 acc => acc = (ds.take i).map f ∧ Keeps [] g g1 ∧ ∃ u, σ' = (List.replicate (no + 1) none ++ σ).set 0 u) (fun i σ' g1 acc hi h => by
      obtain ⟨h1, h2, u, h3⟩ := h
      obtain ⟨g2, k1, k2⟩ := he ds[i] (List.getElem_mem hi) g1 h2
      refine ⟨ds[i], _, g1, by simp [hi], rfl, .inl ⟨f ds[i], g2, rfl, ?_, ?_, h2.trans k2, some ds[i], ?_⟩⟩
      · subst h3; rw [List.set_set]; exact k1
      · rw [h1, List.take_succ_eq_append_getElem hi, List.map_append]; rfl
      · subst h3; rw [List.set_set]) (fun σ g acc _ => by simp) (ds.length + 1) 0 (List.replicate (no + 1) none ++ σ) g [] (by omega) (by omega) ⟨by simp, .refl, none, by simp [List.replicate_succ]⟩
  refine ⟨g', ?_, h3⟩
  rw [h1, h2, List.take_length]
end L3

end
section
namespace L3
theorem eqF_str (s t : PySem.Str) : eqF (.str s) (.str t) = (s == t) := rfl
theorem ne_int0 (i j : Int) (g : G) : pNe (.int i) (.int j) g = .ok (.bl (!(i == j))) g := rfl
theorem eq_str0 (s t : PySem.Str) (g : G) : pEq (.str s) (.str t) g = .ok (.bl (s == t)) g := rfl
theorem eq_int0 (i j : Int) (g : G) : pEq (.int i) (.int j) g = .ok (.bl (i == j)) g := rfl
open PySem
noncomputable def wholeD : D → Option Int
  | .int i => some i
  | _ => none
noncomputable def belowD (d : D) (n : Int) : Bool := match d with
  | .int i => decide (0 ≤ i ∧ i < n)
  | _ => false
noncomputable def plainD : D → Bool
  | .ref _ => false
  | _ => true
theorem plain_ty {d : D} (g : G) (h : plainD d = true) : ∃ t, tyOf g d = some t := by
  cases d with
  | ref n => cases h
  | _ => exact ⟨_, rfl⟩
theorem is_whole_eq (d : D) (g : G) (t : Ty) (h : tyOf g d = some t) : f_is_whole [d] g = .ok (.bl (wholeD d).isSome) g := by
  cases d with
  | ref n =>
    have : t = .list ∨ t = .dict := by
      unfold tyOf at h
      dsimp only at h
      split at h <;> simp_all
    simp [f_is_whole, mDef, b_is_whole, mRet, mAnd, mOp1, mNot, mVar, Res.bind, pIsin, h, wholeD]
    rcases this with rfl | rfl <;> simp [tyLe]
  | _ => simp [f_is_whole, mDef, b_is_whole, mRet, mAnd, mOp1, mNot, mVar, Res.bind, pIsin, tyOf, tyLe, wholeD]
theorem is_below_eq (d : D) (n : Int) (g : G) (t : Ty) (h : tyOf g d = some t) : f_is_below [d, .int n] g = .ok (.bl (belowD d n)) g := by
  have w := is_whole_eq d g t h
  simp [f_is_below, mDef, b_is_below, mRet, mAnd, mCall, mCons, mNil, mVar, Res.bind, w]
  cases d with
  | int i =>
    simp [wholeD, mChain, mLit, mVar, Res.bind, pLe, pLt, pCmp, belowD]
    by_cases h0 : 0 ≤ i <;> simp [h0]
  | _ => simp [wholeD, belowD]
theorem s_l : Str.ofString "l" = ⟨#[108]⟩ := by decide +kernel
theorem s_r : Str.ofString "r" = ⟨#[114]⟩ := by decide +kernel
noncomputable def wayD : D → Bool
  | .str s => s == ⟨#[108]⟩ || s == ⟨#[114]⟩
  | _ => false
noncomputable def entD (d : D) (states signs : Int) : Bool := match d with
  | .non => true
  | .tup [a, b, c] => belowD a signs && wayD b && belowD c states
  | _ => false
noncomputable def thingD (g : G) (d : D) : Prop := (∃ t, tyOf g d = some t) ∧ ∀ a b c, d = .tup [a, b, c] → plainD a = true ∧ flatD b = true ∧ plainD c = true
theorem in_ways (b : D) (g : G) (h : flatD b = true) : pIn false b (.tup [.str ⟨#[108]⟩, .str ⟨#[114]⟩]) g = .ok (.bl (wayD b)) g := by
  have h2 : ([D.str ⟨#[108]⟩, D.str ⟨#[114]⟩].all flatD) = true := rfl
  unfold pIn
  simp only [seqOf, h, h2, and_self, if_true]
  cases b with
  | str s =>
    simp only [List.any_cons, List.any_nil, eqF_str, wayD, Bool.or_false, Bool.false_eq_true, if_false]
    rw [show ((⟨#[108]⟩ : Str) == s) = (s == ⟨#[108]⟩) from BEq.comm, show ((⟨#[114]⟩ : Str) == s) = (s == ⟨#[114]⟩) from BEq.comm]
  | non => rfl
  | bl x => rfl
  | int x => rfl
  | ref n => cases h
  | tup ds => cases h
  | fl ds => cases h
theorem is_entry_eq (d : D) (states signs : Int) (g : G) (h : thingD g d) : f_is_entry [d, .int states, .int signs] g = .ok (.bl (entD d states signs)) g := by
  obtain ⟨⟨t, ht⟩, h3⟩ := h
  cases d with
  | non => simp [f_is_entry, mDef, b_is_entry, mSeq, mIf, mTest, mOp2, mVar, mLit, Res.bind, pIs, isNon, mRet, entD]
  | tup ds =>
    simp [f_is_entry, mDef, b_is_entry, mSeq, mIf, mTest, mOp2, mOp1, mVar, mLit, Res.bind, pIs, isNon, mRet, mSkip, mOrT, mNotT, pIsin, tyOf, tyLe, ne_int0, pLen]
    by_cases hl : ds.length = 3
    · obtain ⟨a, b, c, rfl⟩ : ∃ a b c, ds = [a, b, c] := by
        match ds, hl with
        | [a, b, c], _ => exact ⟨a, b, c, rfl⟩
      obtain ⟨pa, pb, pc⟩ := h3 a b c rfl
      obtain ⟨ta, hta⟩ := plain_ty g pa
      obtain ⟨tc, htc⟩ := plain_ty g pc
      simp [mAnd, mCall, mCons, mNil, mOp2, mOpA, pTup, SZ, mVar, mLit, Res.bind, pIx, atD, ixD, is_below_eq a signs g ta hta, is_below_eq c states g tc htc, s_l, s_r, in_ways b g pb, entD]
      cases belowD a signs <;> cases wayD b <;> rfl
    · have e : entD (.tup ds) states signs = false := by
        unfold entD
        split
        · rename_i heq; cases heq
        · rename_i heq; cases heq; simp at hl
        · rfl
      have : ¬ ((ds.length : Int) = 3) := by omega
      simp [this, e]
  | ref n =>
    have : t = .list ∨ t = .dict := by
      unfold tyOf at ht
      dsimp only at ht
      split at ht <;> simp_all
    simp [f_is_entry, mDef, b_is_entry, mSeq, mIf, mTest, mOp2, mOp1, mVar, mLit, Res.bind, pIs, isNon, mRet, mSkip, mOrT, mNotT, pIsin, ht, tyLe, entD]
    rcases this with rfl | rfl <;> simp
  | _ => simp [f_is_entry, mDef, b_is_entry, mSeq, mIf, mTest, mOp2, mOp1, mVar, mLit, Res.bind, pIs, isNon, mRet, mSkip, mOrT, mNotT, pIsin, tyOf, tyLe, entD]
end L3

end
section
namespace L3
open PySem
theorem Keeps.ty {g g1 : G} (k : Keeps [] g g1) {d : D} {t : Ty} (h : tyOf g d = some t) : tyOf g1 d = some t := by
  cases d with
  | ref n =>
    unfold tyOf at h ⊢
    dsimp only at h ⊢
    cases hg : g[n]? with
    | none => rw [hg] at h; cases h
    | some o => rw [hg] at h; rw [k.at' n o (by simp) hg]; exact h
  | _ => exact h
theorem thingD.mono {g g1 : G} {d : D} (k : Keeps [] g g1) (h : thingD g d) : thingD g1 d := by
  obtain ⟨⟨t, ht⟩, h3⟩ := h
  exact ⟨⟨t, k.ty ht⟩, h3⟩
theorem allB_map {α : Type} (f : α → Bool) : ∀ ts : List α, allB (ts.map fun d => D.bl (f d)) = some (ts.all f)
  | [] => rfl
  | t :: ts => by simp [allB, allB_map f ts]
noncomputable def goodRow (n m : Nat) (r : List D) : Bool := r.length == m && r.all fun d => entD d n m
noncomputable def goodR (rows : List (List D)) : Bool := match rows with
  | [] => false
  | r :: _ => r.length != 0 && rows.all (goodRow rows.length r.length)
theorem raise1 (c : Nat) (t : Str) (σ : S3) (g : G) : mRaise c (mCons (mLit (.str t)) mNil) σ g = .raise (c, none) σ g := by simp [mRaise, mCons, mLit, mNil, Res.bind, SZ]
theorem eq_int (i j : Int) (g : G) : pEq (.int i) (.int j) g = .ok (.bl (i == j)) g := rfl
theorem ne_int (i j : Int) (g : G) : pNe (.int i) (.int j) g = .ok (.bl (!(i == j))) g := rfl
theorem all_row (n m : Nat) (ts : List D) (x : D) (g : G) (hz : ts.length ≤ SZ) (h : ∀ d ∈ ts, thingD g d) :
    ∃ g', Keeps [] g g' ∧ mOp1 pAll (mComp (mItSeq (mVar 3)) 1 [1, 2] (gSet 0) mTrue (mCall f_is_entry (mCons (mVar 0) (mCons (mVar 1) (mCons (mVar 2) mNil))))) [some x, some (.int n), some (.int m), some (.tup ts)] g = .ok (.bl (ts.all fun d => entD d n m)) g' := by
  obtain ⟨g1, h1, k1⟩ := comp_items (ds := ts) (e := mCall f_is_entry (mCons (mVar 0) (mCons (mVar 1) (mCons (mVar 2) mNil)))) (no := 0) (σ := [some (.int n), some (.int m)]) (g := g) (f := fun d => .bl (entD d n m)) hz
    (fun d hd g1 k => ⟨g1, by simp [mCall, mCons, mNil, mVar, Res.bind, is_entry_eq d n m g1 ((h d hd).mono k)], .refl⟩)
  refine ⟨g1 ++ [.lst (ts.map fun d => .bl (entD d n m))], k1.trans (.push _), ?_⟩
  have h1 : compL ⟨fun _ i => some ts[i]?, ts.length⟩ (gSet 0) mTrue (mCall f_is_entry (mCons (mVar 0) (mCons (mVar 1) (mCons (mVar 2) mNil)))) (ts.length + 1) 0 [none, some (.int n), some (.int m)] g [] = .ok (ts.map fun d => .bl (entD d n m)) g1 := h1
  simp [mOp1, mComp, mItSeq, mVar, Res.bind, srcSeq, hz, capt, h1, pAll, allB_map]
theorem row_turn (n m : Nat) (ts : List D) (x : D) (g : G) (hz : ts.length ≤ SZ) (h : ∀ d ∈ ts, thingD g d) :
    ∃ g', Keeps [] g g' ∧ b_check_rows_l1 [some x, some (.int n), some (.int m), some (.tup ts)] g = if goodRow n m ts = true then .nx [some x, some (.int n), some (.int m), some (.tup ts)] g' else .raise (1, none) [some x, some (.int n), some (.int m), some (.tup ts)] g' := by
  by_cases hl : ts.length = m
  · obtain ⟨g2, k2, e2⟩ := all_row n m ts x g hz h
    refine ⟨g2, k2, ?_⟩
    have hl' : ((ts.length : Int) == (m : Int)) = true := by simp [hl]
    have gr : goodRow n m ts = ts.all fun d => entD d n m := by simp [goodRow, hl]
    rw [gr]
    simp only [b_check_rows_l1, mSeq, mIf, mTest, mOp2, mOp1, mVar, Res.bind, List.getElem?_cons_succ, List.getElem?_cons_zero, pLen, ne_int, hl', Bool.not_true, Bool.false_eq_true, if_false, mSkip, mNotT]
    simp only [mOp1, Res.bind] at e2
    rw [e2]
    cases (ts.all fun d => entD d n m) <;> simp [mRaise, mCons, mLit, mNil, Res.bind, SZ]
  · refine ⟨g, .refl, ?_⟩
    have hl' : ((ts.length : Int) == (m : Int)) = false := by simp; omega
    have gr : goodRow n m ts = false := by
      have : (ts.length == m) = false := by simp [hl]
      simp only [goodRow, this, Bool.false_and]
    rw [gr]
    simp only [b_check_rows_l1, mSeq, mIf, mTest, mOp2, mOp1, mVar, Res.bind, List.getElem?_cons_succ, List.getElem?_cons_zero, pLen, ne_int, hl', Bool.not_false, if_true, raise1, Bool.false_eq_true, if_false]
theorem check_rows_eq (rows : List (List D)) (g : G) (hz : ∀ r ∈ rows, r.length ≤ SZ) (h : ∀ r ∈ rows, ∀ d ∈ r, thingD g d) :
    ∃ g', Keeps [] g g' ∧ f_check_rows [.tup (rows.map .tup)] g = if goodR rows = true then .ok .non g' else .raise (1, none) g' := by
  cases rows with
  | nil => exact ⟨g, .refl, by simp [f_check_rows, mDef, b_check_rows, mSeq, mIf, mTest, mOp2, mOp1, mVar, mLit, Res.bind, pLen, eq_int, raise1, goodR]⟩
  | cons r rest =>
    have e0 : ¬ ((rest.length : Int) + 1 = 0) := by omega
    have e1 : (0 : Int) < (rest.length : Int) + 1 := by omega
    by_cases hr : r.length = 0
    · refine ⟨g, .refl, ?_⟩
      simp [f_check_rows, mDef, b_check_rows, mSeq, mIf, mTest, mOp2, mOp1, mVar, mLit, Res.bind, pLen, eq_int, raise1, goodR, hr, e0, e1, mSkip, mAsg, gSet, pIx, atD, ixD]
    · have hr' : ¬ ((r.length : Int) = 0) := by omega
      have hrn : ¬ r = [] := fun z => hr (by rw [z]; rfl)
      have hd0 : goodR (r :: rest) = (r :: rest).all (goodRow (r :: rest).length r.length) := by simp [goodR, hr]
      have loop := for_items_or (t := gSet 3) (ds := (r :: rest).map D.tup) (σ := [some (.tup ((r :: rest).map .tup)), some (.int (r :: rest).length), some (.int r.length), none]) (g := g) (body := b_check_rows_l1)
        (fun i σ g1 => Keeps [] g g1 ∧ (∃ u, σ = [some (.tup ((r :: rest).map .tup)), some (.int (r :: rest).length), some (.int r.length), u]) ∧ ∀ x ∈ (r :: rest).take i, goodRow (r :: rest).length r.length x = true)
        (fun o => ∃ σ' g1, o = .raise (1, none) σ' g1 ∧ Keeps [] g g1 ∧ ∃ x ∈ r :: rest, goodRow (r :: rest).length r.length x = false) ⟨.refl, ⟨none, rfl⟩, by simp⟩ (fun i d σ g1 hd ⟨k, ⟨u, hσ⟩, hg⟩ => by
          rw [List.getElem?_map] at hd
          cases hx : (r :: rest)[i]? with
          | none => rw [hx] at hd; cases hd
          | some ts =>
            rw [hx] at hd
            cases hd
            have hm : ts ∈ r :: rest := List.mem_of_getElem? hx
            subst hσ
            refine ⟨_, rfl, ?_⟩
            obtain ⟨g2, k2, e2⟩ := row_turn (r :: rest).length r.length ts (.tup ((r :: rest).map .tup)) g1 (hz ts hm) fun d hd => (h ts hm d hd).mono k
            simp only [List.set]
            rw [e2]
            cases ha : goodRow (r :: rest).length r.length ts with
            | true =>
              left
              refine ⟨_, g2, by rw [if_pos rfl], k.trans k2, ⟨_, rfl⟩, fun x hx' => ?_⟩
              rw [List.take_succ, hx] at hx'
              rcases List.mem_append.mp hx' with z | z
              · exact hg x z
              · have : x = ts := by simpa using z
                rw [this]; exact ha
            | false =>
              right
              rw [if_neg Bool.false_ne_true]
              exact ⟨trivial, _, g2, rfl, k.trans k2, ts, hm, ha⟩)
      have fin : b_check_rows [some (.tup ((r :: rest).map .tup)), none, none, none] g = forL ⟨fun _ i => some ((r :: rest).map D.tup)[i]?, ((r :: rest).map D.tup).length⟩ (gSet 3) b_check_rows_l1 (((r :: rest).map D.tup).length + 1) 0 [some (.tup ((r :: rest).map .tup)), some (.int (r :: rest).length), some (.int r.length), none] g := by
        simp [b_check_rows, mSeq, mIf, mTest, mOp2, mOp1, mVar, mLit, Res.bind, pLen, eq_int, e0, mSkip, mAsg, gSet, pIx, atD, ixD, e1, hr', hrn, mFor, mItSeq, srcSeq]
      have ap : f_check_rows [.tup ((r :: rest).map .tup)] g = match b_check_rows [some (.tup ((r :: rest).map .tup)), none, none, none] g with
        | .nx _ g' => .ok .non g'
        | .rt d g' => .ok d g'
        | .raise e _ g' => .raise e g'
        | _ => .stuck := rfl
      rw [ap, fin]
      rcases loop with ⟨σ', g', h1, k1, _, h2⟩ | ⟨_, σ', g', h1, k1, x, hx, hg⟩
      · refine ⟨g', k1, ?_⟩
        have : goodR (r :: rest) = true := by
          rw [hd0, List.all_eq_true]
          intro x hx
          exact h2 x (by rw [List.length_map, List.take_length]; exact hx)
        rw [if_pos this, h1]
      · refine ⟨g', k1, ?_⟩
        have : ¬ goodR (r :: rest) = true := by
          rw [hd0, List.all_eq_true]
          intro z
          rw [z x hx] at hg; cases hg
        rw [if_neg this, h1]
end L3

end
section
namespace L3
open PySem
theorem Keeps.seq {g g1 : G} (k : Keeps [] g g1) {d : D} {p : Bool × List D} (h : seqOf g d = some p) : seqOf g1 d = some p := by
  cases d with
  | ref n =>
    unfold seqOf at h ⊢
    dsimp only at h ⊢
    cases hg : g[n]? with
    | none => rw [hg] at h; cases h
    | some o => rw [hg] at h; rw [k.at' n o (by simp) hg]; exact h
  | _ => exact h
theorem src_of {g : G} {d : D} {b : Bool} {ds : List D} (h : seqOf g d = some (b, ds)) : ∃ src, srcSeq d g = .ok src g ∧ src.top = ds.length ∧ ∀ g1 i, seqOf g1 d = some (b, ds) → src.at' g1 i = some ds[i]? := by
  cases d with
  | tup es => cases h; exact ⟨_, rfl, rfl, fun _ _ _ => rfl⟩
  | fl es => cases h; exact ⟨_, rfl, rfl, fun _ _ _ => rfl⟩
  | ref n =>
    unfold seqOf at h
    dsimp only at h
    cases hg : g[n]? with
    | none => rw [hg] at h; cases h
    | some o =>
      rw [hg] at h
      cases o with
      | lst es =>
        cases h
        refine ⟨_, by unfold srcSeq; dsimp only; rw [hg], rfl, fun g1 i h1 => ?_⟩
        unfold seqOf at h1
        dsimp only at h1 ⊢
        cases hg1 : g1[n]? with
        | none => rw [hg1] at h1; cases h1
        | some o1 =>
          rw [hg1] at h1
          cases o1 with
          | lst es1 => cases h1; rfl
          | _ => cases h1
      | _ => cases h
  | _ => cases h
theorem comp_seq {src : Src} {ds : List D} {e : ME} {no : Nat} {σ : S3} {g : G} {f : D → D} (ht : src.top = ds.length) (hs : ∀ g1 i, Keeps [] g g1 → src.at' g1 i = some ds[i]?)
    (he : ∀ d ∈ ds, ∀ g1, Keeps [] g g1 → ∃ g2, e ((List.replicate (no + 1) none ++ σ).set 0 (some d)) g1 = .ok (f d) g2 ∧ Keeps [] g1 g2) :
    ∃ g', compL src (gSet 0) mTrue e (src.top + 1) 0 (List.replicate (no + 1) none ++ σ) g [] = .ok (ds.map f) g' ∧ Keeps [] g g' := by
  obtain ⟨xs, σ', g', h1, h2, h3, h4⟩ := compL_gen (src := src) (t := gSet 0) (c := mTrue) (e := e) (n := ds.length)
    (fun i σ' g1 acc => acc = (ds.take i).map f ∧ Keeps [] g g1 ∧ ∃ u, σ' = (List.replicate (no + 1) none ++ σ).set 0 u) (fun i σ' g1 acc hi h => by
      obtain ⟨h1, h2, u, h3⟩ := h
      obtain ⟨g2, k1, k2⟩ := he ds[i] (List.getElem_mem hi) g1 h2
      refine ⟨ds[i], _, g1, by rw [hs g1 i h2]; simp [hi], rfl, .inl ⟨f ds[i], g2, rfl, ?_, ?_, h2.trans k2, some ds[i], ?_⟩⟩
      · subst h3; rw [List.set_set]; exact k1
      · rw [h1, List.take_succ_eq_append_getElem hi, List.map_append]; rfl
      · subst h3; rw [List.set_set]) (fun σ g1 acc h => by rw [hs g1 _ h.2.1]; simp) (src.top + 1) 0 (List.replicate (no + 1) none ++ σ) g [] (by omega) (by omega) ⟨by simp, .refl, none, by simp [List.replicate_succ]⟩
  refine ⟨g', ?_, h3⟩
  rw [h1, h2, List.take_length]
noncomputable def rowsOf (g : G) (d : D) (rows : List (List D)) : Prop := ∃ b ds, seqOf g d = some (b, ds) ∧ ds.length = rows.length ∧ ∀ (i : Nat) x r, ds[i]? = some x → rows[i]? = some r → ∃ c, seqOf g x = some (c, r)
theorem rowsOf.mono {g g1 : G} {d : D} {rows : List (List D)} (k : Keeps [] g g1) (h : rowsOf g d rows) : rowsOf g1 d rows := by
  obtain ⟨b, ds, h1, h2, h3⟩ := h
  exact ⟨b, ds, k.seq h1, h2, fun i x r hx hr => let ⟨c, q⟩ := h3 i x r hx hr; ⟨c, k.seq q⟩⟩
theorem tuple_seq {g : G} {d : D} {b : Bool} {ds : List D} (h : seqOf g d = some (b, ds)) : pTuple d g = .ok (.tup ds) g := by
  cases d with
  | tup es => cases h; rfl
  | fl es => cases h; rfl
  | ref n =>
    unfold seqOf at h
    dsimp only at h
    cases hg : g[n]? with
    | none => rw [hg] at h; cases h
    | some o =>
      rw [hg] at h
      cases o with
      | lst es => cases h; simp [pTuple, hg]
      | _ => cases h
  | _ => cases h
noncomputable def machO (rows : List (List D)) : GO := .ins 11 [(Str.ofString "table", .tup (rows.map .tup))]
theorem init_eq (m : Nat) (d : D) (rows : List (List D)) (g : G) (hm : g[m]? = some (.ins 11 [])) (hr : rowsOf g d rows) (hz : ∀ r ∈ rows, r.length ≤ SZ) (hl : rows.length ≤ SZ) (h : ∀ r ∈ rows, ∀ d ∈ r, thingD g d) :
    ∃ g', Keeps [] g g' ∧ f_Machine_init [.ref m, d] g = if goodR rows = true then .ok .non (g'.set m (machO rows)) else .raise (1, none) g' := by
  obtain ⟨b, ds, h1, h2, h3⟩ := hr
  obtain ⟨src, s1, s2, s3⟩ := src_of h1
  have mp : ∀ x ∈ ds, ∃ c r, seqOf g x = some (c, r) := fun x hx => by
    obtain ⟨i, hi, rfl⟩ := List.getElem_of_mem hx
    obtain ⟨c, q⟩ := h3 i ds[i] (rows[i]'(by omega)) (by simp [hi]) (by simp [show i < rows.length by omega])
    exact ⟨c, _, q⟩
  obtain ⟨g1, c1, k1⟩ := comp_seq (src := src) (ds := ds) (e := mOp1 pTuple (mVar 0)) (no := 0) (σ := []) (g := g) (f := fun x => .tup (((seqOf g x).map (·.2)).getD [])) s2 (fun g1 i k => s3 g1 i (k.seq h1)) (fun x hx g1 k => by
    obtain ⟨c, r, q⟩ := mp x hx
    refine ⟨g1, ?_, .refl⟩
    simp [mOp1, mVar, Res.bind, tuple_seq (k.seq q), q])
  have em : (ds.map fun x => D.tup (((seqOf g x).map (·.2)).getD [])) = rows.map .tup := by
    apply List.ext_getElem
    · simp [h2]
    · intro i hi hi'
      simp only [List.length_map] at hi hi'
      obtain ⟨c, q⟩ := h3 i ds[i] rows[i] (by simp [hi]) (by simp [hi'])
      simp [q]
  rw [em] at c1
  have c1 : compL src (gSet 0) mTrue (mOp1 pTuple (mVar 0)) (src.top + 1) 0 [none] g [] = .ok (rows.map .tup) g1 := c1
  have k2 : Keeps [] g (g1 ++ [.lst (rows.map .tup)]) := k1.trans (.push _)
  obtain ⟨g3, k3, c3⟩ := check_rows_eq rows (g1 ++ [.lst (rows.map .tup)]) hz fun r hr d hd => (h r hr d hd).mono k2
  refine ⟨g3, k2.trans k3, ?_⟩
  have hz2 : src.top ≤ SZ := by omega
  have hm3 := (k2.trans k3).at' m _ (by simp) hm
  simp [f_Machine_init, mDef, b_Machine_init, mSeq, mAsg, mOp1, mComp, mItSeq, mVar, Res.bind, s1, hz2, capt, c1, pTuple, gSet, mExpr, mCall, mCons, mNil, c3]
  by_cases hg : goodR rows = true
  · simp [hg, mSetAttr, mVar, hm3, putG, machO]
  · simp [hg]
theorem make_eq (d : D) (rows : List (List D)) (g : G) (hr : rowsOf g d rows) (hz : ∀ r ∈ rows, r.length ≤ SZ) (hl : rows.length ≤ SZ) (h : ∀ r ∈ rows, ∀ d ∈ r, thingD g d) (a : MA) (σ : S3) (g0 : G) (ha : a σ g0 = .ok [d] g) :
    ∃ g', Keeps [] g g' ∧ mMake 11 f_Machine_init a σ g0 = (if goodR rows = true then .ok (.ref g.length) g' else .raise (1, none) g') ∧ (goodR rows = true → g'[g.length]? = some (machO rows)) := by
  have kp : Keeps [] g (g ++ [.ins 11 []]) := .push _
  obtain ⟨g', k', e'⟩ := init_eq g.length d rows (g ++ [.ins 11 []]) (get_push _) (hr.mono kp) hz hl fun r hr d hd => (h r hr d hd).mono kp
  by_cases hg : goodR rows = true
  · rw [if_pos hg] at e'
    refine ⟨g'.set g.length (machO rows), ?_, ?_, fun _ => ?_⟩
    · refine ⟨by rw [List.length_set]; exact Nat.le_trans kp.len k'.len, fun n o _ e => ?_⟩
      have hn : n < g.length := get_lt e
      rw [List.getElem?_set_ne (by omega)]
      exact (kp.trans k').at' n o (by simp) e
    · simp [mMake, ha, Res.bind, e', hg]
    · rw [List.getElem?_set_self]
      have := k'.len
      simp at this
      omega
  · rw [if_neg hg] at e'
    exact ⟨g', kp.trans k', by simp [mMake, ha, Res.bind, e', hg], fun z => absurd z hg⟩
theorem states_of_eq (m : Nat) (rows : List (List D)) (g : G) (h : g[m]? = some (machO rows)) : f_states_of [.ref m] g = .ok (.int rows.length) g := by
  simp [f_states_of, mDef, b_states_of, mRet, mOp1, mAttr, mVar, Res.bind, h, machO, pLen]
theorem signs_of_eq (m : Nat) (r : List D) (rest : List (List D)) (g : G) (h : g[m]? = some (machO (r :: rest))) : f_signs_of [.ref m] g = .ok (.int r.length) g := by
  have e : (0 : Int) < (rest.length : Int) + 1 := by omega
  simp [f_signs_of, mDef, b_signs_of, mRet, mOp1, mOp2, mLit, mAttr, mVar, Res.bind, h, machO, pLen, pIx, atD, ixD, e]
end L3

end
section
namespace L3
open PySem
theorem seq_nx {a b : MS} {σ σ' : S3} {g g' : G} (h : a σ g = .nx σ' g') : mSeq a b σ g = b σ' g' := by unfold mSeq; rw [h]
theorem seq_rt {a b : MS} {σ : S3} {d : D} {g g' : G} (h : a σ g = .rt d g') : mSeq a b σ g = .rt d g' := by unfold mSeq; rw [h]
theorem seq_raise {a b : MS} {σ σ' : S3} {x : Xc} {g g' : G} (h : a σ g = .raise x σ' g') : mSeq a b σ g = .raise x σ' g' := by unfold mSeq; rw [h]
theorem asg_ok {i : Nat} {a : ME} {σ : S3} {d : D} {g g' : G} (h : a σ g = .ok d g') : mAsg (gSet i) a σ g = .nx (σ.set i (some d)) g' := by unfold mAsg; rw [h]; rfl
theorem if_true' {c : MT} {a b : MS} {σ : S3} {g g' : G} (h : c σ g = .ok true g') : mIf c a b σ g = a σ g' := by unfold mIf; rw [h]; rfl
theorem if_false' {c : MT} {a b : MS} {σ : S3} {g g' : G} (h : c σ g = .ok false g') : mIf c a b σ g = b σ g' := by unfold mIf; rw [h]; rfl
theorem call_ok {f : MF} {a : MA} {σ : S3} {ds : List D} {g g' : G} (h : a σ g = .ok ds g') : mCall f a σ g = f ds g' := by unfold mCall; rw [h]; rfl
theorem expr_ok {a : ME} {σ : S3} {d : D} {g g' : G} (h : a σ g = .ok d g') : mExpr a σ g = .nx σ g' := by unfold mExpr; rw [h]
theorem ret_ok {a : ME} {σ : S3} {d : D} {g g' : G} (h : a σ g = .ok d g') : mRet a σ g = .rt d g' := by unfold mRet; rw [h]
theorem def_rt {k n : Nat} {b : MS} {ds : List D} {d : D} {g g' : G} (hl : ds.length = k) (h : b (ds.map some ++ List.replicate n none) g = .rt d g') : mDef k n b ds g = .ok d g' := by unfold mDef; rw [if_pos hl, h]
theorem at_mod (ns : List Int) (i : Int) (h : 0 < ns.length) : ∃ x, atD (ns.map D.int) (i % ns.length) = some (.int x) := by
  have h1 : 0 ≤ i % (ns.length : Int) := Int.emod_nonneg _ (by omega)
  have h2 : i % (ns.length : Int) < ns.length := Int.emod_lt_of_pos _ (by omega)
  have h3 : (i % (ns.length : Int)).toNat < ns.length := by omega
  refine ⟨ns[(i % (ns.length : Int)).toNat], ?_⟩
  unfold atD ixD
  rw [List.length_map, if_pos h1, if_pos h2]
  simp [h3]
theorem ix0 {a : Nat} {d : D} {g : G} (h : g[a]? = some (.lst [d])) : pIx (.ref a) (.int 0) g = .ok d g := by
  unfold pIx; dsimp only; rw [h]; rfl
theorem ixfl {ds : List D} {i : Int} {d : D} {g : G} (h : atD ds i = some d) : pIx (.fl ds) (.int i) g = .ok d g := by
  unfold pIx; dsimp only; rw [h]
theorem next_tail (c : Int) (x : D) (a : Nat) (k : Int) (g : G) (ga : g[a]? = some (.lst [.int k])) (hk : 0 ≤ k) (hk2 : k < 1000000001) : ∃ m, 0 ≤ m ∧ m < 1999999973 ∧ (mSeq (mAsg (gSet 3) (mOp2 pMod (mOp2 pMul (mOp2 pAdd (mOp2 pAdd (mOp2 pMod (mVar 2) (mLit (.int 2147483647))) (mOp2 pMul (mOp2 pMul (mOp2 pIx (mVar 1) (mLit (.int 0))) (mOp2 pIx (mVar 1) (mLit (.int 0)))) (mLit (.int 7919)))) (mLit (.int 11))) (mLit (.int 48271))) (mLit (.int 2147483647))))
      (mRet (mOp2 pMod (mOp2 pMul (mVar 3) (mVar 3)) (mLit (.int 1999999973))))) [some x, some (.ref a), some (.int c), none] g = .rt (.int m) g := by
  have c1 : cM k := ⟨by omega, by omega⟩
  have c2 : cM 7919 := ⟨by decide, by decide⟩
  have c3 : cM 48271 := ⟨by decide, by decide⟩
  have hr := Int.emod_lt_of_pos ((c % 2147483647 + k * k * 7919 + 11) * 48271) (show (0 : Int) < 2147483647 by decide)
  have hr0 := Int.emod_nonneg ((c % 2147483647 + k * k * 7919 + 11) * 48271) (show (2147483647 : Int) ≠ 0 by decide)
  have c4 : cM (((c % 2147483647 + k * k * 7919 + 11) * 48271) % 2147483647) := ⟨by omega, by omega⟩
  refine ⟨((c % 2147483647 + k * k * 7919 + 11) * 48271) % 2147483647 * (((c % 2147483647 + k * k * 7919 + 11) * 48271) % 2147483647) % 1999999973, Int.emod_nonneg _ (by decide), Int.emod_lt_of_pos _ (by decide), ?_⟩
  have e1 : (mOp2 pMod (mOp2 pMul (mOp2 pAdd (mOp2 pAdd (mOp2 pMod (mVar 2) (mLit (.int 2147483647))) (mOp2 pMul (mOp2 pMul (mOp2 pIx (mVar 1) (mLit (.int 0))) (mOp2 pIx (mVar 1) (mLit (.int 0)))) (mLit (.int 7919)))) (mLit (.int 11))) (mLit (.int 48271))) (mLit (.int 2147483647))) [some x, some (.ref a), some (.int c), none] g = .ok (.int (((c % 2147483647 + k * k * 7919 + 11) * 48271) % 2147483647)) g := by
    simp [mOp2, mVar, mLit, Res.bind, ix0 ga, pMod, pMul, pAdd, c1, c2, c3]
  rw [seq_nx (asg_ok e1)]
  generalize ((c % 2147483647 + k * k * 7919 + 11) * 48271) % 2147483647 = r at c4 ⊢
  refine ret_ok ?_
  simp [mOp2, mVar, mLit, Res.bind, pMod, pMul, c4]
theorem next_eq (ns : List Int) (a : Nat) (k : Int) (g : G) (hg : g[a]? = some (.lst [.int k])) (hk : 0 ≤ k) (hk2 : k < 1000000000) :
    ∃ m, 0 ≤ m ∧ m < 1999999973 ∧ f_L_next [.fl (ns.map .int), .ref a] g = .ok (.int m) (g.set a (.lst [.int (k + 1)])) := by
  have s1 : mSetIx (mVar 1) (mLit (.int 0)) (mOp2 pAdd (mOp2 pIx (mVar 1) (mLit (.int 0))) (mLit (.int 1))) [some (.fl (ns.map .int)), some (.ref a), none, none] g = .nx [some (.fl (ns.map .int)), some (.ref a), none, none] (g.set a (.lst [.int (k + 1)])) := by
    simp [mSetIx, mOp2, mVar, mLit, Res.bind, ix0 hg, pAdd, hg, ixD]
  have ga : (g.set a (.lst [.int (k + 1)]))[a]? = some (.lst [.int (k + 1)]) := get_set hg
  generalize g.set a (.lst [.int (k + 1)]) = g1 at s1 ga ⊢
  have s2 : mAsg (gSet 2) (mLit (.int 0)) [some (.fl (ns.map .int)), some (.ref a), none, none] g1 = .nx [some (.fl (ns.map .int)), some (.ref a), some (.int 0), none] g1 := rfl
  have s3 : ∃ c, mIf (mTest (mOp2 pGt (mOp1 pLen (mVar 0)) (mLit (.int 0)))) (mAsg (gSet 2) (mOp2 pIx (mVar 0) (mOp2 pMod (mOp2 pIx (mVar 1) (mLit (.int 0))) (mOp1 pLen (mVar 0))))) mSkip [some (.fl (ns.map .int)), some (.ref a), some (.int 0), none] g1 = .nx [some (.fl (ns.map .int)), some (.ref a), some (.int c), none] g1 := by
    by_cases hl : 0 < ns.length
    · obtain ⟨x, hx⟩ := at_mod ns (k + 1) hl
      have hl' : (0 : Int) < (ns.length : Int) := by omega
      refine ⟨x, ?_⟩
      rw [if_true' (g' := g1) (by simp [mTest, mOp2, mOp1, mVar, mLit, Res.bind, pLen, pGt, pCmp, hl])]
      refine asg_ok ?_
      simp only [mOp2, mOp1, mVar, mLit, Res.bind, List.getElem?_cons_succ, List.getElem?_cons_zero, ix0 ga, pLen, pMod, List.length_map, hl', if_true, ixfl hx]
    · cases ns with
      | nil => exact ⟨0, rfl⟩
      | cons x r => simp at hl
  obtain ⟨c, s3⟩ := s3
  obtain ⟨m, m1, m2, m3⟩ := next_tail c (.fl (ns.map .int)) a (k + 1) g1 ga (by omega) (by omega)
  refine ⟨m, m1, m2, def_rt rfl ?_⟩
  show b_L_next [some (.fl (ns.map .int)), some (.ref a), none, none] g = _
  unfold b_L_next
  rw [seq_nx s1, seq_nx s2, seq_nx s3, m3]
end L3

end
section
namespace L3
open PySem
noncomputable def entOk (d : D) (n m : Nat) : Prop := d = .non ∨ ∃ (i j : Int) (w : Str), d = .tup [.int i, .str w, .int j] ∧ 0 ≤ i ∧ i < m ∧ 0 ≤ j ∧ j < n ∧ (w = ⟨#[108]⟩ ∨ w = ⟨#[114]⟩)
theorem entOk.ent {d : D} {n m : Nat} (h : entOk d n m) : entD d n m = true := by
  rcases h with rfl | ⟨i, j, w, rfl, h1, h2, h3, h4, h5⟩
  · rfl
  · rcases h5 with rfl | rfl <;> simp [entD, belowD, wayD, h1, h2, h3, h4]
theorem entOk.thing {d : D} {n m : Nat} {g : G} (h : entOk d n m) : thingD g d := by
  rcases h with rfl | ⟨i, j, w, rfl, h1, h2, h3, h4, h5⟩
  · exact ⟨⟨_, rfl⟩, fun a b c h => by cases h⟩
  · exact ⟨⟨_, rfl⟩, fun a b c h => by cases h; exact ⟨rfl, rfl, rfl⟩⟩
theorem s_lr : Str.ofString "lr" = ⟨#[108, 114]⟩ := by decide +kernel
theorem ix_lr (i : Int) (g : G) : ∃ w, pIx (.str (Str.ofString "lr")) (.int (i % 2)) g = .ok (.str w) g ∧ (w = ⟨#[108]⟩ ∨ w = ⟨#[114]⟩) := by
  rw [s_lr]
  rcases (by omega : i % 2 = 0 ∨ i % 2 = 1) with e | e
  · rw [e]; exact ⟨_, rfl, .inl rfl⟩
  · rw [e]; exact ⟨_, rfl, .inr rfl⟩
theorem append_ok {n : Nat} {ds : List D} {y : D} {σ : S3} {g : G} {i j : Nat} (hi : σ[i]? = some (some (.ref n))) (hj : σ[j]? = some (some y)) (h : g[n]? = some (.lst ds)) (hz : ds.length < SZ) :
    mExpr (mAppend (mVar i) (mVar j)) σ g = .nx σ (g.set n (.lst (ds ++ [y]))) := by
  refine expr_ok (d := .non) ?_
  simp [mAppend, mVar, hi, hj, Res.bind, h, hz]
theorem cell_turn (ns : List Int) (a l t : Nat) (k : Int) (n m : Nat) (x5 x7 x8 x9 : Option D) (row : List D) (g : G) (hn : 0 < n) (hm : 0 < m) (ga : g[a]? = some (.lst [.int k])) (gl : g[l]? = some (.lst row)) (hal : a ≠ l) (hk : 0 ≤ k) (hk2 : k < 1000000000) (hz : row.length < SZ) :
    ∃ d x8', entOk d n m ∧ b_L_table_l2 [some (.fl (ns.map .int)), some (.ref a), some (.int n), some (.int m), some (.ref t), x5, some (.ref l), x7, x8, x9] g = .nx [some (.fl (ns.map .int)), some (.ref a), some (.int n), some (.int m), some (.ref t), x5, some (.ref l), x7, x8', some d] ((g.set a (.lst [.int (k + 1)])).set l (.lst (row ++ [d]))) := by
  obtain ⟨mm, m1, m2, e⟩ := next_eq ns a k g ga hk hk2
  have gl1 : (g.set a (.lst [.int (k + 1)]))[l]? = some (.lst row) := by rw [List.getElem?_set_ne hal]; exact gl
  generalize g.set a (.lst [.int (k + 1)]) = g1 at e gl1 ⊢
  obtain ⟨w, hw, ww⟩ := ix_lr (mm / 100) g1
  have hm' : (0 : Int) < m := by omega
  have hn' : (0 : Int) < n := by omega
  have s1 : mAsg (gSet 8) (mCall f_L_next (mCons (mVar 0) (mCons (mVar 1) mNil))) [some (.fl (ns.map .int)), some (.ref a), some (.int n), some (.int m), some (.ref t), x5, some (.ref l), x7, x8, x9] g = .nx [some (.fl (ns.map .int)), some (.ref a), some (.int n), some (.int m), some (.ref t), x5, some (.ref l), x7, some (.int mm), x9] g1 :=
    asg_ok (by rw [call_ok (ds := [.fl (ns.map .int), .ref a]) (g' := g) rfl]; exact e)
  have v2 : (mOpA pTup (mCons (mOp2 pMod (mOp2 pFdiv (mVar 8) (mLit (.int 9))) (mVar 3)) (mCons (mOp2 pIx (mLit (.str (Str.ofString "lr"))) (mOp2 pMod (mOp2 pFdiv (mVar 8) (mLit (.int 100))) (mLit (.int 2)))) (mCons (mOp2 pMod (mOp2 pFdiv (mVar 8) (mLit (.int 300))) (mVar 2)) mNil)))) [some (.fl (ns.map .int)), some (.ref a), some (.int n), some (.int m), some (.ref t), x5, some (.ref l), x7, some (.int mm), x9] g1 = .ok (.tup [.int (mm / 9 % m), .str w, .int (mm / 300 % n)]) g1 := by
    simp [mOpA, mCons, mNil, mOp2, mVar, mLit, Res.bind, pFdiv, pMod, hm', hn', hw, pTup, SZ, hm, hn]
  have s2 : mAsg (gSet 9) (mOpA pTup (mCons (mOp2 pMod (mOp2 pFdiv (mVar 8) (mLit (.int 9))) (mVar 3)) (mCons (mOp2 pIx (mLit (.str (Str.ofString "lr"))) (mOp2 pMod (mOp2 pFdiv (mVar 8) (mLit (.int 100))) (mLit (.int 2)))) (mCons (mOp2 pMod (mOp2 pFdiv (mVar 8) (mLit (.int 300))) (mVar 2)) mNil)))) [some (.fl (ns.map .int)), some (.ref a), some (.int n), some (.int m), some (.ref t), x5, some (.ref l), x7, some (.int mm), x9] g1 = .nx [some (.fl (ns.map .int)), some (.ref a), some (.int n), some (.int m), some (.ref t), x5, some (.ref l), x7, some (.int mm), some (.tup [.int (mm / 9 % m), .str w, .int (mm / 300 % n)])] g1 := asg_ok v2
  have t3 : mTest (mOp2 pEq (mOp2 pMod (mVar 8) (mLit (.int 9))) (mLit (.int 0))) [some (.fl (ns.map .int)), some (.ref a), some (.int n), some (.int m), some (.ref t), x5, some (.ref l), x7, some (.int mm), some (.tup [.int (mm / 9 % m), .str w, .int (mm / 300 % n)])] g1 = .ok (mm % 9 == 0) g1 := by
    simp [mTest, mOp2, mVar, mLit, Res.bind, pMod, eq_int]
  unfold b_L_table_l2
  by_cases h9 : mm % 9 = 0
  · refine ⟨.non, some (.int mm), .inl rfl, ?_⟩
    rw [seq_nx s1, seq_nx s2, seq_nx (σ' := [some (.fl (ns.map .int)), some (.ref a), some (.int n), some (.int m), some (.ref t), x5, some (.ref l), x7, some (.int mm), some .non]) (g' := g1) ?_]
    · exact append_ok rfl rfl gl1 hz
    · rw [if_true' (g' := g1) (t3.trans (by simp [h9]))]; rfl
  · refine ⟨.tup [.int (mm / 9 % m), .str w, .int (mm / 300 % n)], some (.int mm), .inr ⟨_, _, w, rfl, Int.emod_nonneg _ (by omega), Int.emod_lt_of_pos _ hm', Int.emod_nonneg _ (by omega), Int.emod_lt_of_pos _ hn', ww⟩, ?_⟩
    rw [seq_nx s1, seq_nx s2, seq_nx (σ' := [some (.fl (ns.map .int)), some (.ref a), some (.int n), some (.int m), some (.ref t), x5, some (.ref l), x7, some (.int mm), some (.tup [.int (mm / 9 % m), .str w, .int (mm / 300 % n)])]) (g' := g1) ?_]
    · exact append_ok rfl rfl gl1 hz
    · rw [if_false' (g' := g1) (t3.trans (by simp [h9]))]; rfl
end L3

end
section
namespace L3
open PySem
theorem sz_lt {n : Nat} (h : n ≤ 1000) : n < SZ := Nat.lt_of_le_of_lt h (by decide)
theorem inR_of {n : Nat} (h : n ≤ 1000) : inR (n : Int) := by
  have : (n : Int) ≤ 1000 := by exact_mod_cast h
  constructor <;> omega
theorem range1_ok {a : ME} {n : Nat} {σ : S3} {g g' : G} (h : a σ g = .ok (.int n) g') (hr : inR (n : Int)) : mItRange1 a σ g = .ok (srcRange 0 n) g' := by
  unfold mItRange1; rw [h, Res.bind_ok]; dsimp only; rw [if_pos hr, Int.toNat_natCast]
theorem for_ok {it : MI} {t : MG} {body : MS} {src : Src} {σ : S3} {g g' : G} (h : it σ g = .ok src g') : mFor it t body σ g = forL src t body (src.top + 1) 0 σ g' := by
  unfold mFor; rw [h]
theorem row_loop (ns : List Int) (a l t : Nat) (k : Int) (n m : Nat) (x5 x7 x8 x9 : Option D) (g : G) (hn : 0 < n) (hm : 0 < m) (hm8 : m ≤ 8) (ga : g[a]? = some (.lst [.int k])) (gl : g[l]? = some (.lst [])) (hal : a ≠ l) (hk : 0 ≤ k) (hk2 : k + m < 1000000000) :
    ∃ row y7 y8 y9 g', mFor (mItRange1 (mVar 3)) (gSet 7) b_L_table_l2 [some (.fl (ns.map .int)), some (.ref a), some (.int n), some (.int m), some (.ref t), x5, some (.ref l), x7, x8, x9] g = .nx [some (.fl (ns.map .int)), some (.ref a), some (.int n), some (.int m), some (.ref t), x5, some (.ref l), y7, y8, y9] g' ∧
      row.length = m ∧ (∀ d ∈ row, entOk d n m) ∧ Keeps [a, l] g g' ∧ g'[a]? = some (.lst [.int (k + m)]) ∧ g'[l]? = some (.lst row) := by
  have hr : inR (m : Int) := inR_of (by omega)
  have hf : mFor (mItRange1 (mVar 3)) (gSet 7) b_L_table_l2 [some (.fl (ns.map .int)), some (.ref a), some (.int n), some (.int m), some (.ref t), x5, some (.ref l), x7, x8, x9] g = forL (srcRange 0 m) (gSet 7) b_L_table_l2 (m + 1) 0 [some (.fl (ns.map .int)), some (.ref a), some (.int n), some (.int m), some (.ref t), x5, some (.ref l), x7, x8, x9] g := for_ok (range1_ok rfl hr)
  rw [hf]
  obtain ⟨σ', g', e, row, y7, y8, y9, h1, h2, h3, h4, h5, h6⟩ := for_range (t := gSet 7) (body := b_L_table_l2) (lo := 0) (n := m) (σ := [some (.fl (ns.map .int)), some (.ref a), some (.int n), some (.int m), some (.ref t), x5, some (.ref l), x7, x8, x9]) (g := g)
    (fun i σ g1 => ∃ row y7 y8 y9, σ = [some (.fl (ns.map .int)), some (.ref a), some (.int n), some (.int m), some (.ref t), x5, some (.ref l), y7, y8, y9] ∧ row.length = i ∧ (∀ d ∈ row, entOk d n m) ∧ Keeps [a, l] g g1 ∧ g1[a]? = some (.lst [.int (k + i)]) ∧ g1[l]? = some (.lst row))
    ⟨[], x7, x8, x9, rfl, rfl, by simp, .refl, by simpa using ga, gl⟩ (fun i σ g1 hi ⟨row, y7, y8, y9, h1, h2, h3, h4, h5, h6⟩ => by
      subst h1
      obtain ⟨d, x8', hd, e⟩ := cell_turn ns a l t (k + i) n m x5 (some (.int (0 + i))) y8 y9 row g1 hn hm h5 h6 hal (by omega) (by omega) (sz_lt (by omega))
      refine ⟨_, _, _, rfl, e, row ++ [d], _, x8', _, rfl, by simp [h2], ?_, ?_, ?_, ?_⟩
      · intro x hx
        rcases List.mem_append.mp hx with z | z
        · exact h3 x z
        · rw [List.mem_singleton.mp z]; exact hd
      · exact h4.trans (((Keeps.set a _).mono (by simp)).trans ((Keeps.set l _).mono (by simp)))
      · rw [List.getElem?_set_ne (Ne.symm hal), get_set h5]
        simp; omega
      · refine get_set (o := .lst row) ?_
        rw [List.getElem?_set_ne hal]; exact h6)
  exact ⟨row, y7, y8, y9, g', by rw [e, h1], h2, h3, h4, h5, h6⟩
end L3

end
section
namespace L3
open PySem
theorem om1 {a b c : Nat} (h1 : a < b) (h2 : b < c) : a ≠ c := by omega
theorem om2 {k x : Int} (h1 : 0 ≤ k) (h2 : 0 ≤ x) : 0 ≤ k + x := by omega
theorem om3 {k x : Int} {m : Nat} (h1 : k < 900000000) (h2 : x ≤ 96) (h3 : m ≤ 8) : k + x + m < 1000000000 := by omega
theorem om7 {a b c : Nat} {ds : List D} (h2 : ds.length = a) (hi : a < b) (h3 : b ≤ 12) : ds.length ≤ 1000 := by omega
noncomputable def tabOf (N : Nat) (g : G) (t : Nat) (rows : List (List D)) : Prop := N ≤ t ∧ ∃ ds, g[t]? = some (.lst ds) ∧ ds.length = rows.length ∧ ∀ (i : Nat) x r, ds[i]? = some x → rows[i]? = some r → ∃ n, x = .ref n ∧ N ≤ n ∧ n ≠ t ∧ g[n]? = some (.lst r)
theorem tabOf.rows {N : Nat} {g : G} {t : Nat} {rows : List (List D)} (h : tabOf N g t rows) : rowsOf g (.ref t) rows := by
  obtain ⟨_, ds, h1, h2, h3⟩ := h
  refine ⟨true, ds, by simp [seqOf, h1], h2, fun i x r hx hr => ?_⟩
  obtain ⟨n, rfl, _, _, h4⟩ := h3 i x r hx hr
  exact ⟨true, by simp [seqOf, h4]⟩
theorem tabOf.mono {N : Nat} {S : List Nat} {g g1 : G} {t : Nat} {rows : List (List D)} (h : tabOf N g t rows) (k : Keeps S g g1) (hS : ∀ n ∈ S, n < N) : tabOf N g1 t rows := by
  obtain ⟨h0, ds, h1, h2, h3⟩ := h
  refine ⟨h0, ds, k.at' t _ (fun z => by have := hS t z; omega) h1, h2, fun i x r hx hr => ?_⟩
  obtain ⟨n, h4, h5, h6, h7⟩ := h3 i x r hx hr
  exact ⟨n, h4, h5, h6, k.at' n _ (fun z => by have := hS n z; omega) h7⟩
theorem table_eq (ns : List Int) (a : Nat) (k : Int) (n m : Nat) (g : G) (hn : 0 < n) (hm : 0 < m) (hn12 : n ≤ 12) (hm8 : m ≤ 8) (ga : g[a]? = some (.lst [.int k])) (hk : 0 ≤ k) (hk2 : k < 900000000) :
    ∃ rows g', f_L_table [.fl (ns.map .int), .ref a, .int n, .int m] g = .ok (.ref g.length) g' ∧ Keeps [a] g g' ∧ g'[a]? = some (.lst [.int (k + n * m)]) ∧ tabOf g.length g' g.length rows ∧ rows.length = n ∧ (∀ r ∈ rows, r.length = m) ∧ ∀ r ∈ rows, ∀ d ∈ r, entOk d n m := by
  have hr : inR (n : Int) := inR_of (by omega)
  have hal : a < g.length := get_lt ga
  have hz0 : ([] : List D).length ≤ SZ := by simp
  have s1 : mAsg (gSet 4) (mOpA newL mNil) [some (.fl (ns.map .int)), some (.ref a), some (.int n), some (.int m), none, none, none, none, none, none] g = .nx [some (.fl (ns.map .int)), some (.ref a), some (.int n), some (.int m), some (.ref g.length), none, none, none, none, none] (g ++ [.lst []]) :=
    asg_ok (by simp [mOpA, mNil, Res.bind, newL])
  have kp : Keeps [a] g (g ++ [.lst []]) := .push _
  have ga1 : (g ++ [.lst []])[a]? = some (.lst [.int k]) := (Keeps.push (S := []) (.lst [])).at' a _ (by simp) ga
  have gt1 : (g ++ [.lst []])[g.length]? = some (.lst []) := get_push _
  have hl1 : g.length < (g ++ [GO.lst []]).length := by simp
  generalize g ++ [.lst []] = g1 at s1 kp ga1 gt1 hl1
  obtain ⟨σ', g', e, ds, rows, y5, y6, y7, y8, y9, h1, h2, h3, h4, h5, h6, h7, h8, h9⟩ := for_range (t := gSet 5) (body := b_L_table_l1) (lo := 0) (n := n) (σ := [some (.fl (ns.map .int)), some (.ref a), some (.int n), some (.int m), some (.ref g.length), none, none, none, none, none]) (g := g1)
    (fun i σ g2 => ∃ ds rows y5 y6 y7 y8 y9, σ = [some (.fl (ns.map .int)), some (.ref a), some (.int n), some (.int m), some (.ref g.length), y5, y6, y7, y8, y9] ∧ ds.length = i ∧ rows.length = i ∧ Keeps [a, g.length] g1 g2 ∧ g2[a]? = some (.lst [.int (k + i * m)]) ∧ g2[g.length]? = some (.lst ds) ∧
      (∀ (i : Nat) x r, ds[i]? = some x → rows[i]? = some r → ∃ n, x = .ref n ∧ g.length < n ∧ g2[n]? = some (.lst r)) ∧ (∀ r ∈ rows, r.length = m) ∧ ∀ r ∈ rows, ∀ d ∈ r, entOk d n m)
    ⟨[], [], none, none, none, none, none, rfl, rfl, rfl, .refl, by simpa using ga1, gt1, by simp, by simp, by simp⟩ (fun i σ g2 hi ⟨ds, rows, y5, y6, y7, y8, y9, h1, h2, h3, h4, h5, h6, h7, h8, h9⟩ => by
      subst h1
      have hl2 : g.length < g2.length := get_lt h6
      have q1 : mAsg (gSet 6) (mOpA newL mNil) [some (.fl (ns.map .int)), some (.ref a), some (.int n), some (.int m), some (.ref g.length), some (.int (0 + i)), y6, y7, y8, y9] g2 = .nx [some (.fl (ns.map .int)), some (.ref a), some (.int n), some (.int m), some (.ref g.length), some (.int (0 + i)), some (.ref g2.length), y7, y8, y9] (g2 ++ [.lst []]) :=
        asg_ok (by simp [mOpA, mNil, Res.bind, newL])
      have k3 : Keeps [] g2 (g2 ++ [.lst []]) := .push _
      have gl3 : (g2 ++ [.lst []])[g2.length]? = some (.lst []) := get_push _
      generalize g2 ++ [.lst []] = g3 at q1 k3 gl3
      have him : (i : Int) * m ≤ 96 := by
        have : i * m ≤ 12 * 8 := Nat.mul_le_mul (by omega) hm8
        exact_mod_cast this
      have him0 : (0 : Int) ≤ (i : Int) * m := Int.mul_nonneg (by omega) (by omega)
      obtain ⟨row, z7, z8, z9, g4, e4, r1, r2, r3, r4, r5⟩ := row_loop ns a g2.length g.length (k + i * m) n m (some (.int (0 + i))) y7 y8 y9 g3 hn hm hm8 (k3.at' a _ (by simp) h5) gl3 (om1 hal hl2) (om2 hk him0) (om3 hk2 him hm8)
      have gt4 : g4[g.length]? = some (.lst ds) := r3.at' _ _ (by simp; omega) (k3.at' _ _ (by simp) h6)
      refine ⟨_, [some (.fl (ns.map .int)), some (.ref a), some (.int n), some (.int m), some (.ref g.length), some (.int (0 + i)), some (.ref g2.length), z7, z8, z9], g4.set g.length (.lst (ds ++ [.ref g2.length])), rfl, ?_, ds ++ [.ref g2.length], rows ++ [row], _, _, z7, z8, z9, rfl, by simp [h2], by simp [h3], ?_, ?_, ?_, ?_, ?_, ?_⟩
      · show b_L_table_l1 [some (.fl (ns.map .int)), some (.ref a), some (.int n), some (.int m), some (.ref g.length), some (.int (0 + i)), y6, y7, y8, y9] g2 = _
        unfold b_L_table_l1
        rw [seq_nx q1, seq_nx e4]
        exact append_ok rfl rfl gt4 (sz_lt (om7 (c := 0) h2 hi hn12))
      · refine ⟨by rw [List.length_set]; exact Nat.le_trans h4.len (Nat.le_trans k3.len r3.len), fun b o hb eb => ?_⟩
        have hb' : b ≠ a ∧ b ≠ g.length := by simpa using hb
        have e2 := h4.at' b o hb eb
        have : b < g2.length := get_lt e2
        rw [List.getElem?_set_ne (Ne.symm hb'.2)]
        exact r3.at' b o (by simp; omega) (k3.at' b o (by simp) e2)
      · rw [List.getElem?_set_ne (by omega), r4]
        have : k + (i : Int) * m + m = k + ((i + 1 : Nat) : Int) * m := by
          rw [Int.natCast_add, Int.add_mul]; simp; omega
        rw [this]
      · exact get_set gt4
      · intro j x r hx hr'
        have key : ∀ b o, g.length < b → g2[b]? = some o → (g4.set g.length (.lst (ds ++ [.ref g2.length])))[b]? = some o := fun b o hb eb => by
          have : b < g2.length := get_lt eb
          rw [List.getElem?_set_ne (by omega)]
          exact r3.at' b o (by simp; omega) (k3.at' b o (by simp) eb)
        by_cases hj : j < i
        · rw [List.getElem?_append_left (by omega)] at hx hr'
          obtain ⟨b, hb1, hb2, hb3⟩ := h7 j x r hx hr'
          exact ⟨b, hb1, hb2, key b _ hb2 hb3⟩
        · have hji : j = i := by
            have := (List.getElem?_eq_some_iff.mp hx).1
            simp at this; omega
          subst hji
          rw [List.getElem?_append_right (by omega), h2] at hx
          rw [List.getElem?_append_right (by omega), h3] at hr'
          simp at hx hr'
          subst hx hr'
          exact ⟨g2.length, rfl, hl2, by rw [List.getElem?_set_ne (by omega)]; exact r5⟩
      · intro r hr'
        rcases List.mem_append.mp hr' with z | z
        · exact h8 r z
        · rw [List.mem_singleton.mp z]; exact r1
      · intro r hr'
        rcases List.mem_append.mp hr' with z | z
        · exact h9 r z
        · rw [List.mem_singleton.mp z]; exact r2)
  refine ⟨rows, g', ?_, ?_, h5, ⟨Nat.le_refl _, ds, h6, by omega, fun i x r hx hr' => ?_⟩, h3, h8, h9⟩
  · refine def_rt rfl ?_
    show b_L_table [some (.fl (ns.map .int)), some (.ref a), some (.int n), some (.int m), none, none, none, none, none, none] g = _
    unfold b_L_table
    rw [seq_nx s1, seq_nx (σ' := σ') (g' := g') ?_]
    · subst h1; rfl
    · rw [← e]
      exact for_ok (range1_ok rfl hr)
  · refine ⟨Nat.le_trans kp.len h4.len, fun b o hb eb => ?_⟩
    have : b < g.length := get_lt eb
    exact h4.at' b o (by simp at hb ⊢; omega) (kp.at' b o hb eb)
  · obtain ⟨b, hb1, hb2, hb3⟩ := h7 i x r hx hr'
    exact ⟨b, hb1, by omega, by omega, hb3⟩
end L3

end
section
namespace L3
open PySem
theorem seq_to {a b : MS} {σ : S3} {g : G} {R : Out} (σ' : S3) (g' : G) (h : a σ g = .nx σ' g') (h2 : b σ' g' = R) : mSeq a b σ g = R := (seq_nx h).trans h2
theorem ift {c : MT} {a b : MS} {σ : S3} {g : G} {R : Out} (g' : G) (h : c σ g = .ok true g') (h2 : a σ g' = R) : mIf c a b σ g = R := (if_true' h).trans h2
theorem iff' {c : MT} {a b : MS} {σ : S3} {g : G} {R : Out} (g' : G) (h : c σ g = .ok false g') (h2 : b σ g' = R) : mIf c a b σ g = R := (if_false' h).trans h2
theorem same_int (f : Nat) (i : Int) (g : G) : f_L_same (f + 1) [.int i, .int i] g = .ok (.bl true) g := by
  refine def_rt rfl ?_
  show b_L_same (f_L_same f) [some (.int i), some (.int i)] g = _
  unfold b_L_same
  refine seq_to [some (.int i), some (.int i)] g rfl (seq_to [some (.int i), some (.int i)] g rfl (seq_to [some (.int i), some (.int i)] g rfl (ret_ok ?_)))
  simp [mAnd, mOp1, mNot, mOp2, mVar, Res.bind, pIsin, tyOf, tyLe, eq_int]
theorem same_str (f : Nat) (w : Str) (g : G) : f_L_same (f + 1) [.str w, .str w] g = .ok (.bl true) g := by
  refine def_rt rfl ?_
  show b_L_same (f_L_same f) [some (.str w), some (.str w)] g = _
  unfold b_L_same
  refine seq_to [some (.str w), some (.str w)] g rfl (seq_to [some (.str w), some (.str w)] g rfl (seq_rt (ift g rfl (ret_ok ?_))))
  simp [mAnd, mOp1, mOp2, mVar, Res.bind, pIsin, tyOf, tyLe, eq_int0, eq_str0]
theorem same_ent (f : Nat) (i j : Int) (w : Str) (g : G) : ∃ g', Keeps [] g g' ∧ f_L_same (f + 2) [.tup [.int i, .str w, .int j], .tup [.int i, .str w, .int j]] g = .ok (.bl true) g' := by
  refine ⟨g ++ [.lst [.bl true, .bl true, .bl true]], .push _, def_rt rfl ?_⟩
  show b_L_same (f_L_same (f + 1)) [some (.tup [.int i, .str w, .int j]), some (.tup [.int i, .str w, .int j])] g = _
  unfold b_L_same
  refine seq_to [some (.tup [.int i, .str w, .int j]), some (.tup [.int i, .str w, .int j])] g rfl (seq_rt (ift g rfl (seq_to [some (.tup [.int i, .str w, .int j]), some (.tup [.int i, .str w, .int j])] g rfl (ret_ok ?_))))
  simp [mAnd, mOp1, mOp2, mVar, Res.bind, pLen, eq_int, mComp, mItZip, srcZip, seqOf, SZ, capt, compL, gTup3, gSets, gSet, mTrue, mCall, mCons, mNil, same_int, same_str, pAll, allB]
end L3

end
section
namespace L3
open PySem
noncomputable def tabD (N : Nat) (g : G) (t : Nat) (rows : List (List D)) : Prop := N ≤ t ∧ ∃ ls : List Nat, g[t]? = some (.lst (ls.map .ref)) ∧ ls.length = rows.length ∧ ls.Nodup ∧ ∀ (i n : Nat) r, ls[i]? = some n → rows[i]? = some r → N ≤ n ∧ n ≠ t ∧ g[n]? = some (.lst r)
theorem tabD.tab {N : Nat} {g : G} {t : Nat} {rows : List (List D)} (h : tabD N g t rows) : tabOf N g t rows := by
  obtain ⟨h0, ls, h1, h2, _, h3⟩ := h
  refine ⟨h0, _, h1, by simp [h2], fun i x r hx hr => ?_⟩
  rw [List.getElem?_map] at hx
  cases hl : ls[i]? with
  | none => rw [hl] at hx; cases hx
  | some n => rw [hl] at hx; cases hx; exact ⟨n, rfl, h3 i n r hl hr⟩
theorem tabD.mono {N : Nat} {S : List Nat} {g g1 : G} {t : Nat} {rows : List (List D)} (h : tabD N g t rows) (k : Keeps S g g1) (hS : ∀ n ∈ S, n < N) : tabD N g1 t rows := by
  obtain ⟨h0, ls, h1, h2, hd, h3⟩ := h
  refine ⟨h0, ls, k.at' t _ (fun z => by have := hS t z; omega) h1, h2, hd, fun i n r hn hr => ?_⟩
  obtain ⟨q1, q2, q3⟩ := h3 i n r hn hr
  exact ⟨q1, q2, k.at' n _ (fun z => by have := hS n z; omega) q3⟩
theorem tabD.set {N : Nat} {g : G} {t : Nat} {rows : List (List D)} (h : tabD N g t rows) (i : Nat) (hi : i < rows.length) : ∃ n ds, g[t]? = some (.lst ds) ∧ ds[i]? = some (.ref n) ∧ ds.length = rows.length ∧ N ≤ n ∧ n ≠ t ∧ g[n]? = some (.lst rows[i]) ∧ ∀ r', tabD N (g.set n (.lst r')) t (rows.set i r') := by
  obtain ⟨h0, ls, h1, h2, hd, h3⟩ := h
  have hil : i < ls.length := by omega
  obtain ⟨q1, q2, q3⟩ := h3 i ls[i] rows[i] (by simp [hil]) (by simp [hi])
  refine ⟨ls[i], _, h1, by simp [hil], by simp [h2], q1, q2, q3, fun r' => ⟨h0, ls, by rw [List.getElem?_set_ne q2]; exact h1, by simp [h2], hd, fun j n r hn hr => ?_⟩⟩
  by_cases hj : j = i
  · subst hj
    have : n = ls[j] := by simp [hil] at hn; exact hn.symm
    subst this
    have : r = r' := by simp [hi] at hr; exact hr.symm
    subst this
    exact ⟨q1, q2, get_set q3⟩
  · rw [List.getElem?_set_ne (Ne.symm hj)] at hr
    obtain ⟨p1, p2, p3⟩ := h3 j n r hn hr
    have hne : ls[i] ≠ n := fun z => by
      obtain ⟨hj', e⟩ := List.getElem?_eq_some_iff.mp hn
      have pw := List.pairwise_iff_getElem.mp hd
      rcases Nat.lt_or_gt_of_ne hj with y | y
      · exact pw j i hj' hil y (by rw [e, z])
      · exact pw i j hil hj' y (by rw [e, z])
    exact ⟨p1, p2, by rw [List.getElem?_set_ne hne]; exact p3⟩
theorem list_ok {n : Nat} {r : List D} {g : G} (h : g[n]? = some (.lst r)) : pList (.ref n) g = .ok (.ref g.length) (g ++ [.lst r]) := by simp [pList, h]
end L3

end
section
namespace L3
open PySem
theorem eq_str (s t : Str) (g : G) : pEq (.str s) (.str t) g = .ok (.bl (s == t)) g := rfl
theorem modP {i j : Int} {g : G} (h : 0 < j) : pMod (.int i) (.int j) g = .ok (.int (i % j)) g := if_pos h
theorem divP {i j : Int} {g : G} (h : 0 < j) (h2 : j ≤ 1000000) : pFdiv (.int i) (.int j) g = .ok (.int (i / j)) g := if_pos ⟨h, by omega⟩
theorem def_nx {k n : Nat} {b : MS} {ds : List D} {σ : S3} {g g' : G} (hl : ds.length = k) (h : b (ds.map some ++ List.replicate n none) g = .nx σ g') : mDef k n b ds g = .ok .non g' := by unfold mDef; rw [if_pos hl, h]
theorem def_raise {k n : Nat} {b : MS} {ds : List D} {x : Xc} {σ : S3} {g g' : G} (hl : ds.length = k) (h : b (ds.map some ++ List.replicate n none) g = .raise x σ g') : mDef k n b ds g = .raise x g' := by unfold mDef; rw [if_pos hl, h]
theorem op2_ok {f : D → D → G → Res D} {a b : ME} {σ : S3} {x y : D} {g g1 g2 : G} {R : Res D} (ha : a σ g = .ok x g1) (hb : b σ g1 = .ok y g2) (h : f x y g2 = R) : mOp2 f a b σ g = R := by unfold mOp2; rw [ha, Res.bind_ok, hb, Res.bind_ok, h]
theorem op1_ok {f : D → G → Res D} {a : ME} {σ : S3} {x : D} {g g1 : G} {R : Res D} (ha : a σ g = .ok x g1) (h : f x g1 = R) : mOp1 f a σ g = R := by unfold mOp1; rw [ha, Res.bind_ok, h]
theorem test_ok {a : ME} {σ : S3} {b : Bool} {g g1 : G} (ha : a σ g = .ok (.bl b) g1) : mTest a σ g = .ok b g1 := by unfold mTest; rw [ha, Res.bind_ok]
theorem cons_ok {a : ME} {r : MA} {x : D} {xs : List D} {σ : S3} {g g1 g2 : G} (h : a σ g = .ok x g1) (h2 : r σ g1 = .ok xs g2) : mCons a r σ g = .ok (x :: xs) g2 := by
  unfold mCons; rw [h, Res.bind_ok, h2]; rfl
theorem comp_newC {src : Src} {ds : List D} {e : ME} {g : G} {σc : S3} {rows' : List (List D)} (ht : src.top = ds.length) (hs : ∀ g1 i, Keeps [] g g1 → src.at' g1 i = some ds[i]?) (hlen : rows'.length = ds.length)
    (he : ∀ (i : Nat) d r, ds[i]? = some d → rows'[i]? = some r → ∀ g1, Keeps [] g g1 → e (some d :: σc) g1 = .ok (.ref g1.length) (g1 ++ [.lst r])) :
    ∃ (ls : List Nat) (g' : G), compL src (gSet 0) mTrue e (src.top + 1) 0 (none :: σc) g [] = .ok (ls.map .ref) g' ∧ Keeps [] g g' ∧ ls.length = rows'.length ∧ ls.Nodup ∧ ∀ (i n : Nat) r, ls[i]? = some n → rows'[i]? = some r → g.length ≤ n ∧ n < g'.length ∧ g'[n]? = some (.lst r) := by
  obtain ⟨xs, σ', g', h1, ls, h2, h3, h4, h5, h6, _⟩ := compL_gen (src := src) (t := gSet 0) (c := mTrue) (e := e) (n := ds.length)
    (fun i σ' g1 acc => ∃ ls : List Nat, acc = ls.map D.ref ∧ ls.length = i ∧ ls.Nodup ∧ Keeps [] g g1 ∧ (∀ (j n : Nat), ls[j]? = some n → g.length ≤ n ∧ n < g1.length ∧ ∀ r, rows'[j]? = some r → g1[n]? = some (.lst r)) ∧ ∃ u, σ' = u :: σc) (fun i σ' g1 acc hi ⟨ls, h1, h2, h3, h4, h5, u, h6⟩ => by
      subst h6
      have hr : rows'[i]? = some (rows'[i]'(by omega)) := by simp [hlen, hi]
      have e1 := he i ds[i] _ (by simp [hi]) hr g1 h4
      refine ⟨ds[i], some ds[i] :: σc, g1, by rw [hs g1 i h4]; simp [hi], rfl, .inl ⟨.ref g1.length, g1 ++ [.lst (rows'[i]'(by omega))], rfl, e1, ls ++ [g1.length], by simp [h1], by simp [h2], ?_, h4.trans (.push _), ?_, _, rfl⟩⟩
      · rw [List.nodup_append]
        refine ⟨h3, by simp, fun a ha b hb => ?_⟩
        obtain ⟨j, hj, rfl⟩ := List.getElem_of_mem ha
        have := (h5 j ls[j] (by simp [hj])).2.1
        have : b = g1.length := by simpa using hb
        omega
      · intro j n hn
        by_cases hj : j < ls.length
        · rw [List.getElem?_append_left hj] at hn
          obtain ⟨q1, q2, q3⟩ := h5 j n hn
          exact ⟨q1, by simp; omega, fun r hr => (Keeps.push (S := []) _).at' n _ (by simp) (q3 r hr)⟩
        · have hj' : j = i := by
            have := (List.getElem?_eq_some_iff.mp hn).1
            simp at this; omega
          subst hj'
          rw [List.getElem?_append_right (by omega), h2] at hn
          simp at hn
          subst hn
          exact ⟨h4.len, by simp, fun r hr' => by rw [hr] at hr'; cases hr'; exact get_push _⟩) (fun σ g1 acc ⟨ls, h1, h2, h3, h4, _⟩ => by rw [hs g1 _ h4]; simp) (src.top + 1) 0 (none :: σc) g [] (by omega) (by omega) ⟨[], rfl, rfl, .nil, .refl, by simp, none, rfl⟩
  subst h2
  exact ⟨ls, g', h1, h5, by omega, h4, fun i n r hn hr => let ⟨q1, q2, q3⟩ := h6 i n hn; ⟨q1, q2, q3 r hr⟩⟩
theorem set_push {g : G} {o u : GO} : (g ++ [o]).set g.length u = g ++ [u] := by simp
theorem entOk.good {rows : List (List D)} {n m : Nat} (hn : 0 < n) (hm : 0 < m) (h1 : rows.length = n) (h2 : ∀ r ∈ rows, r.length = m) (h3 : ∀ r ∈ rows, ∀ d ∈ r, entOk d n m) : goodR rows = true := by
  cases rows with
  | nil => simp at h1; omega
  | cons q rest =>
    have hq := h2 q (List.mem_cons_self ..)
    unfold goodR
    rw [Bool.and_eq_true, List.all_eq_true]
    refine ⟨by simp; intro z; rw [z] at hq; simp at hq; omega, fun x hx => ?_⟩
    unfold goodRow
    rw [Bool.and_eq_true, List.all_eq_true]
    exact ⟨by simp [h2 x hx, hq], fun d hd => by rw [h1, hq]; exact (h3 x hx d hd).ent⟩
theorem comp_ok {it : MI} {n : Nat} {cap : List Nat} {t : MG} {c : MT} {e : ME} {σ : S3} {g g1 g2 : G} {src : Src} {ds : List D} {σ0 : S3} (h1 : it σ g = .ok src g1) (hz : src.top ≤ SZ) (hc : capt n cap σ = σ0) (h2 : compL src t c e (src.top + 1) 0 σ0 g1 [] = .ok ds g2) : mComp it n cap t c e σ g = .ok (.ref g2.length) (g2 ++ [.lst ds]) := by
  simp only [mComp, h1, hz, hc, h2, if_true]
theorem attr_table {M : Nat} {rows : List (List D)} {σ : S3} {g : G} {i : Nat} (hv : σ[i]? = some (some (.ref M))) (h : g[M]? = some (machO rows)) : mAttr [11] (Str.ofString "table") (mVar i) σ g = .ok (.tup (rows.map .tup)) g := by
  simp [mAttr, mOp1, mVar, hv, Res.bind, h, machO]
theorem zip_src {g : G} {d1 d2 : D} {b1 b2 : Bool} {xs ys : List D} (h1 : seqOf g d1 = some (b1, xs)) (h2 : seqOf g d2 = some (b2, ys)) (hl : xs.length = ys.length) :
    ∃ src, srcZip d1 d2 g = .ok src g ∧ src.top = xs.length ∧ ∀ g1, seqOf g1 d1 = some (b1, xs) → seqOf g1 d2 = some (b2, ys) → src.at' g1 xs.length = some none ∧ ∀ (i : Nat) x y, xs[i]? = some x → ys[i]? = some y → src.at' g1 i = some (some (.tup [x, y])) := by
  unfold srcZip
  rw [h1, h2]
  refine ⟨_, rfl, by simp [hl], fun g1 q1 q2 => ⟨?_, fun i x y hx hy => ?_⟩⟩
  · dsimp only; rw [q1, q2]; dsimp only; rw [List.getElem?_eq_none (Nat.le_refl _)]
  · dsimp only; rw [q1, q2]; dsimp only; rw [hx, hy]
theorem notT_f {a : MT} {σ : S3} {g g1 : G} (h1 : a σ g = .ok true g1) : mNotT a σ g = .ok false g1 := by unfold mNotT; rw [h1]; rfl
end L3

end
section
namespace L3
open PySem
noncomputable def rngZ (n : Nat) : List Int := (List.range n).map fun (i : Nat) => (i : Int)
theorem rngZ_sorted (n : Nat) : (rngZ n).Pairwise (· ≤ ·) := by
  unfold rngZ
  rw [List.pairwise_map]
  exact (List.pairwise_lt_range (n := n)).imp fun h => by omega
theorem sortZ_rng {l : List Int} {n : Nat} : sortZ l = rngZ n ↔ l.Perm (rngZ n) := by
  constructor
  · intro h; rw [← h]; exact (sortZ_perm l).symm
  · intro h; exact sorted_uniq _ _ ((sortZ_perm l).trans h) (sortZ_sorted l) (rngZ_sorted n)
structure Nm (p : List Nat) (n : Nat) : Prop where
  perm : p.Perm (List.range n)
  zero : p[0]? = some 0
theorem Nm.len {p : List Nat} {n : Nat} (h : Nm p n) : p.length = n := by rw [h.perm.length_eq, List.length_range]
theorem Nm.nodup {p : List Nat} {n : Nat} (h : Nm p n) : p.Nodup := h.perm.nodup_iff.mpr List.nodup_range
theorem Nm.lt {p : List Nat} {n : Nat} (h : Nm p n) {x : Nat} (hx : x ∈ p) : x < n := List.mem_range.mp (h.perm.mem_iff.mp hx)
theorem Nm.mem {p : List Nat} {n : Nat} (h : Nm p n) {x : Nat} (hx : x < n) : x ∈ p := h.perm.mem_iff.mpr (List.mem_range.mpr hx)
theorem Nm.pos {p : List Nat} {n : Nat} (h : Nm p n) : 0 < n := by
  have := (List.getElem?_eq_some_iff.mp h.zero).1
  rw [← h.len]; exact this
noncomputable def bck (p : List Nat) : List Nat := (List.range p.length).map fun i => p.idxOf i
theorem bck_len (p : List Nat) : (bck p).length = p.length := by simp [bck]
theorem idx_get {p : List Nat} (hp : p.Nodup) {k : Nat} (hk : k < p.length) : p.idxOf p[k] = k := List.Nodup.idxOf_getElem hp k hk
theorem bck_at {p : List Nat} {n : Nat} (h : Nm p n) {i : Nat} (hi : i < n) : (bck p)[i]? = some (p.idxOf i) := by
  simp [bck, h.len, hi]
theorem bck_get {p : List Nat} {n : Nat} (h : Nm p n) {k : Nat} (hk : k < p.length) : (bck p)[p[k]]? = some k := by
  rw [bck_at h (h.lt (List.getElem_mem hk)), idx_get h.nodup hk]
theorem idx_lt {p : List Nat} {n : Nat} (h : Nm p n) {i : Nat} (hi : i < n) : p.idxOf i < n := by
  have := List.idxOf_lt_length_of_mem (h.mem hi)
  rw [h.len] at this; exact this
theorem get_idx {p : List Nat} {n : Nat} (h : Nm p n) {i : Nat} (hi : i < n) : p[p.idxOf i]? = some i := by
  have hl := List.idxOf_lt_length_of_mem (h.mem hi)
  rw [List.getElem?_eq_getElem hl, List.getElem_idxOf hl]
theorem bck_nm {p : List Nat} {n : Nat} (h : Nm p n) : Nm (bck p) n := by
  have hn : (bck p).Nodup := by
    rw [List.nodup_iff_pairwise_ne, List.pairwise_iff_getElem]
    intro i j hi hj hij e
    rw [bck_len, h.len] at hi hj
    have a := bck_at h hi
    have b := bck_at h hj
    rw [List.getElem?_eq_getElem (by rw [bck_len, h.len]; exact hi)] at a
    rw [List.getElem?_eq_getElem (by rw [bck_len, h.len]; exact hj)] at b
    have e2 : p.idxOf i = p.idxOf j := by
      have := Option.some.inj a; have := Option.some.inj b; omega
    have c := get_idx h hi
    have d := get_idx h hj
    rw [e2, d] at c
    have := Option.some.inj c
    omega
  have hm : ∀ x ∈ bck p, x < n := fun x hx => by
    obtain ⟨i, hi, rfl⟩ := List.mem_map.mp hx
    exact idx_lt h (by rw [← h.len]; exact List.mem_range.mp hi)
  refine ⟨?_, ?_⟩
  · exact (List.perm_ext_iff_of_nodup hn List.nodup_range).mpr fun x => ⟨fun hx => List.mem_range.mpr (hm x hx), fun hx => List.mem_of_getElem? (bck_get h (k := x) (by rw [h.len]; exact List.mem_range.mp hx))⟩
  · rw [bck_at h h.pos]
    have : p[0]'(by rw [h.len]; exact h.pos) = 0 := by
      have := h.zero
      rw [List.getElem?_eq_getElem (by rw [h.len]; exact h.pos)] at this
      exact Option.some.inj this
    have e := idx_get h.nodup (k := 0) (by rw [h.len]; exact h.pos)
    rw [this] at e
    rw [e]
noncomputable def nD (p : List Nat) : List D := p.map fun (i : Nat) => D.int (i : Int)
theorem nD_len (p : List Nat) : (nD p).length = p.length := by simp [nD]
theorem nD_get {p : List Nat} {k x : Nat} (h : p[k]? = some x) : (nD p)[k]? = some (.int x) := by simp [nD, h]
theorem ints_map : ∀ ns : List Int, intsD (ns.map .int) = some ns
  | [] => rfl
  | i :: r => by simp [intsD, ints_map r]
theorem nD_ints (p : List Nat) : nD p = (p.map fun (i : Nat) => (i : Int)).map D.int := by simp [nD]
end L3

end
section
namespace L3
open PySem
theorem insert_ok {n : Nat} {k : Int} {ds0 ds : List D} {y : D} {σ : S3} {g g2 : G} {o i e : ME} (ho : o σ g = .ok (.ref n) g) (h : g[n]? = some (.lst ds0)) (hi : i σ g = .ok (.int k) g2) (he : e σ g2 = .ok y g2) (h2 : g2[n]? = some (.lst ds)) (h0 : 0 ≤ k) (h1 : k ≤ ds.length) (hz : ds.length < SZ) :
    mExpr (mInsert o i e) σ g = .nx σ (g2.set n (.lst (insL ds k.toNat y))) := by
  refine expr_ok (d := .non) ?_
  unfold mInsert
  rw [ho, Res.bind_ok]
  dsimp only
  rw [h]
  dsimp only
  rw [hi, Res.bind_ok, he, Res.bind_ok, h2]
  dsimp only
  rw [if_pos ⟨h0, h1, hz⟩]
theorem insL_nD (q : List Nat) (k x : Nat) : insL (nD q) k (.int x) = nD (insL q k x) := by simp [insL, nD, List.map_take, List.map_drop]
theorem insL_perm {α : Type} (q : List α) (k : Nat) (x : α) : (insL q k x).Perm (x :: q) := by
  unfold insL
  refine List.perm_middle.trans ?_
  rw [List.take_append_drop]
theorem range2_ok {a b : ME} {i j : Int} {σ : S3} {g g1 g2 : G} (h : a σ g = .ok (.int i) g1) (h2 : b σ g1 = .ok (.int j) g2) (hi : inR i) (hj : inR j) : mItRange2 a b σ g = .ok (srcRange i (j - i).toNat) g2 := by
  unfold mItRange2; rw [h, Res.bind_ok, h2, Res.bind_ok]; dsimp only; rw [if_pos ⟨hi, hj⟩]
theorem inR_small {i : Int} (h0 : -1000000 ≤ i) (h1 : i ≤ 1000000) : inR i := ⟨by omega, by omega⟩
theorem order_perm {q : List Nat} {n : Nat} (hn : 0 < n) (h : q.Perm (List.range' 1 (n - 1))) : Nm (0 :: q) n := by
  refine ⟨?_, rfl⟩
  have : List.range n = 0 :: List.range' 1 (n - 1) := by
    obtain ⟨m, rfl⟩ : ∃ m, n = m + 1 := ⟨n - 1, by omega⟩
    rw [List.range_eq_range', List.range'_succ]; simp
  rw [this]
  exact h.cons 0
theorem order_eq (ns : List Int) (a n : Nat) (k : Int) (g : G) (hn : 0 < n) (hn12 : n ≤ 12) (ga : g[a]? = some (.lst [.int k])) (hk : 0 ≤ k) (hk2 : k < 900000000) :
    ∃ p l g' k', f_L_order [.fl (ns.map .int), .ref a, .int n] g = .ok (.ref l) g' ∧ Keeps [a] g g' ∧ g'[a]? = some (.lst [.int k']) ∧ k ≤ k' ∧ k' ≤ k + 12 ∧ Nm p n ∧ g'[l]? = some (.lst (nD p)) ∧ g.length ≤ l := by
  have hal : a < g.length := get_lt ga
  have k0 : Keeps [] g (g ++ [.lst []]) := .push _
  have ga0 := k0.at' a _ (by simp) ga
  have gl0 : (g ++ [.lst []])[g.length]? = some (.lst []) := get_push _
  have hit : mItRange2 (mLit (.int 1)) (mVar 2) [some (.fl (ns.map .int)), some (.ref a), some (.int n), some (.ref g.length), none] (g ++ [.lst []]) = .ok (srcRange 1 ((n : Int) - 1).toNat) (g ++ [.lst []]) := range2_ok rfl rfl (inR_small (by decide) (by decide)) (inR_small (by omega) (by omega))
  have en : ((n : Int) - 1).toNat = n - 1 := by omega
  rw [en] at hit
  have s1 : mAsg (gSet 3) (mOpA newL mNil) [some (.fl (ns.map .int)), some (.ref a), some (.int n), none, none] g = .nx [some (.fl (ns.map .int)), some (.ref a), some (.int n), some (.ref g.length), none] (g ++ [.lst []]) := asg_ok (by simp [mOpA, mNil, Res.bind, newL])
  generalize hg0 : g ++ [.lst []] = g0 at k0 ga0 gl0 hit s1
  obtain ⟨σ', g1, e, x4, q, h1, h2, h3, h4, h5⟩ := for_range (t := gSet 4) (body := b_L_order_l1) (lo := 1) (n := n - 1) (σ := [some (.fl (ns.map .int)), some (.ref a), some (.int n), some (.ref g.length), none]) (g := g0)
    (fun i σ g1 => ∃ x4 q, σ = [some (.fl (ns.map .int)), some (.ref a), some (.int n), some (.ref g.length), x4] ∧ g1[a]? = some (.lst [.int (k + i)]) ∧ g1[g.length]? = some (.lst (nD q)) ∧ q.Perm (List.range' 1 i) ∧ Keeps [a, g.length] g0 g1)
    ⟨none, [], rfl, by simpa using ga0, gl0, .refl _, .refl⟩ (fun i σ g1 hi ⟨x4, q, h1, h2, h3, h4, h5⟩ => by
      subst h1
      obtain ⟨mm, m0, m1, em⟩ := next_eq ns a (k + i) g1 h2 (by omega) (by omega)
      have ga2 : (g1.set a (.lst [.int (k + i + 1)]))[a]? = some (.lst [.int (k + i + 1)]) := get_set h2
      have gl2 : (g1.set a (.lst [.int (k + i + 1)]))[g.length]? = some (.lst (nD q)) := by rw [List.getElem?_set_ne (by omega)]; exact h3
      have k2 : Keeps [a] g1 (g1.set a (.lst [.int (k + i + 1)])) := .set a _
      generalize g1.set a (.lst [.int (k + i + 1)]) = g2 at em ga2 gl2 k2
      have hq : (nD q).length = i := by rw [nD_len, h4.length_eq, List.length_range']
      have r0 : 0 ≤ mm % ((i : Int) + 1) := Int.emod_nonneg _ (by omega)
      have r1 : mm % ((i : Int) + 1) < (i : Int) + 1 := Int.emod_lt_of_pos _ (by omega)
      refine ⟨_, [some (.fl (ns.map .int)), some (.ref a), some (.int n), some (.ref g.length), some (.int (1 + (i : Int)))], g2.set g.length (.lst (insL (nD q) (mm % ((i : Int) + 1)).toNat (.int (1 + (i : Int))))), rfl, ?_, _, insL q (mm % ((i : Int) + 1)).toNat (1 + i), rfl, ?_, ?_, ?_, ?_⟩
      · show b_L_order_l1 [some (.fl (ns.map .int)), some (.ref a), some (.int n), some (.ref g.length), some (.int (1 + (i : Int)))] g1 = _
        unfold b_L_order_l1
        refine insert_ok rfl h3 (op2_ok (x := .int mm) (y := .int ((i : Int) + 1)) (g1 := g2) (g2 := g2) (by rw [call_ok (ds := [.fl (ns.map .int), .ref a]) (g' := g1) rfl]; exact em) (op2_ok (x := .int i) (g1 := g2) (op1_ok rfl (by simp [pLen, gl2, hq])) rfl rfl) (modP (by omega))) rfl gl2 r0 (by rw [hq]; omega) (sz_lt (by omega))
      · rw [List.getElem?_set_ne (by omega), ga2]
        rw [show k + (i : Int) + 1 = k + ((i + 1 : Nat) : Int) by omega]
      · have : ((1 + i : Nat) : Int) = 1 + (i : Int) := by omega
        rw [get_set gl2, ← this, insL_nD]
      · refine (insL_perm q _ _).trans ?_
        rw [List.range'_1_concat]
        exact ((h4.cons (1 + i)).trans (List.perm_append_singleton (1 + i) _).symm)
      · exact h5.trans ((k2.mono (by simp)).trans ((Keeps.set _ _).mono (by simp))))
  rw [h1] at e
  have hnm := order_perm hn h4
  have k01 : Keeps [a] g g1 := by
    refine ⟨Nat.le_trans k0.len h5.len, fun b o hb eb => ?_⟩
    have : b < g.length := get_lt eb
    exact h5.at' b o (by simp at hb ⊢; omega) (k0.at' b o (by simp) eb)
  have kp : Keeps [] g1 (g1 ++ [.lst [.int 0]]) := .push _
  have gz : (g1 ++ [.lst [.int 0]])[g1.length]? = some (.lst [.int 0]) := get_push _
  have eq0 : mOpA newL (mCons (mLit (.int 0)) mNil) [some (.fl (ns.map .int)), some (.ref a), some (.int n), some (.ref g.length), x4] g1 = .ok (.ref g1.length) (g1 ++ [.lst [.int 0]]) := by simp [mOpA, mCons, mLit, mNil, Res.bind, newL, SZ]
  generalize g1 ++ [.lst [.int 0]] = g2 at kp gz eq0
  have hq : (nD q).length ≤ 12 := by rw [nD_len, h4.length_eq, List.length_range']; omega
  refine ⟨0 :: q, g2.length, g2 ++ [.lst ([.int 0] ++ nD q)], k + ((n - 1 : Nat) : Int), def_rt rfl ?_, (k01.trans kp.all).trans (.push _), (Keeps.push (S := []) _).at' a _ (by simp) (kp.at' a _ (by simp) h2), by omega, by omega, hnm, get_push _, Nat.le_trans k01.len kp.len⟩
  show b_L_order [some (.fl (ns.map .int)), some (.ref a), some (.int n), none, none] g = _
  unfold b_L_order
  refine seq_to _ _ s1 (seq_to _ _ ((for_ok hit).trans e) (ret_ok (op2_ok eq0 rfl ?_)))
  have hz : [D.int 0].length + (nD q).length ≤ SZ := Nat.le_of_lt (sz_lt (by simp; omega))
  unfold pAdd
  dsimp only
  rw [gz, kp.at' _ _ (by simp) h3]
  dsimp only
  rw [if_pos hz]
theorem intsD_of : ∀ xs : List Int, intsD (xs.map D.int) = some xs
  | [] => rfl
  | x :: xs => by rw [List.map_cons, intsD, intsD_of xs]; rfl
theorem ne_ints {n m : Nat} {xs ys : List Int} {g : G} (h1 : g[n]? = some (.lst (xs.map D.int))) (h2 : g[m]? = some (.lst (ys.map D.int))) : pNe (.ref n) (.ref m) g = .ok (.bl (!decide (xs = ys))) g := by
  unfold pNe neT
  dsimp only
  rw [h1, h2]
  dsimp only
  rw [intsD_of, intsD_of]
theorem all_below {l n : Nat} {ds : List D} {g : G} (hl : g[l]? = some (.lst ds)) (hp : ∀ d ∈ ds, plainD d = true) (hz : ds.length ≤ 1000) :
    ∃ g', Keeps [] g g' ∧ mOp1 pAll (mComp (mItSeq (mVar 0)) 1 [1] (gSet 0) mTrue (mCall f_is_below (mCons (mVar 0) (mCons (mVar 1) mNil)))) [some (.ref l), some (.int n)] g = .ok (.bl (ds.all fun d => belowD d n)) g' := by
  have hq : seqOf g (.ref l) = some (true, ds) := by simp [seqOf, hl]
  obtain ⟨src, s1, s2, s3⟩ := src_of hq
  obtain ⟨g1, h1, k1⟩ := comp_seq (src := src) (ds := ds) (e := mCall f_is_below (mCons (mVar 0) (mCons (mVar 1) mNil))) (no := 0) (σ := [some (.int n)]) (g := g) (f := fun d => .bl (belowD d n)) s2 (fun g1 i k => s3 g1 i (k.seq hq))
    (fun d hd g1 k => by
      obtain ⟨t, ht⟩ := plain_ty g1 (hp d hd)
      exact ⟨g1, by rw [call_ok (ds := [d, .int n]) (g' := g1) rfl]; exact is_below_eq d n g1 t ht, .refl⟩)
  refine ⟨g1 ++ [.lst (ds.map fun d => .bl (belowD d n))], k1.trans (.push _), ?_⟩
  refine op1_ok (comp_ok (src := src) (ds := ds.map fun d => .bl (belowD d n)) (g1 := g) (g2 := g1) s1 (by rw [s2]; exact Nat.le_of_lt (sz_lt hz)) (σ0 := [none, some (.int n)]) rfl h1) ?_
  have e : allB (ds.map fun d => D.bl (belowD d n)) = some (ds.all fun d => belowD d n) := allB_map ..
  unfold pAll
  dsimp only
  rw [get_push]
  dsimp only
  rw [e]
theorem rng_nD (n : Nat) : ((List.range n).map fun (i : Nat) => D.int (i : Int)) = (rngZ n).map D.int := by simp [rngZ]
theorem names_eq {l n : Nat} {ds : List D} {g : G} (hn : 0 < n) (hn12 : n ≤ 12) (hl : g[l]? = some (.lst ds)) (hp : ∀ d ∈ ds, plainD d = true) (hz : ds.length ≤ 60) :
    ∃ g', Keeps [] g g' ∧ ((∃ ns : List Int, ds = ns.map D.int ∧ ns.Perm (rngZ n) ∧ ns[0]? = some 0) → f_check_names [.ref l, .int n] g = .ok .non g') ∧ (¬ (∃ ns : List Int, ds = ns.map D.int ∧ ns.Perm (rngZ n) ∧ ns[0]? = some 0) → f_check_names [.ref l, .int n] g = .raise (2, none) g') := by
  obtain ⟨g1, k1, e1⟩ := all_below (n := n) hl hp (by omega)
  by_cases hall : (ds.all fun d => belowD d n) = true
  · rw [hall] at e1
    have t1 : mNotT (mTest (mOp1 pAll (mComp (mItSeq (mVar 0)) 1 [1] (gSet 0) mTrue (mCall f_is_below (mCons (mVar 0) (mCons (mVar 1) mNil)))))) [some (.ref l), some (.int n)] g = .ok false g1 := notT_f (test_ok e1)
    obtain ⟨ns, rfl⟩ : ∃ ns : List Int, ds = ns.map D.int := by
      have : ∀ (ds : List D), (∀ d ∈ ds, belowD d n = true) → ∃ ns : List Int, ds = ns.map D.int := by
        intro ds
        induction ds with
        | nil => exact fun _ => ⟨[], rfl⟩
        | cons d r ih =>
          intro h
          obtain ⟨ns, rfl⟩ := ih fun x hx => h x (List.mem_cons_of_mem _ hx)
          have hd := h d (List.mem_cons_self ..)
          cases d with
          | int i => exact ⟨i :: ns, rfl⟩
          | _ => cases hd
      exact this ds (List.all_eq_true.mp hall)
    have inj : ∀ ms : List Int, ns.map D.int = ms.map D.int → ns = ms := fun ms h => by
      have := congrArg intsD h
      rw [ints_map, ints_map] at this
      exact Option.some.inj this
    have hl1 := k1.at' _ _ (by simp) hl
    have es : pSorted (.ref l) g1 = .ok (.ref g1.length) (g1 ++ [.lst ((sortZ ns).map .int)]) := by
      unfold pSorted
      have : seqOf g1 (.ref l) = some (true, ns.map D.int) := by simp [seqOf, hl1]
      rw [this]
      dsimp only
      rw [ints_map]
      dsimp only
      rw [if_pos (by simp at hz; omega)]
    have k2 : Keeps [] g1 (g1 ++ [.lst ((sortZ ns).map .int)]) := .push _
    have gs : (g1 ++ [.lst ((sortZ ns).map .int)])[g1.length]? = some (.lst ((sortZ ns).map .int)) := get_push _
    generalize g1 ++ [.lst ((sortZ ns).map .int)] = g2 at es k2 gs
    have er : pListRange (.int n) g2 = .ok (.ref g2.length) (g2 ++ [.lst ((rngZ n).map .int)]) := by
      unfold pListRange
      dsimp only
      rw [if_pos ⟨by omega, by omega⟩, Int.toNat_natCast, rng_nD]
    have k3 : Keeps [] g2 (g2 ++ [.lst ((rngZ n).map .int)]) := .push _
    have gr : (g2 ++ [.lst ((rngZ n).map .int)])[g2.length]? = some (.lst ((rngZ n).map .int)) := get_push _
    have gs3 := k3.at' _ _ (by simp) gs
    generalize g2 ++ [.lst ((rngZ n).map .int)] = g3 at er k3 gr gs3
    have hl3 := (k2.trans k3).at' _ _ (by simp) hl1
    have t2 : mTest (mOp2 pNe (mOp1 pSorted (mVar 0)) (mOp1 pListRange (mVar 1))) [some (.ref l), some (.int n)] g1 = .ok (!decide (sortZ ns = rngZ n)) g3 := test_ok (op2_ok (op1_ok rfl es) (op1_ok rfl er) (ne_ints gs3 gr))
    refine ⟨g3, k1.trans (k2.trans k3), fun ⟨ms, a, b, c⟩ => ?_, fun hno => ?_⟩
    · have := inj ms a
      subst this
      have hpos : 0 < ns.length := (List.getElem?_eq_some_iff.mp c).1
      rw [decide_eq_true (sortZ_rng.mpr b)] at t2
      have i0 : pIx (.ref l) (.int 0) g3 = .ok (.int 0) g3 := by
        unfold pIx; dsimp only; rw [hl3]; dsimp only
        unfold atD ixD
        rw [if_pos (by omega), if_pos (by simp; omega)]
        show (match (ns.map D.int)[0]? with | some d => Res.ok d g3 | none => Res.stuck) = _
        rw [List.getElem?_map, c]; rfl
      refine def_nx (σ := [some (.ref l), some (.int n)]) rfl ?_
      show b_check_names [some (.ref l), some (.int n)] g = _
      unfold b_check_names
      exact seq_to _ g1 (iff' g1 t1 rfl) (seq_to _ g3 (iff' g3 t2 rfl) (iff' g3 (test_ok (op2_ok (x := .int 0) (op2_ok rfl rfl i0) rfl rfl)) rfl))
    · refine def_raise (σ := [some (.ref l), some (.int n)]) rfl ?_
      show b_check_names [some (.ref l), some (.int n)] g = _
      unfold b_check_names
      refine seq_to _ g1 (iff' g1 t1 rfl) ?_
      by_cases hs : sortZ ns = rngZ n
      · rw [decide_eq_true hs] at t2
        refine seq_to _ g3 (iff' g3 t2 rfl) ?_
        have hperm := sortZ_rng.mp hs
        have hlen : ns.length = n := by rw [hperm.length_eq]; simp [rngZ]
        have hx : ∃ x, ns[0]? = some x ∧ x ≠ 0 := by
          refine ⟨ns[0]'(by omega), by simp, fun z => hno ⟨ns, rfl, hperm, ?_⟩⟩
          rw [List.getElem?_eq_getElem (by omega), z]
        obtain ⟨x, hx, hx0⟩ := hx
        have i0 : pIx (.ref l) (.int 0) g3 = .ok (.int x) g3 := by
          unfold pIx; dsimp only; rw [hl3]; dsimp only
          unfold atD ixD
          rw [if_pos (by omega), if_pos (by simp; omega)]
          show (match (ns.map D.int)[0]? with | some d => Res.ok d g3 | none => Res.stuck) = _
          rw [List.getElem?_map, hx]; rfl
        exact ift g3 (test_ok (op2_ok (x := .int x) (op2_ok rfl rfl i0) rfl (by rw [ne_int, beq_eq_false_iff_ne.mpr hx0]; rfl))) (raise1 ..)
      · rw [decide_eq_false hs] at t2
        exact seq_raise (ift g3 t2 (raise1 ..))
  · have hf : (ds.all fun d => belowD d n) = false := by simpa using hall
    rw [hf] at e1
    have t1 : mNotT (mTest (mOp1 pAll (mComp (mItSeq (mVar 0)) 1 [1] (gSet 0) mTrue (mCall f_is_below (mCons (mVar 0) (mCons (mVar 1) mNil)))))) [some (.ref l), some (.int n)] g = .ok true g1 := by
      unfold mNotT; rw [test_ok e1]; rfl
    refine ⟨g1, k1, fun ⟨ns, a, b, c⟩ => ?_, fun _ => ?_⟩
    · exfalso
      apply hall
      rw [List.all_eq_true, a]
      intro d hd
      obtain ⟨i, hi, rfl⟩ := List.mem_map.mp hd
      obtain ⟨j, hj, rfl⟩ := List.mem_map.mp (b.mem_iff.mp hi)
      have := List.mem_range.mp hj
      exact decide_eq_true ⟨by omega, by omega⟩
    · refine def_raise (σ := [some (.ref l), some (.int n)]) rfl ?_
      show b_check_names [some (.ref l), some (.int n)] g = _
      unfold b_check_names
      exact seq_raise (ift g1 t1 (raise1 ..))
theorem Nm.ints {p : List Nat} {n : Nat} (h : Nm p n) : ∃ ns : List Int, nD p = ns.map D.int ∧ ns.Perm (rngZ n) ∧ ns[0]? = some 0 := by
  refine ⟨p.map fun (i : Nat) => (i : Int), nD_ints p, h.perm.map _, ?_⟩
  rw [List.getElem?_map, h.zero]; rfl
theorem nD_plain (p : List Nat) : ∀ d ∈ nD p, plainD d = true := by
  intro d hd
  obtain ⟨i, _, rfl⟩ := List.mem_map.mp hd
  rfl
theorem names_ok {l n : Nat} {p : List Nat} {g : G} (h : Nm p n) (hn12 : n ≤ 12) (hl : g[l]? = some (.lst (nD p))) : ∃ g', Keeps [] g g' ∧ f_check_names [.ref l, .int n] g = .ok .non g' := by
  obtain ⟨g', k, a, _⟩ := names_eq (n := n) h.pos hn12 hl (nD_plain p) (by rw [nD_len, h.len]; omega)
  exact ⟨g', k, a h.ints⟩
end L3

end
section
namespace L3
open PySem
noncomputable def rS : Str := ⟨#[114]⟩
noncomputable def lS : Str := ⟨#[108]⟩
noncomputable def mirD : D → D
  | .tup [a, .str w, c] => .tup [a, .str (if w = lS then rS else lS), c]
  | d => d
theorem mir_ok {d : D} {n m : Nat} (h : entOk d n m) : entOk (mirD d) n m := by
  rcases h with rfl | ⟨i, j, w, rfl, h1, h2, h3, h4, h5⟩
  · exact .inl rfl
  · refine .inr ⟨i, j, _, rfl, h1, h2, h3, h4, ?_⟩
    split
    · exact .inr rfl
    · exact .inl rfl
theorem mir_mir {d : D} {n m : Nat} (h : entOk d n m) : mirD (mirD d) = d := by
  rcases h with rfl | ⟨i, j, w, rfl, h1, h2, h3, h4, h5⟩
  · rfl
  · rcases h5 with rfl | rfl <;> rfl
theorem mirrored_entry_eq {d : D} {n m : Nat} (g : G) (h : entOk d n m) : f_mirrored_entry [d] g = .ok (mirD d) g := by
  refine def_rt rfl ?_
  show b_mirrored_entry [some d] g = _
  unfold b_mirrored_entry
  rcases h with rfl | ⟨i, j, w, rfl, h1, h2, h3, h4, h5⟩
  · exact seq_rt (ift g rfl rfl)
  · refine seq_to [some (.tup [.int i, .str w, .int j])] g (iff' g rfl rfl) (ret_ok ?_)
    have ho : f_other_way [.str w] g = .ok (.str (if w = rS then lS else rS)) g := by
      refine def_rt rfl (ret_ok ?_)
      rw [s_l, s_r]
      rcases h5 with rfl | rfl <;> rfl
    have hc : mCall f_other_way (mCons (mOp2 pIx (mVar 0) (mLit (.int 1))) mNil) [some (.tup [.int i, .str w, .int j])] g = .ok (.str (if w = rS then lS else rS)) g := by
      rw [call_ok (ds := [.str w]) (g' := g) rfl]; exact ho
    unfold mOpA
    rw [cons_ok (g1 := g) (x := .int i) rfl (cons_ok (g1 := g) hc (cons_ok (x := .int j) (xs := []) (g1 := g) (g2 := g) rfl rfl)), Res.bind_ok]
    rcases h5 with rfl | rfl <;> rfl
theorem comp_pure {src : Src} {ds : List D} {e : ME} {σ : S3} {g : G} {f : D → D} (ht : src.top = ds.length) (hs : ∀ i, src.at' g i = some ds[i]?)
    (he : ∀ d ∈ ds, e (some d :: σ) g = .ok (f d) g) : compL src (gSet 0) mTrue e (src.top + 1) 0 (none :: σ) g [] = .ok (ds.map f) g := by
  obtain ⟨xs, σ', g', h1, h2, h3, h4⟩ := compL_gen (src := src) (t := gSet 0) (c := mTrue) (e := e) (n := ds.length)
    (fun i σ' g1 acc => acc = (ds.take i).map f ∧ g1 = g ∧ ∃ u, σ' = u :: σ) (fun i σ' g1 acc hi ⟨h1, h2, u, h3⟩ => by
      subst h2 h3
      refine ⟨ds[i], some ds[i] :: σ, g1, by rw [hs]; simp [hi], rfl, .inl ⟨f ds[i], g1, rfl, he _ (List.getElem_mem hi), ?_, rfl, _, rfl⟩⟩
      rw [h1, List.take_succ_eq_append_getElem hi, List.map_append]; rfl) (fun σ g1 acc ⟨_, h, _⟩ => by rw [h, hs]; simp) (src.top + 1) 0 (none :: σ) g [] (by omega) (by omega) ⟨by simp, rfl, none, rfl⟩
  rw [h1, h2, h3, List.take_length]
theorem mirrored_row_eq {row : List D} {n m : Nat} (g : G) (h : ∀ d ∈ row, entOk d n m) (hz : row.length ≤ 1000) : f_mirrored_row [.tup row] g = .ok (.ref g.length) (g ++ [.lst (row.map mirD)]) := by
  refine def_rt rfl (ret_ok (comp_ok (src := ⟨fun _ i => some row[i]?, row.length⟩) (g1 := g) rfl (Nat.le_of_lt (sz_lt hz)) (σ0 := [none]) rfl ?_))
  refine comp_pure rfl (fun i => rfl) fun d hd => ?_
  rw [call_ok (ds := [d]) (g' := g) rfl]
  exact mirrored_entry_eq g (h d hd)
theorem mirrored_eq {rows : List (List D)} {n m M : Nat} (g : G) (hn : 0 < n) (hm : 0 < m) (hn12 : n ≤ 12) (hm8 : m ≤ 8) (hM : g[M]? = some (machO rows)) (h1 : rows.length = n) (h2 : ∀ r ∈ rows, r.length = m) (h3 : ∀ r ∈ rows, ∀ d ∈ r, entOk d n m) :
    ∃ M' g', f_mirrored [.ref M] g = .ok (.ref M') g' ∧ Keeps [] g g' ∧ g'[M']? = some (machO (rows.map fun r => r.map mirD)) := by
  have h1' : (rows.map fun r => r.map mirD).length = n := by simp [h1]
  have h2' : ∀ r ∈ rows.map fun r => r.map mirD, r.length = m := fun r hr => by
    obtain ⟨x, hx, rfl⟩ := List.mem_map.mp hr
    simp [h2 x hx]
  have h3' : ∀ r ∈ rows.map fun r => r.map mirD, ∀ d ∈ r, entOk d n m := fun r hr d hd => by
    obtain ⟨x, hx, rfl⟩ := List.mem_map.mp hr
    obtain ⟨y, hy, rfl⟩ := List.mem_map.mp hd
    exact mir_ok (h3 x hx y hy)
  obtain ⟨ls, g2, e2, k2, l1, l2, l3⟩ := comp_newC (src := ⟨fun _ i => some (rows.map D.tup)[i]?, (rows.map D.tup).length⟩) (ds := rows.map D.tup) (e := mCall f_mirrored_row (mCons (mVar 0) mNil)) (g := g) (σc := []) (rows' := rows.map fun r => r.map mirD) rfl (fun _ _ _ => rfl) (by simp)
    (fun i d r hd hr g1 k1 => by
      rw [List.getElem?_map] at hd hr
      cases hx : rows[i]? with
      | none => rw [hx] at hd; cases hd
      | some x =>
        rw [hx] at hd hr
        cases hd; cases hr
        have hm := List.mem_of_getElem? hx
        rw [call_ok (ds := [.tup x]) (g' := g1) rfl]
        exact mirrored_row_eq g1 (h3 x hm) (by have := h2 x hm; omega))
  have ec : mComp (mItSeq (mAttr [11] (Str.ofString "table") (mVar 0))) 1 [] (gSet 0) mTrue (mCall f_mirrored_row (mCons (mVar 0) mNil)) [some (.ref M)] g = .ok (.ref g2.length) (g2 ++ [.lst (ls.map D.ref)]) := by
    refine comp_ok (src := ⟨fun _ i => some (rows.map D.tup)[i]?, (rows.map D.tup).length⟩) (g1 := g) ?_ (Nat.le_of_lt (sz_lt (by simp; omega))) rfl e2
    unfold mItSeq
    rw [attr_table rfl hM, Res.bind_ok]; rfl
  have gl : (g2 ++ [.lst (ls.map D.ref)])[g2.length]? = some (.lst (ls.map D.ref)) := get_push _
  have kl : Keeps [] g2 (g2 ++ [.lst (ls.map D.ref)]) := .push _
  generalize g2 ++ [.lst (ls.map D.ref)] = g3 at gl kl ec
  have hrows : rowsOf g3 (.ref g2.length) (rows.map fun r => r.map mirD) := by
    refine ⟨true, ls.map D.ref, by simp [seqOf, gl], by simp [l1], fun i x r hx hr => ?_⟩
    rw [List.getElem?_map] at hx
    cases hl : ls[i]? with
    | none => rw [hl] at hx; cases hx
    | some q =>
      rw [hl] at hx; cases hx
      have := kl.at' _ _ (by simp) (l3 i q r hl hr).2.2
      exact ⟨true, by simp [seqOf, this]⟩
  have hgood := entOk.good hn hm h1' h2' h3'
  obtain ⟨g4, k4, e4, h4⟩ := make_eq (.ref g2.length) _ g3 hrows (fun r hr => Nat.le_of_lt (sz_lt (by have := h2' r hr; omega))) (Nat.le_of_lt (sz_lt (by omega))) (fun r hr d hd => (h3' r hr d hd).thing) _ _ _ (cons_ok ec (xs := []) (g2 := g3) (r := mNil) rfl)
  rw [if_pos hgood] at e4
  exact ⟨g3.length, g4, def_rt rfl (ret_ok e4), (k2.trans kl).trans k4, h4 hgood⟩
theorem ents_ent {n m : Nat} {x0 x1 x2 x3 : Option D} {d : D} (g : G) (h : entOk d n m) :
    ∃ g', b_L_entries_l2 [x0, x1, x2, x3, some d, some d] g = .nx [x0, x1, x2, x3, some d, some d] g' ∧ Keeps [] g g' := by
  unfold b_L_entries_l2
  rcases h with rfl | ⟨i, j, w, rfl, _⟩
  · exact ⟨g, iff' g rfl rfl, .refl⟩
  · obtain ⟨g1, k1, e1⟩ := same_ent 4 i j w g
    refine ⟨g1, iff' g1 ?_ rfl, k1⟩
    have a : mAndT (mTest (mOp2 pIs (mVar 5) (mLit .non))) (mTest (mOp2 pIsNot (mVar 4) (mLit .non))) [x0, x1, x2, x3, some (.tup [.int i, .str w, .int j]), some (.tup [.int i, .str w, .int j])] g = .ok false g := rfl
    have b : mTest (mOp2 pIsNot (mVar 5) (mLit .non)) [x0, x1, x2, x3, some (.tup [.int i, .str w, .int j]), some (.tup [.int i, .str w, .int j])] g = .ok true g := rfl
    have c : mNotT (mTest (mCall (f_L_same 6) (mCons (mVar 4) (mCons (mVar 5) mNil)))) [x0, x1, x2, x3, some (.tup [.int i, .str w, .int j]), some (.tup [.int i, .str w, .int j])] g = .ok false g1 := by
      unfold mNotT
      rw [test_ok (b := true) (g1 := g1) (by rw [call_ok (ds := [.tup [.int i, .str w, .int j], .tup [.int i, .str w, .int j]]) (g' := g) rfl]; exact e1)]; rfl
    unfold mOrT
    rw [a, Res.bind_ok, if_neg Bool.false_ne_true]
    unfold mAndT
    rw [b, Res.bind_ok, if_pos rfl, c]
theorem orT_f {a b : MT} {σ : S3} {g g1 g2 : G} (h1 : a σ g = .ok false g1) (h2 : b σ g1 = .ok false g2) : mOrT a b σ g = .ok false g2 := by
  unfold mOrT; rw [h1, Res.bind_ok, if_neg Bool.false_ne_true, h2]
theorem ents_row {n m l : Nat} {x0 x1 x4 x5 : Option D} {row : List D} (g : G) (ho : ∀ d ∈ row, entOk d n m) (hl : g[l]? = some (.lst row)) :
    ∃ y4 y5 g', b_L_entries_l1 [x0, x1, some (.tup row), some (.ref l), x4, x5] g = .nx [x0, x1, some (.tup row), some (.ref l), y4, y5] g' ∧ Keeps [] g g' := by
  have hq : seqOf g (.ref l) = some (true, row) := by simp [seqOf, hl]
  obtain ⟨src, s1, s2, s3⟩ := zip_src (d1 := .tup row) (b1 := false) (xs := row) rfl hq rfl
  have hit : mItZip (mVar 2) (mVar 3) [x0, x1, some (.tup row), some (.ref l), x4, x5] g = .ok src g := s1
  obtain ⟨σ', g', e, ⟨y4, y5, h1⟩, h2⟩ := for_src (t := gTup3 [gSet 4, gSet 5]) (body := b_L_entries_l2) s2 (σ := [x0, x1, some (.tup row), some (.ref l), x4, x5]) (g := g)
    (fun i σ g1 => (∃ y4 y5, σ = [x0, x1, some (.tup row), some (.ref l), y4, y5]) ∧ Keeps [] g g1) ⟨⟨x4, x5, rfl⟩, .refl⟩ (fun i σ g1 hi ⟨⟨y4, y5, h1⟩, h2⟩ => by
      subst h1
      have hr : row[i]? = some row[i] := by simp [hi]
      obtain ⟨g2, e2, k2⟩ := ents_ent (x0 := x0) (x1 := x1) (x2 := some (.tup row)) (x3 := some (.ref l)) g1 (ho _ (List.mem_of_getElem? hr))
      exact ⟨.tup [row[i], row[i]], _, _, g2, (s3 g1 rfl (h2.seq hq)).2 i _ _ hr hr, rfl, e2, ⟨_, _, rfl⟩, h2.trans k2⟩)
    (fun σ g1 ⟨_, h⟩ => (s3 g1 rfl (h.seq hq)).1)
  rw [h1] at e
  refine ⟨y4, y5, g', ?_, h2⟩
  unfold b_L_entries_l1
  refine seq_to _ g (iff' g (orT_f (g1 := g) rfl (test_ok (op2_ok (x := .int row.length) (y := .int row.length) (g1 := g) (g2 := g) rfl (op1_ok rfl (by simp [pLen, hl])) (by rw [ne_int]; simp)))) rfl) ((for_ok hit).trans e)
theorem ents_eq {n m N t : Nat} {rows : List (List D)} (g : G) (hT : tabOf N g t rows) (h3 : ∀ r ∈ rows, ∀ d ∈ r, entOk d n m) :
    ∃ g', f_L_entries [.tup (rows.map D.tup), .ref t] g = .ok (.bl true) g' ∧ Keeps [] g g' := by
  obtain ⟨_, ds, d1, d2, d3⟩ := hT
  have hq : seqOf g (.ref t) = some (true, ds) := by simp [seqOf, d1]
  obtain ⟨src, s1, s2, s3⟩ := zip_src (d1 := .tup (rows.map D.tup)) (b1 := false) (xs := rows.map D.tup) rfl hq (by simp [d2])
  have get : ∀ i, (hi : i < rows.length) → ∃ l, ds[i]? = some (.ref l) ∧ g[l]? = some (.lst rows[i]) := fun i hi => by
    obtain ⟨l, e, _, _, q⟩ := d3 i (ds[i]'(by omega)) rows[i] (by simp) (by simp)
    exact ⟨l, by rw [← e]; simp, q⟩
  obtain ⟨σ', g', e, ⟨y2, y3, y4, y5, q1⟩, k⟩ := for_src (t := gTup3 [gSet 2, gSet 3]) (body := b_L_entries_l1) s2 (σ := [some (.tup (rows.map D.tup)), some (.ref t), none, none, none, none]) (g := g)
    (fun i σ g1 => (∃ y2 y3 y4 y5, σ = [some (.tup (rows.map D.tup)), some (.ref t), y2, y3, y4, y5]) ∧ Keeps [] g g1) ⟨⟨none, none, none, none, rfl⟩, .refl⟩ (fun i σ g1 hi ⟨⟨y2, y3, y4, y5, q1⟩, k⟩ => by
      subst q1
      have hi : i < rows.length := by simpa using hi
      obtain ⟨l, el, gl⟩ := get i hi
      obtain ⟨y4', y5', g2, e2, k2⟩ := ents_row (x0 := some (.tup (rows.map D.tup))) (x1 := some (.ref t)) (x4 := y4) (x5 := y5) g1 (h3 _ (List.getElem_mem hi)) (k.at' _ _ (by simp) gl)
      exact ⟨.tup [.tup rows[i], .ref l], _, _, g2, (s3 g1 rfl (k.seq hq)).2 i _ _ (by simp [hi]) el, rfl, e2, ⟨_, _, _, _, rfl⟩, k.trans k2⟩)
    (fun σ g1 ⟨_, h⟩ => (s3 g1 rfl (h.seq hq)).1)
  rw [q1] at e
  refine ⟨g', def_rt rfl ?_, k⟩
  show b_L_entries [some (.tup (rows.map D.tup)), some (.ref t), none, none, none, none] g = _
  unfold b_L_entries
  have hit : mItZip (mVar 0) (mVar 1) [some (.tup (rows.map D.tup)), some (.ref t), none, none, none, none] g = .ok src g := s1
  refine seq_to _ g (iff' g (orT_f (g1 := g) rfl (test_ok (op2_ok (x := .int (rows.map D.tup).length) (y := .int ds.length) (g1 := g) (g2 := g) rfl (op1_ok rfl (by simp [pLen, d1])) (by rw [ne_int, d2]; simp)))) rfl) (seq_to _ g' ((for_ok hit).trans e) rfl)
end L3

end
section
namespace L3
open PySem
theorem ix_lr01 (b : Bool) (g : G) : pIx (.str (Str.ofString "lr")) (.int (if b = true then 1 else 0)) g = .ok (.str (if b = true then rS else lS)) g := by
  rw [s_lr]; cases b <;> rfl
theorem Lmir_cell {n m l : Nat} {x0 x1 x2 x5 : Option D} {d : D} {row : List D} (g : G) (h : entOk d n m) (hl : g[l]? = some (.lst row)) (hz : row.length < 1000) :
    b_L_mirrored_l2 [x0, x1, x2, some (.ref l), some d, x5] g = .nx [x0, x1, x2, some (.ref l), some d, some (mirD d)] (g.set l (.lst (row ++ [mirD d]))) := by
  unfold b_L_mirrored_l2
  refine seq_to [x0, x1, x2, some (.ref l), some d, some .non] g rfl ?_
  have key : mIf (mTest (mOp2 pIsNot (mVar 4) (mLit .non))) (mAsg (gSet 5) (mOpA pTup (mCons (mOp2 pIx (mVar 4) (mLit (.int 0))) (mCons (mOp2 pIx (mLit (.str (Str.ofString "lr"))) (mOp1 pInt (mOp2 pEq (mOp2 pIx (mVar 4) (mLit (.int 1))) (mLit (.str (Str.ofString "l")))))) (mCons (mOp2 pIx (mVar 4) (mLit (.int 2))) mNil))))) mSkip [x0, x1, x2, some (.ref l), some d, some .non] g = .nx [x0, x1, x2, some (.ref l), some d, some (mirD d)] g := by
    rcases h with rfl | ⟨i, j, w, rfl, h1, h2, h3, h4, h5⟩
    · exact iff' g rfl rfl
    · refine ift g rfl (asg_ok ?_)
      have e1 : mOp1 pInt (mOp2 pEq (mOp2 pIx (mVar 4) (mLit (.int 1))) (mLit (.str (Str.ofString "l")))) [x0, x1, x2, some (.ref l), some (.tup [.int i, .str w, .int j]), some .non] g = .ok (.int (if (w == lS) = true then 1 else 0)) g := by
        rw [s_l]; exact op1_ok (x := .bl (w == lS)) (g1 := g) (op2_ok (x := .str w) (g1 := g) (g2 := g) rfl rfl rfl) rfl
      have e2 : (mCons (mOp2 pIx (mVar 4) (mLit (.int 0))) (mCons (mOp2 pIx (mLit (.str (Str.ofString "lr"))) (mOp1 pInt (mOp2 pEq (mOp2 pIx (mVar 4) (mLit (.int 1))) (mLit (.str (Str.ofString "l")))))) (mCons (mOp2 pIx (mVar 4) (mLit (.int 2))) mNil))) [x0, x1, x2, some (.ref l), some (.tup [.int i, .str w, .int j]), some .non] g = .ok [.int i, .str (if (w == lS) = true then rS else lS), .int j] g :=
        cons_ok (g1 := g) rfl (cons_ok (g1 := g) (op2_ok rfl e1 (ix_lr01 _ g)) rfl)
      unfold mOpA
      rw [e2, Res.bind_ok]
      have : mirD (.tup [.int i, .str w, .int j]) = .tup [.int i, .str (if (w == lS) = true then rS else lS), .int j] := by
        rcases h5 with rfl | rfl <;> rfl
      rw [this]; rfl
  refine seq_to _ g key ?_
  exact append_ok rfl rfl hl (sz_lt (by omega))
theorem Lmir_row {n m l c : Nat} {x0 x1 x5 : Option D} {row : List D} (g : G) (ho : ∀ d ∈ row, entOk d n m) (hl : g[l]? = some (.lst row)) (hc : g[c]? = some (.lst [])) (hlc : l ≠ c) (hz : row.length < 1000) {x4 : Option D} :
    ∃ y4 y5, mFor (mItSeq (mVar 2)) (gSet 4) b_L_mirrored_l2 [x0, x1, some (.ref l), some (.ref c), x4, x5] g = .nx [x0, x1, some (.ref l), some (.ref c), y4, y5] (g.set c (.lst (row.map mirD))) := by
  have hq : seqOf g (.ref l) = some (true, row) := by simp [seqOf, hl]
  obtain ⟨src, s1, s2, s3⟩ := src_of hq
  have hit : mItSeq (mVar 2) [x0, x1, some (.ref l), some (.ref c), x4, x5] g = .ok src g := s1
  obtain ⟨σ', g', e, ⟨y4, y5, h1⟩, h2⟩ := for_src (t := gSet 4) (body := b_L_mirrored_l2) (n := row.length) s2 (σ := [x0, x1, some (.ref l), some (.ref c), x4, x5]) (g := g)
    (fun i σ g1 => (∃ y4 y5, σ = [x0, x1, some (.ref l), some (.ref c), y4, y5]) ∧ g1 = g.set c (.lst ((row.take i).map mirD))) ⟨⟨x4, x5, rfl⟩, by
      apply List.ext_getElem?
      intro j
      by_cases hj : j = c
      · subst hj; rw [hc, List.take_zero, List.map_nil, get_set hc]
      · rw [List.getElem?_set_ne (Ne.symm hj)]⟩ (fun i σ g1 hi ⟨⟨y4, y5, h1⟩, h2⟩ => by
      subst h1 h2
      have hr : row[i]? = some row[i] := by simp [hi]
      have hq1 : seqOf (g.set c (.lst ((row.take i).map mirD))) (.ref l) = some (true, row) := by
        unfold seqOf; dsimp only; rw [List.getElem?_set_ne (Ne.symm hlc), hl]
      have e := Lmir_cell (x0 := x0) (x1 := x1) (x2 := some (.ref l)) (x5 := y5) (g.set c (.lst ((row.take i).map mirD))) (ho _ (List.mem_of_getElem? hr)) (get_set hc) (by simp; omega)
      refine ⟨row[i], _, _, _, by rw [s3 _ i hq1, hr], rfl, e, ⟨_, _, rfl⟩, ?_⟩
      rw [List.set_set, List.take_succ_eq_append_getElem hi, List.map_append]; rfl)
    (fun σ g1 ⟨_, h⟩ => by
      subst h
      rw [s3 _ _ (by unfold seqOf; dsimp only; rw [List.getElem?_set_ne (Ne.symm hlc), hl]), List.getElem?_eq_none (Nat.le_refl _)])
  rw [h1, h2, List.take_length] at e
  exact ⟨y4, y5, (for_ok hit).trans e⟩
theorem Lmir_eq {n m N t : Nat} {rows : List (List D)} (g : G) (hT : tabOf N g t rows) (hn : rows.length ≤ 12) (h2 : ∀ r ∈ rows, r.length ≤ 8) (h3 : ∀ r ∈ rows, ∀ d ∈ r, entOk d n m) :
    ∃ c g', f_L_mirrored [.ref t] g = .ok (.ref c) g' ∧ Keeps [] g g' ∧ tabOf g.length g' c (rows.map fun r => r.map mirD) := by
  obtain ⟨_, ds, d1, d2, d3⟩ := hT
  have get : ∀ i, (hi : i < rows.length) → ∃ l, ds[i]? = some (.ref l) ∧ g[l]? = some (.lst rows[i]) := fun i hi => by
    obtain ⟨l, e, _, _, q⟩ := d3 i (ds[i]'(by omega)) rows[i] (by simp) (by simp)
    exact ⟨l, by rw [← e]; simp, q⟩
  have kp : Keeps [] g (g ++ [.lst []]) := .push _
  have gc : (g ++ [.lst []])[g.length]? = some (.lst []) := get_push _
  have s1 : mAsg (gSet 1) (mOpA newL mNil) [some (.ref t), none, none, none, none, none] g = .nx [some (.ref t), some (.ref g.length), none, none, none, none] (g ++ [.lst []]) := asg_ok (by simp [mOpA, mNil, Res.bind, newL])
  generalize g ++ [.lst []] = g0 at kp gc s1
  have d10 := kp.at' _ _ (by simp) d1
  have hq : seqOf g0 (.ref t) = some (true, ds) := by simp [seqOf, d10]
  obtain ⟨src, q1, q2, q3⟩ := src_of hq
  have ht : t < g.length := get_lt d1
  obtain ⟨σ', g', e, ls, y2, y3, y4, y5, h1, i1, i2, i3, i4⟩ := for_src (t := gSet 2) (body := b_L_mirrored_l1) (n := ds.length) q2 (σ := [some (.ref t), some (.ref g.length), none, none, none, none]) (g := g0)
    (fun i σ g1 => ∃ (ls : List Nat) (y2 y3 y4 y5 : Option D), σ = [some (.ref t), some (.ref g.length), y2, y3, y4, y5] ∧ ls.length = i ∧ Keeps [g.length] g0 g1 ∧ g1[g.length]? = some (.lst (ls.map D.ref)) ∧ ∀ (j l : Nat), ls[j]? = some l → g.length < l ∧ ∀ r, rows[j]? = some r → g1[l]? = some (.lst (r.map mirD)))
    ⟨[], none, none, none, none, rfl, rfl, .refl, gc, by simp⟩ (fun i σ g1 hi ⟨ls, y2, y3, y4, y5, h1, i1, i2, i3, i4⟩ => by
      subst h1
      have hi : i < rows.length := by omega
      obtain ⟨l, el, gl⟩ := get i hi
      have hll : l < g.length := get_lt gl
      have gl1 := i2.at' l _ (by simp; omega) (kp.at' _ _ (by simp) gl)
      have hq1 : seqOf g1 (.ref t) = some (true, ds) := by
        have := i2.at' t _ (by simp; omega) d10
        simp [seqOf, this]
      have k2 : Keeps [] g1 (g1 ++ [.lst []]) := .push _
      have gn : (g1 ++ [.lst []])[g1.length]? = some (.lst []) := get_push _
      have hg1 : g.length < g1.length := get_lt i3
      have p1 : mAsg (gSet 3) (mOpA newL mNil) [some (.ref t), some (.ref g.length), some (.ref l), y3, y4, y5] g1 = .nx [some (.ref t), some (.ref g.length), some (.ref l), some (.ref g1.length), y4, y5] (g1 ++ [.lst []]) := asg_ok (by simp [mOpA, mNil, Res.bind, newL])
      generalize g1 ++ [.lst []] = g2 at k2 gn p1
      have hri := h3 _ (List.getElem_mem hi)
      have hrl := h2 _ (List.getElem_mem hi)
      obtain ⟨z4, z5, e2⟩ := Lmir_row (x0 := some (.ref t)) (x1 := some (.ref g.length)) (x4 := y4) (x5 := y5) g2 hri (k2.at' _ _ (by simp) gl1) gn (by omega) (by omega)
      have gn3 : (g2.set g1.length (.lst (rows[i].map mirD)))[g1.length]? = some (.lst (rows[i].map mirD)) := get_set gn
      have k3 : Keeps [g1.length] g2 (g2.set g1.length (.lst (rows[i].map mirD))) := .set _ _
      generalize g2.set g1.length (.lst (rows[i].map mirD)) = g3 at e2 gn3 k3
      have gt3 := k3.at' g.length _ (by simp; omega) (k2.at' _ _ (by simp) i3)
      refine ⟨.ref l, _, [some (.ref t), some (.ref g.length), some (.ref l), some (.ref g1.length), z4, z5], g3.set g.length (.lst (ls.map D.ref ++ [.ref g1.length])), by rw [q3 g1 i hq1, el], rfl, ?_, ls ++ [g1.length], _, _, _, _, rfl, by simp [i1], ?_, ?_, ?_⟩
      · show b_L_mirrored_l1 [some (.ref t), some (.ref g.length), some (.ref l), y3, y4, y5] g1 = _
        unfold b_L_mirrored_l1
        exact seq_to _ _ p1 (seq_to _ _ e2 (append_ok rfl rfl gt3 (sz_lt (by simp; omega))))
      · refine ⟨by rw [List.length_set]; exact Nat.le_trans i2.len (Nat.le_trans k2.len k3.len), fun b o hb eb => ?_⟩
        have e1 := i2.at' b o hb eb
        have : b < g1.length := get_lt e1
        rw [List.getElem?_set_ne (fun z => hb (by simp [z]))]
        exact k3.at' b o (by simp; omega) (k2.at' b o (by simp) e1)
      · rw [get_set gt3]; simp
      · intro j b hb
        have key : ∀ b o, g.length < b → g3[b]? = some o → (g3.set g.length (.lst (ls.map D.ref ++ [.ref g1.length])))[b]? = some o := fun b o hb eb => by
          rw [List.getElem?_set_ne (by omega)]; exact eb
        by_cases hj : j < ls.length
        · rw [List.getElem?_append_left hj] at hb
          obtain ⟨b1, b2⟩ := i4 j b hb
          refine ⟨b1, fun r hr => key b _ b1 ?_⟩
          have e1 := b2 r hr
          have : b < g1.length := get_lt e1
          exact k3.at' b _ (by simp; omega) (k2.at' b _ (by simp) e1)
        · have hj' : j = i := by
            have := (List.getElem?_eq_some_iff.mp hb).1
            simp at this; omega
          subst hj'
          rw [List.getElem?_append_right (by omega), i1] at hb
          simp at hb
          subst hb
          refine ⟨hg1, fun r hr => key _ _ hg1 ?_⟩
          rw [List.getElem?_eq_getElem hi] at hr
          cases hr
          exact gn3)
    (fun σ g1 ⟨ls, _, _, _, _, _, _, i2, _, _⟩ => by
      have := i2.at' t _ (by simp; omega) d10
      rw [q3 g1 _ (by simp [seqOf, this]), List.getElem?_eq_none (Nat.le_refl _)])
  rw [h1] at e
  refine ⟨g.length, g', def_rt rfl ?_, ?_, Nat.le_refl _, ls.map D.ref, i3, by simp [i1, d2], fun j x r hx hr => ?_⟩
  · show b_L_mirrored [some (.ref t), none, none, none, none, none] g = _
    unfold b_L_mirrored
    exact seq_to _ _ s1 (seq_to _ _ ((for_ok (show mItSeq (mVar 0) [some (.ref t), some (.ref g.length), none, none, none, none] g0 = .ok src g0 from q1)).trans e) rfl)
  · refine ⟨Nat.le_trans kp.len i2.len, fun b o hb eb => ?_⟩
    have : b < g.length := get_lt eb
    exact i2.at' b o (by simp; omega) (kp.at' b o hb eb)
  · rw [List.getElem?_map] at hx
    cases hl : ls[j]? with
    | none => rw [hl] at hx; cases hx
    | some l =>
      rw [hl] at hx; cases hx
      obtain ⟨b1, b2⟩ := i4 j l hl
      rw [List.getElem?_map] at hr
      cases hr0 : rows[j]? with
      | none => rw [hr0] at hr; cases hr
      | some r0 =>
        rw [hr0] at hr; cases hr
        exact ⟨l, rfl, by omega, by omega, b2 r0 hr0⟩
end L3

end
section
namespace L3
open PySem
noncomputable def scat {α : Type} (p : List Nat) (n : Nat) (f : Nat → α) (z : α) (k : Nat) : List α := (List.range n).map fun s => if p.idxOf s < k then f (p.idxOf s) else z
theorem scat_len {α : Type} (p : List Nat) (n : Nat) (f : Nat → α) (z : α) (k : Nat) : (scat p n f z k).length = n := by simp [scat]
theorem scat_at {α : Type} {p : List Nat} {n : Nat} {f : Nat → α} {z : α} {k s : Nat} (hs : s < n) : (scat p n f z k)[s]? = some (if p.idxOf s < k then f (p.idxOf s) else z) := by simp [scat, hs]
theorem scat_zero {α : Type} (p : List Nat) (n : Nat) (f : Nat → α) (z : α) : scat p n f z 0 = List.replicate n z := by
  apply List.ext_getElem
  · simp [scat]
  · intro i h1 h2; simp [scat]
theorem Nm.get {p : List Nat} {n : Nat} (h : Nm p n) {k : Nat} (hk : k < n) : ∃ x, p[k]? = some x ∧ x < n ∧ p.idxOf x = k := by
  have hl : k < p.length := by rw [h.len]; exact hk
  exact ⟨p[k], by simp [hl], h.lt (List.getElem_mem hl), idx_get h.nodup hl⟩
theorem scat_set {α : Type} {p : List Nat} {n : Nat} {f : Nat → α} {z : α} {k x : Nat} (h : Nm p n) (hk : k < n) (hx : p[k]? = some x) : (scat p n f z k).set x (f k) = scat p n f z (k + 1) := by
  obtain ⟨x', e1, hx1, hx2⟩ := h.get hk
  rw [hx] at e1; cases e1
  apply List.ext_getElem?
  intro s
  by_cases hs : s < n
  · by_cases e : x = s
    · subst e
      rw [List.getElem?_set_self (by rw [scat_len]; exact hs), scat_at hs, hx2, if_pos (Nat.lt_succ_self k)]
    · rw [List.getElem?_set_ne e, scat_at hs, scat_at hs]
      have hne : p.idxOf s ≠ k := fun z => e (by
        have a := get_idx h hs
        rw [z, hx] at a
        exact Option.some.inj a)
      by_cases hl : p.idxOf s < k
      · rw [if_pos hl, if_pos (by omega)]
      · rw [if_neg hl, if_neg (by omega)]
  · rw [List.getElem?_eq_none (by rw [List.length_set, scat_len]; omega), List.getElem?_eq_none (by rw [scat_len]; omega)]
theorem scat_full {α : Type} {p : List Nat} {n : Nat} {f : Nat → α} {z : α} (h : Nm p n) : scat p n f z n = (List.range n).map fun s => f (p.idxOf s) := by
  unfold scat
  apply List.map_congr_left
  intro s hs
  rw [if_pos (idx_lt h (List.mem_range.mp hs))]
noncomputable def renD (p q : List Nat) : D → D
  | .tup [.int i, w, .int j] => .tup [.int (q.getD i.toNat 0 : Nat), w, .int (p.getD j.toNat 0 : Nat)]
  | d => d
theorem getD_of {p : List Nat} {k x : Nat} (h : p[k]? = some x) : p.getD k 0 = x := by rw [List.getD_eq_getElem?_getD, h]; rfl
theorem ren_ok {p q : List Nat} {n m : Nat} {d : D} (hp : Nm p n) (hq : Nm q m) (h : entOk d n m) : entOk (renD p q d) n m := by
  rcases h with rfl | ⟨i, j, w, rfl, h1, h2, h3, h4, h5⟩
  · exact .inl rfl
  · obtain ⟨x, e1, x1, _⟩ := hq.get (show i.toNat < m by omega)
    obtain ⟨y, e2, y1, _⟩ := hp.get (show j.toNat < n by omega)
    refine .inr ⟨x, y, w, ?_, by omega, by omega, by omega, by omega, h5⟩
    show D.tup [.int (q.getD i.toNat 0 : Nat), .str w, .int (p.getD j.toNat 0 : Nat)] = _
    rw [getD_of e1, getD_of e2]
theorem ren_back {p q : List Nat} {n m : Nat} {d : D} (hp : Nm p n) (hq : Nm q m) (h : entOk d n m) : renD (bck p) (bck q) (renD p q d) = d := by
  rcases h with rfl | ⟨i, j, w, rfl, h1, h2, h3, h4, h5⟩
  · rfl
  · obtain ⟨x, e1, x1, x2⟩ := hq.get (show i.toNat < m by omega)
    obtain ⟨y, e2, y1, y2⟩ := hp.get (show j.toNat < n by omega)
    show D.tup [.int ((bck q).getD (Int.toNat (q.getD i.toNat 0 : Nat)) 0 : Nat), .str w, .int ((bck p).getD (Int.toNat (p.getD j.toNat 0 : Nat)) 0 : Nat)] = _
    rw [getD_of e1, getD_of e2, Int.toNat_natCast, Int.toNat_natCast, getD_of (bck_at hq x1), getD_of (bck_at hp y1), x2, y2]
    have a : ((i.toNat : Nat) : Int) = i := by omega
    have b : ((j.toNat : Nat) : Int) = j := by omega
    rw [a, b]
noncomputable def renRow (p q : List Nat) (m : Nat) (row : List D) : List D := (List.range m).map fun c => renD p q (row.getD (q.idxOf c) .non)
noncomputable def renT (p q : List Nat) (n m : Nat) (rows : List (List D)) : List (List D) := (List.range n).map fun s => renRow p q m (rows.getD (p.idxOf s) [])
theorem renRow_len (p q : List Nat) (m : Nat) (row : List D) : (renRow p q m row).length = m := by simp [renRow]
theorem renT_len (p q : List Nat) (n m : Nat) (rows : List (List D)) : (renT p q n m rows).length = n := by simp [renT]
theorem renT_rows {p q : List Nat} {n m : Nat} {rows : List (List D)} : ∀ r ∈ renT p q n m rows, r.length = m := by
  intro r hr
  obtain ⟨s, _, rfl⟩ := List.mem_map.mp hr
  exact renRow_len ..
theorem getD_get {α : Type} {xs : List α} {i : Nat} {z : α} (h : i < xs.length) : xs.getD i z = xs[i] := by rw [List.getD_eq_getElem?_getD, List.getElem?_eq_getElem h]; rfl
theorem renT_ok {p q : List Nat} {n m : Nat} {rows : List (List D)} (hp : Nm p n) (hq : Nm q m) (h1 : rows.length = n) (h2 : ∀ r ∈ rows, r.length = m) (h3 : ∀ r ∈ rows, ∀ d ∈ r, entOk d n m) : ∀ r ∈ renT p q n m rows, ∀ d ∈ r, entOk d n m := by
  intro r hr d hd
  obtain ⟨s, hs, rfl⟩ := List.mem_map.mp hr
  obtain ⟨c, hc, rfl⟩ := List.mem_map.mp hd
  have hs' := idx_lt hp (List.mem_range.mp hs)
  have hc' := idx_lt hq (List.mem_range.mp hc)
  rw [getD_get (by omega : p.idxOf s < rows.length)]
  have hm := List.getElem_mem (l := rows) (n := p.idxOf s) (by omega)
  have hl := h2 _ hm
  rw [getD_get (by omega)]
  exact ren_ok hp hq (h3 _ hm _ (List.getElem_mem _))
theorem renT_back {p q : List Nat} {n m : Nat} {rows : List (List D)} (hp : Nm p n) (hq : Nm q m) (h1 : rows.length = n) (h2 : ∀ r ∈ rows, r.length = m) (h3 : ∀ r ∈ rows, ∀ d ∈ r, entOk d n m) : renT (bck p) (bck q) n m (renT p q n m rows) = rows := by
  have hbp := bck_nm hp
  have hbq := bck_nm hq
  have inv : ∀ {p : List Nat} {n s : Nat}, Nm p n → s < n → ∃ x, (bck p).idxOf s = x ∧ x < n ∧ p.idxOf x = s := fun {p n s} hp hs => by
    obtain ⟨x, e, x1, x2⟩ := hp.get hs
    refine ⟨x, ?_, x1, x2⟩
    obtain ⟨y, e', y1, y2⟩ := (bck_nm hp).get x1
    rw [bck_at hp x1, x2] at e'
    cases e'
    exact y2
  apply List.ext_getElem
  · rw [renT_len, h1]
  · intro s hs hs'
    have hsn : s < n := by rw [renT_len] at hs; exact hs
    obtain ⟨x, ex, x1, x2⟩ := inv hp hsn
    have e1 : (renT (bck p) (bck q) n m (renT p q n m rows))[s] = renRow (bck p) (bck q) m (renRow p q m rows[s]) := by
      simp only [renT, List.getElem_map, List.getElem_range]
      rw [ex]
      congr 1
      rw [getD_get (by simp; exact x1)]
      simp only [List.getElem_map, List.getElem_range]
      rw [x2, getD_get hs']
    rw [e1]
    have hrm := h2 _ (List.getElem_mem hs')
    have hro := h3 _ (List.getElem_mem hs')
    generalize rows[s] = row at hrm hro
    apply List.ext_getElem
    · rw [renRow_len, hrm]
    · intro c hc hc'
      have hcm : c < m := by rw [renRow_len] at hc; exact hc
      obtain ⟨y, ey, y1, y2⟩ := inv hq hcm
      simp only [renRow, List.getElem_map, List.getElem_range]
      rw [ey, getD_get (by simp; exact y1)]
      simp only [List.getElem_map, List.getElem_range]
      rw [y2, getD_get hc']
      exact ren_back hp hq (hro _ (List.getElem_mem _))
theorem ix_nat {t p : Nat} {ds : List D} {d : D} {g : G} (h : g[t]? = some (.lst ds)) (hp : ds[p]? = some d) : pIx (.ref t) (.int p) g = .ok d g := by
  have hl : p < ds.length := (List.getElem?_eq_some_iff.mp hp).1
  unfold pIx; dsimp only; rw [h]; dsimp only
  unfold atD ixD
  rw [if_pos (by omega), if_pos (by omega)]
  simp [hp]
theorem ix_int {t : Nat} {i : Int} {ds : List D} {d : D} {g : G} (h : g[t]? = some (.lst ds)) (h0 : 0 ≤ i) (hp : ds[i.toNat]? = some d) : pIx (.ref t) (.int i) g = .ok d g := by
  have e : ((i.toNat : Nat) : Int) = i := by omega
  rw [← e]; exact ix_nat h hp
theorem renamed_entry_eq {lp lq : Nat} {p q : List Nat} {n m : Nat} {d : D} (g : G) (hp : Nm p n) (hq : Nm q m) (gp : g[lp]? = some (.lst (nD p))) (gq : g[lq]? = some (.lst (nD q))) (h : entOk d n m) : f_renamed_entry [d, .ref lp, .ref lq] g = .ok (renD p q d) g := by
  refine def_rt rfl ?_
  show b_renamed_entry [some d, some (.ref lp), some (.ref lq)] g = _
  unfold b_renamed_entry
  rcases h with rfl | ⟨i, j, w, rfl, h1, h2, h3, h4, h5⟩
  · exact seq_rt (ift g rfl rfl)
  · obtain ⟨x, e1, x1, _⟩ := hq.get (show i.toNat < m by omega)
    obtain ⟨y, e2, y1, _⟩ := hp.get (show j.toNat < n by omega)
    refine seq_to [some (.tup [.int i, .str w, .int j]), some (.ref lp), some (.ref lq)] g (iff' g rfl rfl) (ret_ok ?_)
    have er : renD p q (.tup [.int i, .str w, .int j]) = .tup [.int x, .str w, .int y] := by
      show D.tup [.int (q.getD i.toNat 0 : Nat), .str w, .int (p.getD j.toNat 0 : Nat)] = _
      rw [getD_of e1, getD_of e2]
    have ea : (mCons (mOp2 pIx (mVar 2) (mOp2 pIx (mVar 0) (mLit (.int 0)))) (mCons (mOp2 pIx (mVar 0) (mLit (.int 1))) (mCons (mOp2 pIx (mVar 1) (mOp2 pIx (mVar 0) (mLit (.int 2)))) mNil))) [some (.tup [.int i, .str w, .int j]), some (.ref lp), some (.ref lq)] g = .ok [.int x, .str w, .int y] g :=
      cons_ok (g1 := g) (op2_ok (x := .ref lq) (y := .int i) (g1 := g) (g2 := g) rfl rfl (ix_int gq h1 (nD_get e1))) (cons_ok (g1 := g) rfl (cons_ok (g1 := g) (op2_ok (x := .ref lp) (y := .int j) (g1 := g) (g2 := g) rfl rfl (ix_int gp h3 (nD_get e2))) rfl))
    unfold mOpA
    rw [ea, Res.bind_ok, er]; rfl
theorem setIx_ok {n k : Nat} {ds : List D} {y : D} {σ : S3} {g g1 : G} {o i v : ME} (hv : v σ g = .ok y g1) (ho : o σ g1 = .ok (.ref n) g1) (hi : i σ g1 = .ok (.int k) g1) (h : g1[n]? = some (.lst ds)) (hk : k < ds.length) :
    mSetIx o i v σ g = .nx σ (g1.set n (.lst (ds.set k y))) := by
  unfold mSetIx
  rw [hv]; dsimp only
  rw [ho]; dsimp only
  rw [hi]; dsimp only
  rw [h]; dsimp only
  have : ixD ds.length (k : Int) = some k := by unfold ixD; rw [if_pos (by omega), if_pos (by omega)]; simp
  rw [this]
theorem seq_ref {g : G} {l : Nat} {ds : List D} (h : g[l]? = some (.lst ds)) : seqOf g (.ref l) = some (true, ds) := by unfold seqOf; dsimp only; rw [h]
theorem renamed_row_eq {lp lq : Nat} {p q : List Nat} {n m : Nat} {row : List D} (g : G) (hp : Nm p n) (hq : Nm q m) (hm8 : m ≤ 8) (gp : g[lp]? = some (.lst (nD p))) (gq : g[lq]? = some (.lst (nD q))) (hl : row.length = m) (h : ∀ d ∈ row, entOk d n m) :
    f_renamed_row [.tup row, .ref lp, .ref lq] g = .ok (.ref g.length) (g ++ [.lst (renRow p q m row)]) := by
  have hlp : lp < g.length := get_lt gp
  have hlq : lq < g.length := get_lt gq
  have e1 : mComp (mItSeq (mVar 0)) 1 [] (gSet 0) mTrue (mLit .non) [some (.tup row), some (.ref lp), some (.ref lq), none, none, none] g = .ok (.ref g.length) (g ++ [.lst (List.replicate m .non)]) := by
    have := comp_ok (it := mItSeq (mVar 0)) (n := 1) (cap := []) (t := gSet 0) (c := mTrue) (e := mLit .non) (σ := [some (.tup row), some (.ref lp), some (.ref lq), none, none, none]) (src := ⟨fun _ i => some row[i]?, row.length⟩) (g := g) (g1 := g) (g2 := g) (ds := row.map fun _ => D.non) rfl (Nat.le_of_lt (sz_lt (show row.length ≤ 1000 by omega))) (σ0 := [none]) rfl (comp_pure rfl (fun i => rfl) fun d hd => rfl)
    rw [this]
    have : (row.map fun _ => D.non) = List.replicate m .non := by rw [List.map_const', hl]
    rw [this]
  obtain ⟨src, s1, s2, s3⟩ := zip_src (g := g ++ [.lst (List.replicate m .non)]) (d1 := .ref lq) (d2 := .tup row) (b1 := true) (b2 := false) (xs := nD q) (ys := row) (by simp [seqOf, (Keeps.push (S := []) (g := g) (.lst (List.replicate m .non))).at' _ _ (by simp) gq]) rfl (by rw [nD_len, hq.len, hl])
  obtain ⟨σ', g', e, ⟨y4, y5, q1⟩, q2⟩ := for_src (t := gTup3 [gSet 4, gSet 5]) (body := b_renamed_row_l1) s2 (σ := [some (.tup row), some (.ref lp), some (.ref lq), some (.ref g.length), none, none]) (g := g ++ [.lst (List.replicate m .non)])
    (fun i σ g1 => (∃ y4 y5, σ = [some (.tup row), some (.ref lp), some (.ref lq), some (.ref g.length), y4, y5]) ∧ g1 = g ++ [.lst (scat q m (fun j => renD p q (row.getD j .non)) .non i)]) ⟨⟨none, none, rfl⟩, by rw [scat_zero]⟩ (fun i σ g1 hi ⟨⟨y4, y5, q1⟩, q2⟩ => by
      subst q1 q2
      have hi : i < m := by rw [nD_len, hq.len] at hi; exact hi
      obtain ⟨x, ex, x1, _⟩ := hq.get hi
      have kp : Keeps [] g (g ++ [.lst (scat q m (fun j => renD p q (row.getD j .non)) .non i)]) := .push _
      have gp1 := kp.at' _ _ (by simp) gp
      have gq1 := kp.at' _ _ (by simp) gq
      have hr : row[i]? = some (row[i]'(by omega)) := by simp [show i < row.length by omega]
      refine ⟨.tup [.int x, row[i]'(by omega)], _, [some (.tup row), some (.ref lp), some (.ref lq), some (.ref g.length), some (.int x), some (row[i]'(by omega))], (g ++ [GO.lst (scat q m (fun j => renD p q (row.getD j .non)) .non i)]).set g.length (.lst ((scat q m (fun j => renD p q (row.getD j .non)) .non i).set x (renD p q (row[i]'(by omega))))), (s3 _ (seq_ref gq1) rfl).2 i _ _ (nD_get ex) hr, rfl, ?_, ⟨_, _, rfl⟩, ?_⟩
      · exact setIx_ok (n := g.length) (k := x) (by
          rw [call_ok (ds := [row[i]'(by omega), .ref lp, .ref lq]) (g' := g ++ [.lst (scat q m (fun j => renD p q (row.getD j .non)) .non i)]) rfl]
          exact renamed_entry_eq _ hp hq gp1 gq1 (h _ (List.getElem_mem _))) rfl rfl (get_push _) (by rw [scat_len]; exact x1)
      · rw [set_push, ← scat_set hq hi ex, getD_get (by omega : i < row.length)])
    (fun σ g1 ⟨_, q2⟩ => by
      subst q2
      have gq1 := (Keeps.push (S := []) (g := g) (.lst (scat q m (fun j => renD p q (row.getD j .non)) .non (nD q).length))).at' _ _ (by simp) gq
      exact (s3 _ (seq_ref gq1) rfl).1)
  rw [q1, q2, nD_len, hq.len, scat_full hq] at e
  refine def_rt rfl ?_
  show b_renamed_row [some (.tup row), some (.ref lp), some (.ref lq), none, none, none] g = _
  unfold b_renamed_row
  exact seq_to _ _ (asg_ok e1) (seq_to _ _ ((for_ok (show mItZip (mVar 2) (mVar 0) [some (.tup row), some (.ref lp), some (.ref lq), some (.ref g.length), none, none] (g ++ [.lst (List.replicate m .non)]) = .ok src (g ++ [.lst (List.replicate m .non)]) from s1)).trans e) rfl)
end L3

end
section
namespace L3
open PySem
theorem renamed_loop {lp lq M c : Nat} {p q : List Nat} {n m : Nat} {rows : List (List D)} (g : G) (hp : Nm p n) (hq : Nm q m) (hm8 : m ≤ 8) (gp : g[lp]? = some (.lst (nD p))) (gq : g[lq]? = some (.lst (nD q))) (hM : g[M]? = some (machO rows)) (gc : g[c]? = some (.lst (List.replicate n (.tup [])))) (hcp : c ≠ lp) (hcq : c ≠ lq) (h1 : rows.length = n) (h2 : ∀ r ∈ rows, r.length = m) (h3 : ∀ r ∈ rows, ∀ d ∈ r, entOk d n m) :
    ∃ y4 y5 g', mFor (mItZip (mVar 1) (mAttr [11] (Str.ofString "table") (mVar 0))) (gTup3 [gSet 4, gSet 5]) b_renamed_l1 [some (.ref M), some (.ref lp), some (.ref lq), some (.ref c), none, none] g = .nx [some (.ref M), some (.ref lp), some (.ref lq), some (.ref c), y4, y5] g' ∧ Keeps [c] g g' ∧ rowsOf g' (.ref c) (renT p q n m rows) := by
  obtain ⟨src, s1, s2, s3⟩ := zip_src (g := g) (d1 := .ref lp) (d2 := .tup (rows.map D.tup)) (b1 := true) (b2 := false) (xs := nD p) (ys := rows.map D.tup) (seq_ref gp) rfl (by rw [nD_len, hp.len]; simp [h1])
  have hit : mItZip (mVar 1) (mAttr [11] (Str.ofString "table") (mVar 0)) [some (.ref M), some (.ref lp), some (.ref lq), some (.ref c), none, none] g = .ok src g := by
    unfold mItZip
    have v1 : mVar 1 [some (.ref M), some (.ref lp), some (.ref lq), some (.ref c), none, none] g = .ok (.ref lp) g := rfl
    rw [v1, Res.bind_ok, attr_table rfl hM, Res.bind_ok]; exact s1
  obtain ⟨σ', g', e, ⟨y4, y5, q1⟩, ds, i1, i2, i3, i4⟩ := for_src (t := gTup3 [gSet 4, gSet 5]) (body := b_renamed_l1) s2 (σ := [some (.ref M), some (.ref lp), some (.ref lq), some (.ref c), none, none]) (g := g)
    (fun i σ g1 => (∃ y4 y5, σ = [some (.ref M), some (.ref lp), some (.ref lq), some (.ref c), y4, y5]) ∧ ∃ ds : List D, ds.length = n ∧ g1[c]? = some (.lst ds) ∧ Keeps [c] g g1 ∧ ∀ j, j < i → ∃ x l, p[j]? = some x ∧ ds[x]? = some (.ref l) ∧ l ≠ c ∧ g1[l]? = some (.lst (renRow p q m (rows.getD j []))))
    ⟨⟨none, none, rfl⟩, _, by simp, gc, .refl, fun j hj => by omega⟩ (fun i σ g1 hi ⟨⟨y4, y5, q1⟩, ds, i1, i2, i3, i4⟩ => by
      subst q1
      have hi : i < n := by rw [nD_len, hp.len] at hi; exact hi
      obtain ⟨x, ex, x1, x2⟩ := hp.get hi
      have gp1 := i3.at' lp _ (by simp [Ne.symm hcp]) gp
      have gq1 := i3.at' lq _ (by simp [Ne.symm hcq]) gq
      have hir : i < rows.length := by omega
      have hm := List.getElem_mem hir
      have er := renamed_row_eq g1 hp hq hm8 gp1 gq1 (h2 _ hm) (h3 _ hm)
      have kp : Keeps [] g1 (g1 ++ [.lst (renRow p q m rows[i])]) := .push _
      have gn : (g1 ++ [.lst (renRow p q m rows[i])])[g1.length]? = some (.lst (renRow p q m rows[i])) := get_push _
      have hc1 : c < g1.length := get_lt i2
      generalize g1 ++ [.lst (renRow p q m rows[i])] = g2 at er kp gn
      have gc2 := kp.at' _ _ (by simp) i2
      refine ⟨.tup [.int x, .tup rows[i]], _, [some (.ref M), some (.ref lp), some (.ref lq), some (.ref c), some (.int x), some (.tup rows[i])], g2.set c (.lst (ds.set x (.ref g1.length))), (s3 g1 (seq_ref gp1) rfl).2 i _ _ (nD_get ex) (by simp [hir]), rfl, ?_, ⟨_, _, rfl⟩, ds.set x (.ref g1.length), by simp [i1], get_set gc2, ?_, ?_⟩
      · exact setIx_ok (n := c) (k := x) (by
          rw [call_ok (ds := [.tup rows[i], .ref lp, .ref lq]) (g' := g1) rfl]
          exact er) rfl rfl gc2 (by omega)
      · exact (i3.trans kp.all).trans (.set _ _)
      · intro j hj
        by_cases e : j = i
        · subst e
          exact ⟨x, g1.length, ex, by simp [i1, x1], by omega, by rw [List.getElem?_set_ne (by omega), gn, getD_get hir]⟩
        · obtain ⟨x', l, a1, a2, a3, a4⟩ := i4 j (by omega)
          have hne : x ≠ x' := fun z => by
            obtain ⟨x'', b1, _, b2⟩ := hp.get (show j < n by omega)
            rw [a1] at b1; cases b1
            rw [← z, x2] at b2
            omega
          exact ⟨x', l, a1, by rw [List.getElem?_set_ne hne]; exact a2, a3, by rw [List.getElem?_set_ne (Ne.symm a3)]; exact kp.at' _ _ (by simp) a4⟩)
    (fun σ g1 ⟨_, ds, _, _, i3, _⟩ => (s3 g1 (seq_ref (i3.at' lp _ (by simp [Ne.symm hcp]) gp)) rfl).1)
  rw [q1] at e
  refine ⟨y4, y5, g', (for_ok hit).trans e, i3, true, ds, seq_ref i2, by rw [i1, renT_len], fun s d r hd hr => ?_⟩
  have hs : s < n := by have := (List.getElem?_eq_some_iff.mp hd).1; omega
  obtain ⟨x, l, a1, a2, a3, a4⟩ := i4 (p.idxOf s) (by rw [nD_len, hp.len]; exact idx_lt hp hs)
  rw [get_idx hp hs] at a1; cases a1
  rw [hd] at a2; cases a2
  have : r = renRow p q m (rows.getD (p.idxOf s) []) := by
    simp [renT, hs] at hr; exact hr.symm
  rw [this]
  exact ⟨true, seq_ref a4⟩
theorem renamed_eq {lp lq M : Nat} {p q : List Nat} {n m : Nat} {rows : List (List D)} (g : G) (hp : Nm p n) (hq : Nm q m) (hn12 : n ≤ 12) (hm8 : m ≤ 8) (gp : g[lp]? = some (.lst (nD p))) (gq : g[lq]? = some (.lst (nD q))) (hM : g[M]? = some (machO rows)) (h1 : rows.length = n) (h2 : ∀ r ∈ rows, r.length = m) (h3 : ∀ r ∈ rows, ∀ d ∈ r, entOk d n m) :
    ∃ M' g', f_renamed [.ref M, .ref lp, .ref lq] g = .ok (.ref M') g' ∧ Keeps [] g g' ∧ g'[M']? = some (machO (renT p q n m rows)) := by
  have hst : f_states_of [.ref M] g = .ok (.int n) g := by rw [states_of_eq M rows g hM, h1]
  obtain ⟨g1, k1, e1⟩ := names_ok hp hn12 gp
  have hM1 := k1.at' _ _ (by simp) hM
  have gp1 := k1.at' _ _ (by simp) gp
  have gq1 := k1.at' _ _ (by simp) gq
  have hsg : f_signs_of [.ref M] g1 = .ok (.int m) g1 := by
    cases rows with
    | nil => have := hp.pos; simp at h1; omega
    | cons r rest => rw [signs_of_eq M r rest g1 hM1, h2 r (List.mem_cons_self ..)]
  obtain ⟨g2, k2, e2⟩ := names_ok hq (by omega) gq1
  have hM2 := k2.at' _ _ (by simp) hM1
  have gp2 := k2.at' _ _ (by simp) gp1
  have gq2 := k2.at' _ _ (by simp) gq1
  have k3 : Keeps [] g2 (g2 ++ [.lst (List.replicate n (.tup []))]) := .push _
  have gc3 : (g2 ++ [.lst (List.replicate n (.tup []))])[g2.length]? = some (.lst (List.replicate n (.tup []))) := get_push _
  have e3 : mComp (mItSeq (mAttr [11] (Str.ofString "table") (mVar 0))) 1 [] (gSet 0) mTrue (mOpA pTup mNil) [some (.ref M), some (.ref lp), some (.ref lq), none, none, none] g2 = .ok (.ref g2.length) (g2 ++ [.lst (List.replicate n (.tup []))]) := by
    have := comp_ok (it := mItSeq (mAttr [11] (Str.ofString "table") (mVar 0))) (n := 1) (cap := []) (t := gSet 0) (c := mTrue) (e := mOpA pTup mNil) (σ := [some (.ref M), some (.ref lp), some (.ref lq), none, none, none]) (src := ⟨fun _ i => some (rows.map D.tup)[i]?, (rows.map D.tup).length⟩) (g := g2) (g1 := g2) (g2 := g2) (ds := (rows.map D.tup).map fun _ => D.tup []) (by unfold mItSeq; rw [attr_table rfl hM2, Res.bind_ok]; rfl) (Nat.le_of_lt (sz_lt (by simp; omega))) (σ0 := [none]) rfl (comp_pure rfl (fun i => rfl) fun d hd => by simp [mOpA, mNil, Res.bind, pTup])
    rw [this]
    have : ((rows.map D.tup).map fun _ => D.tup []) = List.replicate n (.tup []) := by rw [List.map_const']; simp [h1]
    rw [this]
  have hlp : lp < g2.length := get_lt gp2
  have hlq : lq < g2.length := get_lt gq2
  generalize g2 ++ [.lst (List.replicate n (.tup []))] = g3 at k3 gc3 e3
  obtain ⟨y4, y5, g4, e4, k4, hr4⟩ := renamed_loop g3 hp hq hm8 (k3.at' _ _ (by simp) gp2) (k3.at' _ _ (by simp) gq2) (k3.at' _ _ (by simp) hM2) gc3 (by omega) (by omega) h1 h2 h3
  have h1' := renT_len p q n m rows
  have h2' := renT_rows (p := p) (q := q) (n := n) (m := m) (rows := rows)
  have h3' := renT_ok hp hq h1 h2 h3
  have hgood := entOk.good hp.pos hq.pos h1' h2' h3'
  obtain ⟨g5, k5, e5, h5⟩ := make_eq (.ref g2.length) _ g4 hr4 (fun r hr => Nat.le_of_lt (sz_lt (by have := h2' r hr; omega))) (Nat.le_of_lt (sz_lt (by omega))) (fun r hr d hd => (h3' r hr d hd).thing) (mCons (mVar 3) mNil) [some (.ref M), some (.ref lp), some (.ref lq), some (.ref g2.length), y4, y5] g4 rfl
  rw [if_pos hgood] at e5
  refine ⟨g4.length, g5, def_rt rfl ?_, ?_, h5 hgood⟩
  · show b_renamed [some (.ref M), some (.ref lp), some (.ref lq), none, none, none] g = _
    unfold b_renamed
    refine seq_to _ g1 (expr_ok (d := .non) (g' := g1) (by rw [call_ok (ds := [.ref lp, .int n]) (g' := g) (cons_ok (g1 := g) rfl (cons_ok (g1 := g) (by rw [call_ok (ds := [.ref M]) (g' := g) rfl]; exact hst) rfl))]; exact e1)) ?_
    refine seq_to _ g2 (expr_ok (d := .non) (g' := g2) (by rw [call_ok (ds := [.ref lq, .int m]) (g' := g1) (cons_ok (g1 := g1) rfl (cons_ok (g1 := g1) (by rw [call_ok (ds := [.ref M]) (g' := g1) rfl]; exact hsg) rfl))]; exact e2)) ?_
    exact seq_to _ _ (asg_ok e3) (seq_to _ _ e4 (ret_ok e5))
  · have k04 : Keeps [] g g4 := by
      have k03 := (k1.trans k2).trans k3
      refine ⟨Nat.le_trans k03.len k4.len, fun b o hb eb => ?_⟩
      have e2 := (k1.trans k2).at' b o hb eb
      have : b < g2.length := get_lt e2
      exact k4.at' b o (by simp; omega) (k3.at' b o hb e2)
    exact k04.trans k5
theorem renamed_raise {lp lq M : Nat} {n m : Nat} {rows : List (List D)} {ps qs : List D} (g : G) (hn : 0 < n) (hm : 0 < m) (hn12 : n ≤ 12) (hm8 : m ≤ 8) (gp : g[lp]? = some (.lst ps)) (gq : g[lq]? = some (.lst qs)) (hpp : ∀ d ∈ ps, plainD d = true) (hqq : ∀ d ∈ qs, plainD d = true) (hpz : ps.length ≤ 60) (hqz : qs.length ≤ 60) (hM : g[M]? = some (machO rows)) (h1 : rows.length = n) (h2 : ∀ r ∈ rows, r.length = m)
    (hbad : (¬ ∃ ns : List Int, ps = ns.map D.int ∧ ns.Perm (rngZ n) ∧ ns[0]? = some 0) ∨ ((∃ ns : List Int, ps = ns.map D.int ∧ ns.Perm (rngZ n) ∧ ns[0]? = some 0) ∧ ¬ ∃ ns : List Int, qs = ns.map D.int ∧ ns.Perm (rngZ m) ∧ ns[0]? = some 0)) :
    ∃ g', f_renamed [.ref M, .ref lp, .ref lq] g = .raise (2, none) g' ∧ Keeps [] g g' := by
  have hst : f_states_of [.ref M] g = .ok (.int n) g := by rw [states_of_eq M rows g hM, h1]
  obtain ⟨g1, k1, a1, b1⟩ := names_eq hn hn12 gp hpp hpz
  have cal : mCall f_check_names (mCons (mVar 1) (mCons (mCall f_states_of (mCons (mVar 0) mNil)) mNil)) [some (.ref M), some (.ref lp), some (.ref lq), none, none, none] g = f_check_names [.ref lp, .int n] g :=
    call_ok (cons_ok (g1 := g) rfl (cons_ok (g1 := g) (by rw [call_ok (ds := [.ref M]) (g' := g) rfl]; exact hst) rfl))
  rcases hbad with hbad | ⟨hgood, hbad⟩
  · refine ⟨g1, def_raise (σ := [some (.ref M), some (.ref lp), some (.ref lq), none, none, none]) rfl ?_, k1⟩
    show b_renamed [some (.ref M), some (.ref lp), some (.ref lq), none, none, none] g = _
    unfold b_renamed
    refine seq_raise ?_
    unfold mExpr
    rw [cal, b1 hbad]
  · have hM1 := k1.at' _ _ (by simp) hM
    have hsg : f_signs_of [.ref M] g1 = .ok (.int m) g1 := by
      cases rows with
      | nil => simp at h1; omega
      | cons r rest => rw [signs_of_eq M r rest g1 hM1, h2 r (List.mem_cons_self ..)]
    obtain ⟨g2, k2, a2, b2⟩ := names_eq hm (by omega) (k1.at' _ _ (by simp) gq) hqq hqz
    refine ⟨g2, def_raise (σ := [some (.ref M), some (.ref lp), some (.ref lq), none, none, none]) rfl ?_, k1.trans k2⟩
    show b_renamed [some (.ref M), some (.ref lp), some (.ref lq), none, none, none] g = _
    unfold b_renamed
    refine seq_to _ g1 (expr_ok (d := .non) (g' := g1) (by rw [cal]; exact a1 hgood)) (seq_raise ?_)
    unfold mExpr
    rw [call_ok (ds := [.ref lq, .int m]) (g' := g1) (cons_ok (g1 := g1) rfl (cons_ok (g1 := g1) (by rw [call_ok (ds := [.ref M]) (g' := g1) rfl]; exact hsg) rfl)), b2 hbad]
end L3

end
section
namespace L3
open PySem
theorem enum_src {g : G} {d : D} {ds : List D} (h : seqOf g d = some (true, ds)) : ∃ src, srcEnum d g = .ok src g ∧ src.top = ds.length ∧ (∀ g1 (i : Nat) x, seqOf g1 d = some (true, ds) → ds[i]? = some x → src.at' g1 i = some (some (.tup [.int i, x]))) ∧ ∀ g1, seqOf g1 d = some (true, ds) → src.at' g1 ds.length = some none := by
  unfold srcEnum
  rw [h]
  refine ⟨_, rfl, rfl, fun g1 i x h1 hx => ?_, fun g1 h1 => ?_⟩
  · dsimp only; rw [h1]; dsimp only; rw [hx]
  · dsimp only; rw [h1]; dsimp only; rw [List.getElem?_eq_none (Nat.le_refl _)]
theorem mul_lst {n k : Nat} {x : D} {g : G} (h : g[n]? = some (.lst [x])) (hk : k ≤ 1000) : pMul (.ref n) (.int k) g = .ok (.ref g.length) (g ++ [.lst (List.replicate k x)]) := by
  unfold pMul
  dsimp only
  rw [h]
  dsimp only
  have hz : [x].length * (k : Int).toNat ≤ SZ ∧ -(2 ^ 63) ≤ (k : Int) ∧ (k : Int) < 2 ^ 63 := by
    refine ⟨?_, by omega, by omega⟩
    rw [Int.toNat_natCast, List.length_singleton, Nat.one_mul]
    exact Nat.le_of_lt (sz_lt hk)
  rw [if_pos hz, Int.toNat_natCast, List.flatten_replicate_singleton]
theorem comp_newG {src : Src} {ds : List D} {e : ME} {g : G} {σc : S3} {rows' : List (List D)} (ht : src.top = ds.length) (hs : ∀ g1 i, Keeps [] g g1 → src.at' g1 i = some ds[i]?) (hlen : rows'.length = ds.length)
    (he : ∀ (i : Nat) d r, ds[i]? = some d → rows'[i]? = some r → ∀ g1, Keeps [] g g1 → ∃ l g2, e (some d :: σc) g1 = .ok (.ref l) g2 ∧ Keeps [] g1 g2 ∧ g1.length ≤ l ∧ g2[l]? = some (.lst r)) :
    ∃ (ls : List Nat) (g' : G), compL src (gSet 0) mTrue e (src.top + 1) 0 (none :: σc) g [] = .ok (ls.map .ref) g' ∧ Keeps [] g g' ∧ ls.length = rows'.length ∧ ls.Nodup ∧ ∀ (i n : Nat) r, ls[i]? = some n → rows'[i]? = some r → g.length ≤ n ∧ n < g'.length ∧ g'[n]? = some (.lst r) := by
  obtain ⟨xs, σ', g', h1, ls, h2, h3, h4, h5, h6, _⟩ := compL_gen (src := src) (t := gSet 0) (c := mTrue) (e := e) (n := ds.length)
    (fun i σ' g1 acc => ∃ ls : List Nat, acc = ls.map D.ref ∧ ls.length = i ∧ ls.Nodup ∧ Keeps [] g g1 ∧ (∀ (j n : Nat), ls[j]? = some n → g.length ≤ n ∧ n < g1.length ∧ ∀ r, rows'[j]? = some r → g1[n]? = some (.lst r)) ∧ ∃ u, σ' = u :: σc) (fun i σ' g1 acc hi ⟨ls, h1, h2, h3, h4, h5, u, h6⟩ => by
      subst h6
      have hr : rows'[i]? = some (rows'[i]'(by omega)) := by simp [hlen, hi]
      obtain ⟨l, g2, e1, k1, hl, gl⟩ := he i ds[i] _ (by simp [hi]) hr g1 h4
      refine ⟨ds[i], some ds[i] :: σc, g1, by rw [hs g1 i h4]; simp [hi], rfl, .inl ⟨.ref l, g2, rfl, e1, ls ++ [l], by simp [h1], by simp [h2], ?_, h4.trans k1, ?_, _, rfl⟩⟩
      · rw [List.nodup_append]
        refine ⟨h3, by simp, fun a ha b hb => ?_⟩
        obtain ⟨j, hj, rfl⟩ := List.getElem_of_mem ha
        have := (h5 j ls[j] (by simp [hj])).2.1
        have : b = l := by simpa using hb
        omega
      · intro j n hn
        by_cases hj : j < ls.length
        · rw [List.getElem?_append_left hj] at hn
          obtain ⟨q1, q2, q3⟩ := h5 j n hn
          exact ⟨q1, Nat.lt_of_lt_of_le q2 k1.len, fun r hr => k1.at' n _ (by simp) (q3 r hr)⟩
        · have hj' : j = i := by
            have := (List.getElem?_eq_some_iff.mp hn).1
            simp at this; omega
          subst hj'
          rw [List.getElem?_append_right (by omega), h2] at hn
          simp at hn
          subst hn
          exact ⟨Nat.le_trans h4.len hl, get_lt gl, fun r hr' => by rw [hr] at hr'; cases hr'; exact gl⟩) (fun σ g1 acc ⟨ls, h1, h2, h3, h4, _⟩ => by rw [hs g1 _ h4]; simp) (src.top + 1) 0 (none :: σc) g [] (by omega) (by omega) ⟨[], rfl, rfl, .nil, .refl, by simp, none, rfl⟩
  subst h2
  exact ⟨ls, g', h1, h5, by omega, h4, fun i n r hn hr => let ⟨q1, q2, q3⟩ := h6 i n hn; ⟨q1, q2, q3 r hr⟩⟩
theorem scat_skip {α : Type} {p : List Nat} {n : Nat} {f : Nat → α} {z : α} {k : Nat} (h : Nm p n) (hk : k < n) (hf : f k = z) : scat p n f z k = scat p n f z (k + 1) := by
  obtain ⟨x, ex, x1, x2⟩ := h.get hk
  rw [← scat_set h hk ex, hf]
  apply List.ext_getElem?
  intro s
  by_cases e : x = s
  · subst e; rw [List.getElem?_set_self (by rw [scat_len]; exact x1), scat_at x1, x2, if_neg (Nat.lt_irrefl k)]
  · rw [List.getElem?_set_ne e]
noncomputable def Below (N : Nat) (g g' : G) : Prop := ∀ b o, b < N → g[b]? = some o → g'[b]? = some o
theorem Lren_row {N c l lp lq t k x : Nat} {p q : List Nat} {n m : Nat} {row : List D} {T : List (List D)} {x6 x7 : Option D} (g : G) (hp : Nm p n) (hq : Nm q m) (hT : tabD N g c T) (hTn : T.length = n) (gp : g[lp]? = some (.lst (nD p))) (gq : g[lq]? = some (.lst (nD q))) (hlp : lp < N) (hlq : lq < N) (gl : g[l]? = some (.lst row)) (hlN : l < N) (hl : row.length = m) (ho : ∀ d ∈ row, entOk d n m) (hk : k < n) (hx : p[k]? = some x) (hTx : T[x]? = some (List.replicate m .non)) :
    ∃ y6 y7 g', b_L_renamed_l1 [some (.ref t), some (.ref lp), some (.ref lq), some (.ref c), some (.int k), some (.ref l), x6, x7] g = .nx [some (.ref t), some (.ref lp), some (.ref lq), some (.ref c), some (.int k), some (.ref l), y6, y7] g' ∧ g.length ≤ g'.length ∧ Below N g g' ∧ tabD N g' c (T.set x (renRow p q m row)) := by
  obtain ⟨src, s1, s2, s3, s4⟩ := enum_src (seq_ref gl)
  obtain ⟨x', ex', x1, x2⟩ := hp.get hk
  rw [hx] at ex'; cases ex'
  have hxT : x < T.length := by omega
  unfold b_L_renamed_l1
  have hit : mItEnum (mVar 5) [some (.ref t), some (.ref lp), some (.ref lq), some (.ref c), some (.int k), some (.ref l), x6, x7] g = .ok src g := s1
  rw [for_ok hit]
  obtain ⟨σ', g', e, ⟨y6, y7, i1⟩, i2, i3, i4⟩ := for_src (t := gTup3 [gSet 6, gSet 7]) (body := b_L_renamed_l2) s2 (σ := [some (.ref t), some (.ref lp), some (.ref lq), some (.ref c), some (.int k), some (.ref l), x6, x7]) (g := g)
    (fun j σ g1 => (∃ y6 y7, σ = [some (.ref t), some (.ref lp), some (.ref lq), some (.ref c), some (.int k), some (.ref l), y6, y7]) ∧ g.length ≤ g1.length ∧ Below N g g1 ∧ tabD N g1 c (T.set x (scat q m (fun j => renD p q (row.getD j .non)) .non j)))
    ⟨⟨x6, x7, rfl⟩, Nat.le_refl _, fun _ _ _ h => h, by
      rw [scat_zero]
      have : T.set x (List.replicate m .non) = T := by
        apply List.ext_getElem?
        intro s
        by_cases e : x = s
        · subst e; rw [List.getElem?_set_self hxT, hTx]
        · rw [List.getElem?_set_ne e]
      rw [this]; exact hT⟩ (fun j σ g1 hj ⟨⟨y6, y7, i1⟩, i2, i3, i4⟩ => by
      subst i1
      have hjm : j < m := by omega
      have hr : row[j]? = some row[j] := by simp [hj]
      have hd := ho _ (List.mem_of_getElem? hr)
      have gl1 := i3 l _ hlN gl
      have gp1 := i3 lp _ hlp gp
      have gq1 := i3 lq _ hlq gq
      obtain ⟨z, ez, z1, z2⟩ := hq.get hjm
      have hfj : (fun j => renD p q (row.getD j .non)) j = renD p q row[j] := by show renD p q (row.getD j .non) = _; rw [getD_get hj]
      by_cases hnon : row[j] = .non
      · refine ⟨.tup [.int j, row[j]], _, [some (.ref t), some (.ref lp), some (.ref lq), some (.ref c), some (.int k), some (.ref l), some (.int j), some row[j]], g1, s3 g1 j _ (seq_ref gl1) hr, rfl, ?_, ⟨_, _, rfl⟩, i2, i3, ?_⟩
        · show b_L_renamed_l2 [some (.ref t), some (.ref lp), some (.ref lq), some (.ref c), some (.int k), some (.ref l), some (.int j), some row[j]] g1 = _
          rw [hnon]
          exact iff' g1 rfl rfl
        · rw [← scat_skip hq hjm (hfj.trans (by rw [hnon]; rfl))]; exact i4
      · rcases hd with hd | ⟨i', j', w, hd, a1, a2, a3, a4, a5⟩
        · exact absurd hd hnon
        obtain ⟨nn, cs, c1, c2, c3, c4, c5, c6, c7⟩ := i4.set x (by rw [List.length_set]; exact hxT)
        have hrow : (T.set x (scat q m (fun j => renD p q (row.getD j .non)) .non j))[x]'(by rw [List.length_set]; exact hxT) = scat q m (fun j => renD p q (row.getD j .non)) .non j := by simp
        rw [hrow] at c6
        obtain ⟨u, eu, u1, _⟩ := hq.get (show i'.toNat < m by omega)
        obtain ⟨v, ev, v1, _⟩ := hp.get (show j'.toNat < n by omega)
        have er : renD p q row[j] = .tup [.int u, .str w, .int v] := by
          rw [hd]
          show D.tup [.int (q.getD i'.toNat 0 : Nat), .str w, .int (p.getD j'.toNat 0 : Nat)] = _
          rw [getD_of eu, getD_of ev]
        have c7' := c7 ((scat q m (fun j => renD p q (row.getD j .non)) .non j).set z (renD p q row[j]))
        rw [List.set_set] at c7'
        refine ⟨.tup [.int j, row[j]], _, [some (.ref t), some (.ref lp), some (.ref lq), some (.ref c), some (.int k), some (.ref l), some (.int j), some row[j]], g1.set nn (.lst ((scat q m (fun j => renD p q (row.getD j .non)) .non j).set z (renD p q row[j]))), s3 g1 j _ (seq_ref gl1) hr, rfl, ?_, ⟨_, _, rfl⟩, by rw [List.length_set]; exact i2, fun b o hb eb => ?_, ?_⟩
        · show b_L_renamed_l2 [some (.ref t), some (.ref lp), some (.ref lq), some (.ref c), some (.int k), some (.ref l), some (.int j), some row[j]] g1 = _
          unfold b_L_renamed_l2
          refine ift g1 (test_ok (op2_ok (x := row[j]) (y := .non) (g1 := g1) (g2 := g1) rfl rfl (by rw [hd]; rfl))) ?_
          refine setIx_ok (n := nn) (k := z) (y := renD p q row[j]) (g1 := g1) ?_ (op2_ok (x := .ref c) (y := .int x) (g1 := g1) (g2 := g1) rfl (op2_ok (x := .ref lp) (y := .int k) (g1 := g1) (g2 := g1) rfl rfl (ix_nat gp1 (nD_get hx))) (ix_nat c1 c2)) (op2_ok (x := .ref lq) (y := .int j) (g1 := g1) (g2 := g1) rfl rfl (ix_nat gq1 (nD_get ez))) c6 (by rw [scat_len]; exact z1)
          rw [er, hd]
          have ea : (mCons (mOp2 pIx (mVar 2) (mOp2 pIx (mVar 7) (mLit (.int 0)))) (mCons (mOp2 pIx (mVar 7) (mLit (.int 1))) (mCons (mOp2 pIx (mVar 1) (mOp2 pIx (mVar 7) (mLit (.int 2)))) mNil))) [some (.ref t), some (.ref lp), some (.ref lq), some (.ref c), some (.int k), some (.ref l), some (.int j), some (.tup [.int i', .str w, .int j'])] g1 = .ok [.int u, .str w, .int v] g1 :=
            cons_ok (g1 := g1) (op2_ok (x := .ref lq) (y := .int i') (g1 := g1) (g2 := g1) rfl rfl (ix_int gq1 a1 (nD_get eu))) (cons_ok (g1 := g1) rfl (cons_ok (g1 := g1) (op2_ok (x := .ref lp) (y := .int j') (g1 := g1) (g2 := g1) rfl rfl (ix_int gp1 a3 (nD_get ev))) rfl))
          unfold mOpA
          rw [ea, Res.bind_ok]; rfl
        · rw [List.getElem?_set_ne (by omega)]; exact i3 b o hb eb
        · rw [← scat_set hq hjm ez]
          show tabD N _ c (T.set x ((scat q m (fun j => renD p q (row.getD j .non)) .non j).set z (renD p q (row.getD j .non))))
          rw [getD_get hj]; exact c7')
    (fun σ g1 ⟨_, _, i3, _⟩ => s4 g1 (seq_ref (i3 l _ hlN gl)))
  rw [i1] at e
  refine ⟨y6, y7, g', e, i2, i3, ?_⟩
  rw [hl, scat_full hq] at i4
  exact i4
theorem Lren_eq {N t lp lq : Nat} {p q : List Nat} {n m : Nat} {rows : List (List D)} (g : G) (hp : Nm p n) (hq : Nm q m) (hn12 : n ≤ 12) (hm8 : m ≤ 8) (hT : tabOf N g t rows) (gp : g[lp]? = some (.lst (nD p))) (gq : g[lq]? = some (.lst (nD q))) (h1 : rows.length = n) (h2 : ∀ r ∈ rows, r.length = m) (h3 : ∀ r ∈ rows, ∀ d ∈ r, entOk d n m) :
    ∃ c g', f_L_renamed [.ref t, .ref lp, .ref lq] g = .ok (.ref c) g' ∧ Keeps [] g g' ∧ tabOf g.length g' c (renT p q n m rows) := by
  obtain ⟨_, ds, d1, d2, d3⟩ := hT
  have get : ∀ i, (hi : i < rows.length) → ∃ l, ds[i]? = some (.ref l) ∧ g[l]? = some (.lst rows[i]) := fun i hi => by
    obtain ⟨l, e, _, _, q⟩ := d3 i (ds[i]'(by omega)) rows[i] (by simp) (by simp)
    exact ⟨l, by rw [← e]; simp, q⟩
  have htN : t < g.length := get_lt d1
  have hlp : lp < g.length := get_lt gp
  have hlq : lq < g.length := get_lt gq
  obtain ⟨src, s1, s2, s3⟩ := src_of (seq_ref d1)
  obtain ⟨ls, g1, e1, k1, l1, l2, l3⟩ := comp_newG (src := src) (ds := ds) (e := mOp2 pMul (mOpA newL (mCons (mLit .non) mNil)) (mOp1 pLen (mVar 1))) (g := g) (σc := [some (.ref lq)]) (rows' := List.replicate n (List.replicate m D.non)) s2 (fun g1 i k => s3 g1 i (k.seq (seq_ref d1))) (by simp [d2, h1]) (fun i d r hd hr g1 k => by
    have hrr : r = List.replicate m .non := by
      have := List.mem_of_getElem? hr
      exact List.eq_of_mem_replicate this
    subst hrr
    have k2 : Keeps [] g1 (g1 ++ [.lst [.non]]) := .push _
    have gz : (g1 ++ [.lst [.non]])[g1.length]? = some (.lst [.non]) := get_push _
    have en : mOpA newL (mCons (mLit .non) mNil) [some d, some (.ref lq)] g1 = .ok (.ref g1.length) (g1 ++ [.lst [.non]]) := by simp [mOpA, mCons, mLit, mNil, Res.bind, newL, SZ]
    generalize g1 ++ [.lst [.non]] = g2 at k2 gz en
    have gq2 := k2.at' _ _ (by simp) (k.at' _ _ (by simp) gq)
    refine ⟨g2.length, g2 ++ [.lst (List.replicate m .non)], op2_ok (y := .int m) en (op1_ok rfl (by simp [pLen, gq2, nD_len, hq.len])) (mul_lst gz (by omega)), k2.trans (.push _), k2.len, get_push _⟩)
  have ec : mComp (mItSeq (mVar 0)) 1 [2] (gSet 0) mTrue (mOp2 pMul (mOpA newL (mCons (mLit .non) mNil)) (mOp1 pLen (mVar 1))) [some (.ref t), some (.ref lp), some (.ref lq), none, none, none, none, none] g = .ok (.ref g1.length) (g1 ++ [.lst (ls.map D.ref)]) := comp_ok (src := src) (g1 := g) s1 (by rw [s2]; exact Nat.le_of_lt (sz_lt (by omega))) rfl e1
  have kl : Keeps [] g1 (g1 ++ [.lst (ls.map D.ref)]) := .push _
  have hT2 : tabD g.length (g1 ++ [.lst (ls.map D.ref)]) g1.length (List.replicate n (List.replicate m D.non)) := by
    refine ⟨k1.len, ls, get_push _, l1, l2, fun i b r hb hr => ?_⟩
    obtain ⟨q1, q2, q3⟩ := l3 i b r hb hr
    exact ⟨q1, by omega, kl.at' _ _ (by simp) q3⟩
  generalize g1 ++ [.lst (ls.map D.ref)] = g2 at ec kl hT2
  have k02 := k1.trans kl
  have d12 := k02.at' _ _ (by simp) d1
  obtain ⟨src2, t1, t2, t3, t4⟩ := enum_src (seq_ref d12)
  obtain ⟨σ', g', e, ⟨y4, y5, y6, y7, i1⟩, i2, i3, i4⟩ := for_src (t := gTup3 [gSet 4, gSet 5]) (body := b_L_renamed_l1) t2 (σ := [some (.ref t), some (.ref lp), some (.ref lq), some (.ref g1.length), none, none, none, none]) (g := g2)
    (fun k σ g3 => (∃ y4 y5 y6 y7, σ = [some (.ref t), some (.ref lp), some (.ref lq), some (.ref g1.length), y4, y5, y6, y7]) ∧ g2.length ≤ g3.length ∧ Below g.length g2 g3 ∧ tabD g.length g3 g1.length (scat p n (fun k => renRow p q m (rows.getD k [])) (List.replicate m .non) k))
    ⟨⟨none, none, none, none, rfl⟩, Nat.le_refl _, fun _ _ _ h => h, by rw [scat_zero]; exact hT2⟩ (fun k σ g3 hk ⟨⟨y4, y5, y6, y7, i1⟩, i2, i3, i4⟩ => by
      subst i1
      have hkn : k < n := by omega
      obtain ⟨l, el, gl⟩ := get k (by omega)
      have hll : l < g.length := get_lt gl
      have b3 : ∀ b o, g[b]? = some o → g3[b]? = some o := fun b o eb => i3 b o (get_lt eb) (k02.at' b o (by simp) eb)
      obtain ⟨x, ex, x1, x2⟩ := hp.get hkn
      have hm := List.getElem_mem (l := rows) (n := k) (by omega)
      obtain ⟨z6, z7, g4, e4, j1, j2, j3⟩ := Lren_row (t := t) (x6 := y6) (x7 := y7) g3 hp hq i4 (scat_len ..) (b3 _ _ gp) (b3 _ _ gq) hlp hlq (b3 _ _ gl) hll (h2 _ hm) (h3 _ hm) hkn ex (by rw [scat_at x1, x2, if_neg (Nat.lt_irrefl k)])
      refine ⟨.tup [.int k, .ref l], _, _, g4, t3 g3 k _ (seq_ref (b3 _ _ d1)) el, rfl, e4, ⟨_, _, _, _, rfl⟩, Nat.le_trans i2 j1, fun b o hb eb => j2 b o hb (i3 b o hb eb), ?_⟩
      have hf : renRow p q m (rows[k]'(by omega)) = (fun k => renRow p q m (rows.getD k [])) k := by show _ = renRow p q m (rows.getD k []); rw [getD_get (by omega)]
      rw [hf, scat_set hp hkn ex] at j3
      exact j3)
    (fun σ g3 ⟨_, _, i3, _⟩ => t4 g3 (seq_ref (i3 _ _ htN d12)))
  rw [i1] at e
  rw [d2, h1, scat_full hp] at i4
  refine ⟨g1.length, g', def_rt rfl ?_, ⟨Nat.le_trans k02.len i2, fun b o hb eb => i3 b o (get_lt eb) (k02.at' b o hb eb)⟩, i4.tab⟩
  show b_L_renamed [some (.ref t), some (.ref lp), some (.ref lq), none, none, none, none, none] g = _
  unfold b_L_renamed
  exact seq_to _ _ (asg_ok ec) (seq_to _ _ ((for_ok (show mItEnum (mVar 0) [some (.ref t), some (.ref lp), some (.ref lq), some (.ref g1.length), none, none, none, none] g2 = .ok src2 g2 from t1)).trans e) rfl)
theorem Lback_eq {l : Nat} {p : List Nat} {n : Nat} (g : G) (hp : Nm p n) (hn12 : n ≤ 12) (gp : g[l]? = some (.lst (nD p))) :
    ∃ c g', f_L_back [.ref l] g = .ok (.ref c) g' ∧ Keeps [] g g' ∧ g'[c]? = some (.lst (nD (bck p))) := by
  have hl : l < g.length := get_lt gp
  have k1 : Keeps [] g (g ++ [.lst [.int 0]]) := .push _
  have g1z : (g ++ [.lst [.int 0]])[g.length]? = some (.lst [.int 0]) := get_push _
  have en : mOpA newL (mCons (mLit (.int 0)) mNil) [some (.ref l), none, none, none] g = .ok (.ref g.length) (g ++ [.lst [.int 0]]) := by simp [mOpA, mCons, mLit, mNil, Res.bind, newL, SZ]
  generalize g ++ [.lst [.int 0]] = g1 at k1 g1z en
  have gp1 := k1.at' _ _ (by simp) gp
  have s1 : mOp2 pMul (mOpA newL (mCons (mLit (.int 0)) mNil)) (mOp1 pLen (mVar 0)) [some (.ref l), none, none, none] g = .ok (.ref g1.length) (g1 ++ [.lst (List.replicate n (.int 0))]) := op2_ok (y := .int n) en (op1_ok rfl (by simp [pLen, gp1, nD_len, hp.len])) (mul_lst g1z (by omega))
  have k2 : Keeps [] g1 (g1 ++ [.lst (List.replicate n (.int 0))]) := .push _
  have gp2 := k2.at' _ _ (by simp) gp1
  have hl1 : l < g1.length := get_lt gp1
  obtain ⟨src, t1, t2, t3, t4⟩ := enum_src (seq_ref gp2)
  obtain ⟨σ', g', e, ⟨y2, y3, i1⟩, i2⟩ := for_src (t := gTup3 [gSet 2, gSet 3]) (body := b_L_back_l1) t2 (σ := [some (.ref l), some (.ref g1.length), none, none]) (g := g1 ++ [.lst (List.replicate n (.int 0))])
    (fun k σ g3 => (∃ y2 y3, σ = [some (.ref l), some (.ref g1.length), y2, y3]) ∧ g3 = g1 ++ [.lst (scat p n (fun (k : Nat) => D.int (k : Int)) (.int 0) k)]) ⟨⟨none, none, rfl⟩, by rw [scat_zero]⟩ (fun k σ g3 hk ⟨⟨y2, y3, i1⟩, i2⟩ => by
      subst i1 i2
      have hkn : k < n := by rw [nD_len, hp.len] at hk; exact hk
      obtain ⟨x, ex, x1, _⟩ := hp.get hkn
      have gp3 := (Keeps.push (S := []) (g := g1) (.lst (scat p n (fun (k : Nat) => D.int (k : Int)) (.int 0) k))).at' _ _ (by simp) gp1
      refine ⟨.tup [.int k, .int x], _, [some (.ref l), some (.ref g1.length), some (.int k), some (.int x)], _, t3 _ k _ (seq_ref gp3) (nD_get ex), rfl, setIx_ok (n := g1.length) (k := x) (y := .int k) rfl rfl rfl (get_push _) (by rw [scat_len]; exact x1), ⟨_, _, rfl⟩, ?_⟩
      rw [set_push, ← scat_set hp hkn ex])
    (fun σ g3 ⟨_, i2⟩ => by
      subst i2
      exact t4 _ (seq_ref ((Keeps.push (S := []) (g := g1) _).at' _ _ (by simp) gp1)))
  rw [i1, i2, nD_len, hp.len, scat_full hp] at e
  have eb : ((List.range n).map fun s => D.int ((p.idxOf s : Nat) : Int)) = nD (bck p) := by simp [nD, bck, hp.len]
  rw [eb] at e
  refine ⟨g1.length, g1 ++ [.lst (nD (bck p))], def_rt rfl ?_, k1.trans (.push _), get_push _⟩
  show b_L_back [some (.ref l), none, none, none] g = _
  unfold b_L_back
  exact seq_to _ _ (asg_ok s1) (seq_to _ _ ((for_ok (show mItEnum (mVar 0) [some (.ref l), some (.ref g1.length), none, none] (g1 ++ [.lst (List.replicate n (.int 0))]) = .ok src (g1 ++ [.lst (List.replicate n (.int 0))]) from t1)).trans e) rfl)
end L3

end
section
namespace L3
open PySem
noncomputable def Mk (e : ME) (σ : S3) (g : G) (ds : List D) : Prop := ∃ w g', e σ g = .ok (.ref w) g' ∧ Keeps [] g g' ∧ g'[w]? = some (.lst ds)
theorem Mk.add {a b : ME} {σ : S3} {g : G} {xs ys : List D} (ha : Mk a σ g xs) (hb : ∀ g1, Keeps [] g g1 → Mk b σ g1 ys) (hz : xs.length + ys.length ≤ 1000) : Mk (mOp2 pAdd a b) σ g (xs ++ ys) := by
  obtain ⟨w1, g1, e1, k1, h1⟩ := ha
  obtain ⟨w2, g2, e2, k2, h2⟩ := hb g1 k1
  refine ⟨g2.length, g2 ++ [.lst (xs ++ ys)], op2_ok e1 e2 ?_, (k1.trans k2).trans (.push _), get_push _⟩
  have hz : xs.length + ys.length ≤ SZ := Nat.le_of_lt (sz_lt hz)
  unfold pAdd
  dsimp only
  rw [k2.at' _ _ (by simp) h1, h2]
  dsimp only
  rw [if_pos hz]
theorem cut_to {α : Type} (ds : List α) (k : Nat) : cutD ds none (some (k : Int)) = ds.take k := by
  unfold cutD sIxD
  dsimp only
  rw [if_neg (by omega), Int.toNat_natCast, List.drop_zero, Nat.sub_zero]
  by_cases h : k ≤ ds.length
  · rw [Nat.min_eq_left h]
  · rw [Nat.min_eq_right (by omega), List.take_of_length_le (Nat.le_refl _), List.take_of_length_le (by omega)]
theorem cut_from {α : Type} (ds : List α) (k : Nat) : cutD ds (some (k : Int)) none = ds.drop k := by
  unfold cutD sIxD
  dsimp only
  rw [if_neg (by omega), Int.toNat_natCast]
  by_cases h : k ≤ ds.length
  · rw [Nat.min_eq_left h, List.take_of_length_le (by simp)]
  · rw [Nat.min_eq_right (by omega), List.drop_eq_nil_of_le (Nat.le_refl _), List.drop_eq_nil_of_le (by omega)]; simp
theorem Mk.to {v l k : Nat} {e : ME} {σ : S3} {g : G} {ds : List D} (hv : σ[v]? = some (some (.ref l))) (h : g[l]? = some (.lst ds)) (he : e σ g = .ok (.int k) g) : Mk (mSlice (mVar v) mNoPart (mPart e)) σ g (ds.take k) := by
  refine ⟨g.length, g ++ [.lst (ds.take k)], ?_, .push _, get_push _⟩
  unfold mSlice mVar mNoPart mPart
  rw [hv]
  dsimp only
  rw [Res.bind_ok, Res.bind_ok, he, Res.bind_ok]
  dsimp only
  rw [Res.bind_ok]
  unfold pSlice
  dsimp only
  rw [h]
  dsimp only
  rw [cut_to]
theorem Mk.from {v l k : Nat} {e : ME} {σ : S3} {g : G} {ds : List D} (hv : σ[v]? = some (some (.ref l))) (h : g[l]? = some (.lst ds)) (he : e σ g = .ok (.int k) g) : Mk (mSlice (mVar v) (mPart e) mNoPart) σ g (ds.drop k) := by
  refine ⟨g.length, g ++ [.lst (ds.drop k)], ?_, .push _, get_push _⟩
  unfold mSlice mVar mNoPart mPart
  rw [hv]
  dsimp only
  rw [Res.bind_ok, he, Res.bind_ok]
  dsimp only
  rw [Res.bind_ok, Res.bind_ok]
  unfold pSlice
  dsimp only
  rw [h]
  dsimp only
  rw [cut_from]
theorem Mk.var {v l : Nat} {σ : S3} {g : G} {ds : List D} (hv : σ[v]? = some (some (.ref l))) (h : g[l]? = some (.lst ds)) : Mk (mVar v) σ g ds := ⟨l, g, by unfold mVar; rw [hv], .refl, h⟩
theorem Mk.one {a : ME} {σ : S3} {g : G} {d : D} (h : a σ g = .ok d g) : Mk (mOpA newL (mCons a mNil)) σ g [d] :=
  ⟨g.length, g ++ [.lst [d]], by unfold mOpA; rw [cons_ok (xs := []) (g2 := g) h rfl, Res.bind_ok]; exact if_pos (Nat.le_of_lt (sz_lt (by simp))), .push _, get_push _⟩
theorem Mk.mul {a b : ME} {σ : S3} {g : G} {x : D} {k : Nat} (ha : Mk a σ g [x]) (hb : ∀ g1, Keeps [] g g1 → b σ g1 = .ok (.int k) g1) (hk : k ≤ 1000) : Mk (mOp2 pMul a b) σ g (List.replicate k x) := by
  obtain ⟨w1, g1, e1, k1, h1⟩ := ha
  exact ⟨g1.length, g1 ++ [.lst (List.replicate k x)], op2_ok e1 (hb g1 k1) (mul_lst h1 hk), k1.trans (.push _), get_push _⟩
noncomputable def NmD (ds : List D) (n : Nat) : Prop := ∃ ns : List Int, ds = ns.map D.int ∧ ns.Perm (rngZ n) ∧ ns[0]? = some 0
theorem NmD.len {ds : List D} {n : Nat} (h : NmD ds n) : ds.length = n := by
  obtain ⟨ns, rfl, hp, _⟩ := h
  rw [List.length_map, hp.length_eq]; simp [rngZ]
theorem NmD.mem {ds : List D} {n : Nat} (h : NmD ds n) {d : D} (hd : d ∈ ds) : ∃ i : Nat, i < n ∧ d = .int i := by
  obtain ⟨ns, rfl, hp, _⟩ := h
  obtain ⟨z, hz, rfl⟩ := List.mem_map.mp hd
  obtain ⟨i, hi, rfl⟩ := List.mem_map.mp (hp.mem_iff.mp hz)
  exact ⟨i, List.mem_range.mp hi, rfl⟩
theorem NmD.zero {ds : List D} {n : Nat} (h : NmD ds n) : ds[0]? = some (.int 0) := by
  obtain ⟨ns, rfl, _, h0⟩ := h
  rw [List.getElem?_map, h0]; rfl
theorem NmD.dup {ds : List D} {n : Nat} (h : NmD ds n) {i j : Nat} {d : D} (hij : i < j) (hi : ds[i]? = some d) (hj : ds[j]? = some d) : False := by
  obtain ⟨ns, rfl, hp, _⟩ := h
  have hn : ns.Nodup := hp.nodup_iff.mpr (by
    unfold rngZ
    rw [List.nodup_iff_pairwise_ne, List.pairwise_map]
    exact (List.pairwise_lt_range (n := n)).imp fun h => by omega)
  rw [List.getElem?_map] at hi hj
  cases ei : ns[i]? with
  | none => rw [ei] at hi; cases hi
  | some x =>
    cases ej : ns[j]? with
    | none => rw [ej] at hj; cases hj
    | some y =>
      rw [ei] at hi; rw [ej] at hj
      cases hi
      cases hj
      obtain ⟨hi', e1⟩ := List.getElem?_eq_some_iff.mp ei
      obtain ⟨hj', e2⟩ := List.getElem?_eq_some_iff.mp ej
      exact List.pairwise_iff_getElem.mp (List.nodup_iff_pairwise_ne.mp hn) i j hi' hj' hij (by rw [e1, e2])
noncomputable def oneD : D → D
  | .int i => if i = 1 then .bl true else .int i
  | d => d
theorem wrong_eq {l : Nat} {p : List Nat} {n : Nat} {mm : Int} (g : G) (hp : Nm p n) (hn12 : n ≤ 12) (gp : g[l]? = some (.lst (nD p))) :
    ∃ w g' ds, f_L_wrong [.int mm, .ref l] g = .ok (.ref w) g' ∧ Keeps [] g g' ∧ g'[w]? = some (.lst ds) ∧ (∀ d ∈ ds, plainD d = true) ∧ ds.length ≤ 60 ∧ ¬ NmD ds n := by
  have hpos := hp.pos
  have hlen : (nD p).length = n := by rw [nD_len, hp.len]
  obtain ⟨sp, esp, hsp⟩ : ∃ sp : Nat, mm / 7 % n = sp ∧ sp < n := by
    have h1 : 0 ≤ mm / 7 % (n : Int) := Int.emod_nonneg _ (by omega)
    have h2 : mm / 7 % (n : Int) < n := Int.emod_lt_of_pos _ (by omega)
    exact ⟨(mm / 7 % n).toNat, by omega, by omega⟩
  have T : ∀ y : Int, mTest (mOp2 pEq (mOp2 pMod (mVar 0) (mLit (.int 7))) (mLit (.int y))) [some (.int mm), some (.ref l), some (.int n), some (.int sp)] g = .ok (mm % 7 == y) g := fun y => test_ok (op2_ok (x := .int (mm % 7)) (g1 := g) (g2 := g) (op2_ok rfl rfl (modP (by decide))) rfl rfl)
  have T1 : ∀ y : Int, mAndT (mTest (mOp2 pEq (mOp2 pMod (mVar 0) (mLit (.int 7))) (mLit (.int y)))) (mTest (mOp2 pGt (mVar 2) (mLit (.int 1)))) [some (.int mm), some (.ref l), some (.int n), some (.int sp)] g = .ok (mm % 7 == y && decide (1 < (n : Int))) g := fun y => by
    unfold mAndT
    rw [T y, Res.bind_ok]
    cases mm % 7 == y <;> rfl
  have s1 : mAsg (gSet 2) (mOp1 pLen (mVar 1)) [some (.int mm), some (.ref l), none, none] g = .nx [some (.int mm), some (.ref l), some (.int n), none] g := asg_ok (op1_ok rfl (by simp [pLen, gp, hlen]))
  have s2 : mAsg (gSet 3) (mOp2 pMod (mOp2 pFdiv (mVar 0) (mLit (.int 7))) (mVar 2)) [some (.int mm), some (.ref l), some (.int n), none] g = .nx [some (.int mm), some (.ref l), some (.int n), some (.int sp)] g := asg_ok (op2_ok (x := .int (mm / 7)) (g1 := g) (g2 := g) (op2_ok rfl rfl (divP (by decide) (by decide))) rfl (by rw [modP (by omega), esp]))
  have pl : ∀ d ∈ nD p, plainD d = true := nD_plain p
  have pint : ∀ (ds : List D), (∀ d ∈ ds, ∃ i, d = D.int i) → ∀ d ∈ ds, plainD d = true := fun ds h d hd => by obtain ⟨i, rfl⟩ := h d hd; rfl
  have allI : ∀ d ∈ nD p, ∃ i, d = D.int i := fun d hd => by obtain ⟨i, _, rfl⟩ := List.mem_map.mp hd; exact ⟨_, rfl⟩
  -- a thing put in the place of one
  have mid : ∀ x : Int, (¬ ∃ i : Nat, i < n ∧ x = i) → ∀ a : ME, (∀ g1, a [some (.int mm), some (.ref l), some (.int n), some (.int sp)] g1 = .ok (.int x) g1) → ∃ w g', mOp2 pAdd (mOp2 pAdd (mSlice (mVar 1) mNoPart (mPart (mVar 3))) (mOpA newL (mCons a mNil))) (mSlice (mVar 1) (mPart (mOp2 pAdd (mVar 3) (mLit (.int 1)))) mNoPart) [some (.int mm), some (.ref l), some (.int n), some (.int sp)] g = .ok (.ref w) g' ∧ Keeps [] g g' ∧ g'[w]? = some (.lst ((nD p).take sp ++ [.int x] ++ (nD p).drop (sp + 1))) ∧ (∀ d ∈ (nD p).take sp ++ [D.int x] ++ (nD p).drop (sp + 1), plainD d = true) ∧ ((nD p).take sp ++ [D.int x] ++ (nD p).drop (sp + 1)).length ≤ 60 ∧ ¬ NmD ((nD p).take sp ++ [D.int x] ++ (nD p).drop (sp + 1)) n := fun x hx a ha => by
    obtain ⟨w, g', h, k, hw⟩ := Mk.add (Mk.add (Mk.to (v := 1) (k := sp) (e := mVar 3) (σ := [some (.int mm), some (.ref l), some (.int n), some (.int sp)]) rfl gp rfl) (fun g1 _ => Mk.one (ha g1)) (by simp; omega)) (fun g1 k1 => Mk.from (v := 1) (k := sp + 1) (e := mOp2 pAdd (mVar 3) (mLit (.int 1))) (σ := [some (.int mm), some (.ref l), some (.int n), some (.int sp)]) rfl (k1.at' _ _ (by simp) gp) rfl) (by simp; omega)
    refine ⟨w, g', h, k, hw, pint _ fun d hd => ?_, by simp; omega, fun hN => hx ?_⟩
    · rcases List.mem_append.mp hd with z | z
      · rcases List.mem_append.mp z with z | z
        · exact allI d (List.mem_of_mem_take z)
        · exact ⟨x, List.mem_singleton.mp z⟩
      · exact allI d (List.mem_of_mem_drop z)
    · obtain ⟨i, hi, e⟩ := hN.mem (d := .int x) (by simp)
      cases e
      exact ⟨i, hi, rfl⟩
  have open' : ∀ w g', (mSeq (mIf (mTest (mOp2 pEq (mOp2 pMod (mVar 0) (mLit (.int 7))) (mLit (.int 0)))) (mRet (mOp2 pAdd (mVar 1) (mOpA newL (mCons (mVar 2) mNil)))) mSkip)
  (mSeq (mIf (mTest (mOp2 pEq (mOp2 pMod (mVar 0) (mLit (.int 7))) (mLit (.int 1)))) (mRet (mSlice (mVar 1) mNoPart (mPart (mOp2 pSub (mVar 2) (mLit (.int 1)))))) mSkip)
  (mSeq (mIf (mAndT (mTest (mOp2 pEq (mOp2 pMod (mVar 0) (mLit (.int 7))) (mLit (.int 2)))) (mTest (mOp2 pGt (mVar 2) (mLit (.int 1))))) (mRet (mOp2 pAdd (mOp2 pAdd (mSlice (mVar 1) mNoPart (mPart (mLit (.int 1)))) (mOp2 pMul (mOpA newL (mCons (mOp2 pIx (mVar 1) (mLit (.int 1))) mNil)) (mOp2 pSub (mVar 2) (mLit (.int 1))))) (mOp2 pMul (mOpA newL (mCons (mOp2 pIx (mVar 1) (mLit (.int 1))) mNil)) (mOp1 pInt (mOp2 pEq (mVar 2) (mLit (.int 2))))))) mSkip)
  (mSeq (mIf (mTest (mOp2 pEq (mOp2 pMod (mVar 0) (mLit (.int 7))) (mLit (.int 3)))) (mRet (mOp2 pAdd (mOp2 pAdd (mSlice (mVar 1) mNoPart (mPart (mVar 3))) (mOpA newL (mCons (mVar 2) mNil))) (mSlice (mVar 1) (mPart (mOp2 pAdd (mVar 3) (mLit (.int 1)))) mNoPart))) mSkip)
  (mSeq (mIf (mAndT (mTest (mOp2 pEq (mOp2 pMod (mVar 0) (mLit (.int 7))) (mLit (.int 4)))) (mTest (mOp2 pGt (mVar 2) (mLit (.int 1))))) (mRet (mOp2 pAdd (mSlice (mVar 1) (mPart (mLit (.int 1))) mNoPart) (mSlice (mVar 1) mNoPart (mPart (mLit (.int 1)))))) mSkip)
  (mSeq (mIf (mAndT (mTest (mOp2 pEq (mOp2 pMod (mVar 0) (mLit (.int 7))) (mLit (.int 5)))) (mTest (mOp2 pGt (mVar 2) (mLit (.int 1))))) (mRet (mComp (mItSeq (mVar 1)) 1 [] (gSet 0) mTrue (mIfE (mTest (mOp2 pEq (mVar 0) (mLit (.int 1)))) (mLit (.bl true)) (mVar 0)))) mSkip)
  (mRet (mOp2 pAdd (mOp2 pAdd (mSlice (mVar 1) mNoPart (mPart (mVar 3))) (mOpA newL (mCons (mOp1 pNeg (mLit (.int 1))) mNil))) (mSlice (mVar 1) (mPart (mOp2 pAdd (mVar 3) (mLit (.int 1)))) mNoPart))))))))) [some (.int mm), some (.ref l), some (.int n), some (.int sp)] g = .rt (.ref w) g' → f_L_wrong [.int mm, .ref l] g = .ok (.ref w) g' := fun w g' h => by
    refine def_rt rfl ?_
    show b_L_wrong [some (.int mm), some (.ref l), none, none] g = _
    unfold b_L_wrong
    exact seq_to _ _ s1 (seq_to _ _ s2 h)
  by_cases q0 : mm % 7 = 0
  · obtain ⟨w, g', h, k, hw⟩ := Mk.add (Mk.var (v := 1) (σ := [some (.int mm), some (.ref l), some (.int n), some (.int sp)]) rfl gp) (fun g1 _ => Mk.one (a := mVar 2) (d := .int n) rfl) (by simp; omega)
    refine ⟨w, g', _, open' w g' (seq_rt (ift g ((T 0).trans (by simp [q0])) (ret_ok h))), k, hw, pint _ fun d hd => ?_, by simp; omega, fun h => by have := h.len; simp at this; omega⟩
    rcases List.mem_append.mp hd with z | z
    · exact allI d z
    · exact ⟨_, List.mem_singleton.mp z⟩
  have f0 := fun R => iff' (a := mRet (mOp2 pAdd (mVar 1) (mOpA newL (mCons (mVar 2) mNil)))) (b := mSkip) (R := R) g ((T 0).trans (by simp [q0]))
  by_cases q1 : mm % 7 = 1
  · obtain ⟨w, g', h, k, hw⟩ := Mk.to (v := 1) (k := n - 1) (e := mOp2 pSub (mVar 2) (mLit (.int 1))) (σ := [some (.int mm), some (.ref l), some (.int n), some (.int sp)]) rfl gp (op2_ok (x := .int n) (y := .int 1) (g1 := g) (g2 := g) rfl rfl (by show Res.ok (D.int ((n : Int) - 1)) g = _; rw [show ((n - 1 : Nat) : Int) = (n : Int) - 1 by omega]))
    refine ⟨w, g', _, open' w g' (seq_to _ g (f0 _ rfl) (seq_rt (ift g ((T 1).trans (by simp [q1])) (ret_ok h)))), k, hw, pint _ fun d hd => allI d (List.mem_of_mem_take hd), by simp; omega, fun h => by have := h.len; simp at this; omega⟩
  by_cases q2 : mm % 7 = 2 ∧ 1 < n
  · obtain ⟨x, ex, x1, _⟩ := hp.get (show 1 < n from q2.2)
    have i1 : ∀ g1, Keeps [] g g1 → mOp2 pIx (mVar 1) (mLit (.int 1)) [some (.int mm), some (.ref l), some (.int n), some (.int sp)] g1 = .ok (.int x) g1 := fun g1 k1 => op2_ok (x := .ref l) (y := .int 1) (g1 := g1) (g2 := g1) rfl rfl (ix_nat (p := 1) (k1.at' _ _ (by simp) gp) (nD_get ex))
    obtain ⟨w, g', h, k, hw⟩ := Mk.add (Mk.add (Mk.to (v := 1) (k := 1) (e := mLit (.int 1)) (σ := [some (.int mm), some (.ref l), some (.int n), some (.int sp)]) rfl gp rfl) (fun g1 k1 => Mk.mul (b := mOp2 pSub (mVar 2) (mLit (.int 1))) (k := n - 1) (Mk.one (i1 g1 k1)) (fun g2 _ => op2_ok (x := .int n) (y := .int 1) (g1 := g2) (g2 := g2) rfl rfl (by show Res.ok (D.int ((n : Int) - 1)) g2 = _; rw [show ((n - 1 : Nat) : Int) = (n : Int) - 1 by omega])) (by omega)) (by simp; omega))
      (fun g1 k1 => Mk.mul (b := mOp1 pInt (mOp2 pEq (mVar 2) (mLit (.int 2)))) (k := if n = 2 then 1 else 0) (Mk.one (i1 g1 k1)) (fun g2 _ => op1_ok (x := .bl (decide ((n : Int) = 2))) (g1 := g2) rfl (by
        by_cases e : n = 2
        · rw [if_pos e, decide_eq_true (by omega)]; rfl
        · rw [if_neg e, decide_eq_false (by omega)]; rfl)) (by split <;> omega)) (by simp; split <;> omega)
    refine ⟨w, g', _, open' w g' (seq_to _ g (f0 _ rfl) (seq_to _ g (iff' g ((T 1).trans (by simp [q1])) rfl) (seq_rt (ift g ((T1 2).trans (by simp [q2]; omega)) (ret_ok h))))), k, hw, pint _ fun d hd => ?_, by simp; split <;> omega, fun hN => ?_⟩
    · rcases List.mem_append.mp hd with z | z
      · rcases List.mem_append.mp z with z | z
        · exact allI d (List.mem_of_mem_take z)
        · exact ⟨_, List.eq_of_mem_replicate z⟩
      · exact ⟨_, List.eq_of_mem_replicate z⟩
    · by_cases e : n = 2
      · have := hN.len
        simp only [List.length_append, List.length_take, List.length_replicate, hlen, if_pos e] at this
        omega
      · refine hN.dup (i := 1) (j := 2) (d := .int x) (by omega) ?_ ?_
        · rw [List.append_assoc, List.getElem?_append_right (by rw [List.length_take, hlen]; omega), List.getElem?_append_left (by rw [List.length_take, hlen, List.length_replicate]; omega), List.getElem?_replicate, if_pos (by rw [List.length_take, hlen]; omega)]
        · rw [List.append_assoc, List.getElem?_append_right (by rw [List.length_take, hlen]; omega), List.getElem?_append_left (by rw [List.length_take, hlen, List.length_replicate]; omega), List.getElem?_replicate, if_pos (by rw [List.length_take, hlen]; omega)]
  have f1 := iff' (a := mRet (mSlice (mVar 1) mNoPart (mPart (mOp2 pSub (mVar 2) (mLit (.int 1)))))) (b := mSkip) (R := .nx [some (.int mm), some (.ref l), some (.int n), some (.int sp)] g) g ((T 1).trans (by simp [q1])) rfl
  have t2 := (T1 2).trans (show _ = Res.ok false g by simp; omega)
  by_cases q3 : mm % 7 = 3
  · obtain ⟨w, g', h, k, hw, a, b, c⟩ := mid n (fun ⟨i, hi, e⟩ => by omega) (mVar 2) (fun _ => rfl)
    exact ⟨w, g', _, open' w g' (seq_to _ g (f0 _ rfl) (seq_to _ g f1 (seq_to _ g (iff' g t2 rfl) (seq_rt (ift g ((T 3).trans (by simp [q3])) (ret_ok h)))))), k, hw, a, b, c⟩
  by_cases q4 : mm % 7 = 4 ∧ 1 < n
  · obtain ⟨x, ex, x1, x2⟩ := hp.get (show 1 < n from q4.2)
    obtain ⟨w, g', h, k, hw⟩ := Mk.add (Mk.from (v := 1) (k := 1) (e := mLit (.int 1)) (σ := [some (.int mm), some (.ref l), some (.int n), some (.int sp)]) rfl gp rfl) (fun g1 k1 => Mk.to (v := 1) (k := 1) (e := mLit (.int 1)) (σ := [some (.int mm), some (.ref l), some (.int n), some (.int sp)]) rfl (k1.at' _ _ (by simp) gp) rfl) (by simp; omega)
    refine ⟨w, g', _, open' w g' (seq_to _ g (f0 _ rfl) (seq_to _ g f1 (seq_to _ g (iff' g t2 rfl) (seq_to _ g (iff' g ((T 3).trans (by simp [q3])) rfl) (seq_rt (ift g ((T1 4).trans (by simp [q4]; omega)) (ret_ok h))))))), k, hw, pint _ fun d hd => ?_, by simp; omega, fun hN => ?_⟩
    · rcases List.mem_append.mp hd with z | z
      · exact allI d (List.mem_of_mem_drop z)
      · exact allI d (List.mem_of_mem_take z)
    · have := hN.zero
      rw [List.getElem?_append_left (by simp; omega), List.getElem?_drop, nD_get (x := x) (by simpa using ex)] at this
      have hx0 : x = 0 := by
        have := Option.some.inj this
        injection this with this
        omega
      subst hx0
      obtain ⟨y, ey, _, y2⟩ := hp.get hpos
      rw [hp.zero] at ey; cases ey
      omega
  have t4 := (T1 4).trans (show _ = Res.ok false g by simp; omega)
  by_cases q5 : mm % 7 = 5 ∧ 1 < n
  · have hq := seq_ref gp
    obtain ⟨src, u1, u2, u3⟩ := src_of hq
    have ec := comp_ok (it := mItSeq (mVar 1)) (n := 1) (cap := []) (t := gSet 0) (c := mTrue) (e := mIfE (mTest (mOp2 pEq (mVar 0) (mLit (.int 1)))) (mLit (.bl true)) (mVar 0)) (σ := [some (.int mm), some (.ref l), some (.int n), some (.int sp)]) (src := src) (g := g) (g1 := g) (g2 := g) (ds := (nD p).map oneD) u1 (by rw [u2]; exact Nat.le_of_lt (sz_lt (by omega))) (σ0 := [none]) rfl (comp_pure u2 (fun i => u3 g i hq) fun d hd => by
      obtain ⟨i, rfl⟩ := allI d hd
      unfold mIfE
      have : mTest (mOp2 pEq (mVar 0) (mLit (.int 1))) [some (D.int i)] g = .ok (decide (i = 1)) g := rfl
      rw [this, Res.bind_ok]
      by_cases e : i = 1
      · rw [decide_eq_true e, e]; rfl
      · rw [decide_eq_false e, show oneD (.int i) = .int i from if_neg e]; rfl)
    refine ⟨g.length, g ++ [.lst ((nD p).map oneD)], _, open' _ _ (seq_to _ g (f0 _ rfl) (seq_to _ g f1 (seq_to _ g (iff' g t2 rfl) (seq_to _ g (iff' g ((T 3).trans (by simp [q3])) rfl) (seq_to _ g (iff' g t4 rfl) (seq_rt (ift g ((T1 5).trans (by simp [q5]; omega)) (ret_ok ec)))))))), .push _, get_push _, fun d hd => ?_, by simp; omega, fun hN => ?_⟩
    · obtain ⟨y, hy, rfl⟩ := List.mem_map.mp hd
      obtain ⟨i, rfl⟩ := allI y hy
      by_cases e : i = 1
      · rw [show oneD (.int i) = .bl true from if_pos e]; rfl
      · rw [show oneD (.int i) = .int i from if_neg e]; rfl
    · obtain ⟨i, _, e⟩ := hN.mem (d := .bl true) (List.mem_map.mpr ⟨.int 1, List.mem_map.mpr ⟨1, hp.mem q5.2, rfl⟩, rfl⟩)
      cases e
  have t5 := (T1 5).trans (show _ = Res.ok false g by simp; omega)
  obtain ⟨w, g', h, k, hw, a, b, c⟩ := mid (-1) (fun ⟨i, hi, e⟩ => by omega) (mOp1 pNeg (mLit (.int 1))) (fun _ => rfl)
  exact ⟨w, g', _, open' w g' (seq_to _ g (f0 _ rfl) (seq_to _ g f1 (seq_to _ g (iff' g t2 rfl) (seq_to _ g (iff' g ((T 3).trans (by simp [q3])) rfl) (seq_to _ g (iff' g t4 rfl) (seq_to _ g (iff' g t5 rfl) (ret_ok h))))))), k, hw, a, b, c⟩
end L3

end
section
namespace L3
open PySem
theorem refused_eq {M lp lq : Nat} {g g1 : G} (e1 : f_renamed [.ref M, .ref lp, .ref lq] g = .raise (2, none) g1) (k1 : Keeps [] g g1) :
    ∃ g', f_L_refused [.ref M, .ref lp, .ref lq] g = .ok (.bl true) g' ∧ Keeps [] g g' := by
  have ge : (g1 ++ [.exc (2, none)])[g1.length]? = some (.exc (2, none)) := get_push _
  have k2 : Keeps [] g (g1 ++ [.exc (2, none)]) := k1.trans (.push _)
  have s2 : ∀ hs : MS, hs = mAsg (gSet 3) (mVar 4) → mTry (mExpr (mCall f_renamed (mCons (mVar 0) (mCons (mVar 1) (mCons (mVar 2) mNil))))) [⟨[0, 1, 2, 3, 4, 5, 6, 7, 8, 9, 10], [], some 4, hs⟩] [some (.ref M), some (.ref lp), some (.ref lq), some .non, none] g = .nx [some (.ref M), some (.ref lp), some (.ref lq), some (.ref g1.length), none] (g1 ++ [.exc (2, none)]) := by
    intro hs hh
    subst hh
    have : mExpr (mCall f_renamed (mCons (mVar 0) (mCons (mVar 1) (mCons (mVar 2) mNil)))) [some (.ref M), some (.ref lp), some (.ref lq), some .non, none] g = .raise (2, none) [some (.ref M), some (.ref lp), some (.ref lq), some .non, none] g1 := by
      unfold mExpr
      rw [call_ok (ds := [.ref M, .ref lp, .ref lq]) (g' := g) rfl, e1]
    unfold mTry
    rw [this]
    rfl
  generalize g1 ++ [.exc (2, none)] = g2 at ge k2 s2
  have X : ∀ cs : List Nat, mTest (mOp1 (pIsinX [0, 1, 2, 3, 4, 5, 6, 7, 8, 9, 10] cs) (mVar 3)) [some (.ref M), some (.ref lp), some (.ref lq), some (.ref g1.length), none] g2 = .ok (decide (2 ∈ cs)) g2 := fun cs => by
    simp [mTest, mOp1, mVar, Res.bind, pIsinX, ge]
  have X' : ∀ cs : List Nat, mOp1 (pIsinX [0, 1, 2, 3, 4, 5, 6, 7, 8, 9, 10] cs) (mVar 3) [some (.ref M), some (.ref lp), some (.ref lq), some (.ref g1.length), none] g2 = .ok (.bl (decide (2 ∈ cs))) g2 := fun cs => by
    simp [mOp1, mVar, Res.bind, pIsinX, ge]
  refine ⟨g2, def_rt rfl ?_, k2⟩
  show b_L_refused [some (.ref M), some (.ref lp), some (.ref lq), none, none] g = _
  unfold b_L_refused
  refine seq_to [some (.ref M), some (.ref lp), some (.ref lq), some .non, none] g rfl (seq_to _ _ (s2 _ rfl) (seq_to [some (.ref M), some (.ref lp), some (.ref lq), some (.ref g1.length), none] g2 (iff' g2 ?_ rfl) (seq_to [some (.ref M), some (.ref lp), some (.ref lq), some (.ref g1.length), none] g2 (iff' g2 ?_ rfl) (seq_to [some (.ref M), some (.ref lp), some (.ref lq), some (.ref g1.length), none] g2 (iff' g2 ?_ rfl) (ret_ok ?_)))))
  · have : mTest (mOp2 pIs (mVar 3) (mLit .non)) [some (.ref M), some (.ref lp), some (.ref lq), some (.ref g1.length), none] g2 = .ok false g2 := rfl
    simp [mOrT, this, Res.bind, X]
  · simp [mOrT, Res.bind, X]
  · simp [mOrT, Res.bind, X]
  · simp [mAnd, Res.bind, X']
theorem attr_of {M : Nat} {rows : List (List D)} {σ : S3} {g g' : G} {o : ME} (ho : o σ g = .ok (.ref M) g') (h : g'[M]? = some (machO rows)) : mAttr [11] (Str.ofString "table") o σ g = .ok (.tup (rows.map .tup)) g' := by
  unfold mAttr mOp1
  rw [ho, Res.bind_ok]
  dsimp only
  rw [h]
  simp [machO]
theorem lol_pair {a b : Nat} {g : G} {ns ms : List Int} (ha : g[a]? = some (.lst (ns.map D.int))) (hb : g[b]? = some (.lst (ms.map D.int))) : lolD g [.ref a, .ref b] = some [ns, ms] := by
  unfold lolD
  rw [ha]
  dsimp only
  unfold lolD
  rw [hb]
  dsimp only
  unfold lolD
  rw [intsD_of, intsD_of]
theorem ne_pair {x y a b c d : Nat} {g : G} {ns ms : List Int} (hx : g[x]? = some (.lst [.ref a, .ref b])) (hy : g[y]? = some (.lst [.ref c, .ref d])) (ha : g[a]? = some (.lst (ns.map D.int))) (hc : g[c]? = some (.lst (ns.map D.int))) (hb : g[b]? = some (.lst (ms.map D.int))) (hd : g[d]? = some (.lst (ms.map D.int))) : pNeLL (.ref x) (.ref y) g = .ok (.bl false) g := by
  unfold pNeLL
  dsimp only
  rw [hx, hy]
  dsimp only
  rw [lol_pair ha hb, lol_pair hc hd]
  simp
theorem small_nat (q : Int) (k : Int) (hk : 0 < k) (hk2 : k ≤ 12) : ∃ n : Nat, (1 + q % k : Int) = n ∧ 0 < n ∧ (n : Int) ≤ k := by
  have h1 := Int.emod_nonneg q (show k ≠ 0 by omega)
  have h2 := Int.emod_lt_of_pos q hk
  exact ⟨(1 + q % k).toNat, by omega, by omega, by omega⟩
set_option maxHeartbeats 8000000 in
theorem turn (ns : List Int) (a : Nat) (k : Int) (x2 x3 x4 x5 x6 x7 x8 x9 : Option D) (g : G) (ga : g[a]? = some (.lst [.int k])) (hk : 0 ≤ k) (hk2 : k < 800000000) :
    ∃ y3 y4 y5 y6 y7 y8 y9 g' k', b_law_l1 [some (.fl (ns.map .int)), some (.ref a), x2, x3, x4, x5, x6, x7, x8, x9] g = .nx [some (.fl (ns.map .int)), some (.ref a), x2, y3, y4, y5, y6, y7, y8, y9] g' ∧ g'[a]? = some (.lst [.int k']) ∧ k ≤ k' ∧ k' ≤ k + 100 := by
  obtain ⟨q, q0, q1, e1⟩ := next_eq ns a k g ga hk (by omega)
  have ga1 : (g.set a (.lst [.int (k + 1)]))[a]? = some (.lst [.int (k + 1)]) := get_set ga
  generalize g.set a (.lst [.int (k + 1)]) = g1 at e1 ga1
  have hal : a < g1.length := get_lt ga1
  obtain ⟨n, en, hn, hn5⟩ := small_nat q 5 (by decide) (by decide)
  obtain ⟨m, em, hm, hm4⟩ := small_nat (q / 5) 4 (by decide) (by decide)
  obtain ⟨rows, g2, e2, k2, ga2, hT2, h1, h2, h3⟩ := table_eq ns a (k + 1) n m g1 hn hm (by omega) (by omega) ga1 (by omega) (by omega)
  have hnm : (n : Int) * m ≤ 20 := by
    have : n * m ≤ 5 * 4 := Nat.mul_le_mul (by omega) (by omega)
    exact_mod_cast this
  have hnm0 : (0 : Int) ≤ (n : Int) * m := Int.mul_nonneg (by omega) (by omega)
  have hgood := entOk.good hn hm h1 h2 h3
  -- Machine
  obtain ⟨g3, k3, e3, hM3⟩ := make_eq (.ref g1.length) rows g2 hT2.rows (fun r hr => Nat.le_of_lt (sz_lt (by have := h2 r hr; omega))) (Nat.le_of_lt (sz_lt (by omega))) (fun r hr d hd => (h3 r hr d hd).thing) (mCons (mVar 4) mNil) [some (.fl (ns.map .int)), some (.ref a), x2, some (.int q), some (.ref g1.length), x5, x6, x7, x8, x9] g2 rfl
  rw [if_pos hgood] at e3
  have hM3 := hM3 hgood
  have hT3 := hT2.mono k3 (by simp)
  have ga3 := k3.at' _ _ (by simp) ga2
  generalize hMd : g2.length = M at e3 hM3
  -- the orders
  obtain ⟨_, ds, d1, d2, d3⟩ := id hT3
  obtain ⟨l0, el0, _, _, gl0⟩ := d3 0 (ds[0]'(by omega)) (rows[0]'(by omega)) (by simp) (by simp)
  have hl0 : (rows[0]'(by omega)).length = m := h2 _ (List.getElem_mem _)
  obtain ⟨p, lp, g4, k4, e4, kk4, ga4, p1, p2, hp, gp4, _⟩ := order_eq ns a n (k + 1 + n * m) g3 hn (by omega) ga3 (by omega) (by omega)
  have aN : ∀ b ∈ [a], b < g1.length := fun b hb => by rw [List.mem_singleton.mp hb]; exact hal
  have hT4 := hT3.mono kk4 aN
  have hM4 : g4[M]? = some (machO rows) := kk4.at' _ _ (by
    have : g2.length ≥ g1.length := k2.len
    simp; omega) hM3
  obtain ⟨_, ds4, d14, d24, d34⟩ := id hT4
  obtain ⟨l04, el04, _, _, gl04⟩ := d34 0 (ds4[0]'(by omega)) (rows[0]'(by omega)) (by simp) (by simp)
  obtain ⟨p', lq, g5, k5, e5, kk5, ga5, p3, p4, hq, gq5, _⟩ := order_eq ns a m k4 g4 hm (by omega) ga4 (by omega) (by omega)
  have hT5 := hT4.mono kk5 aN
  have hMa : M ≠ a := by
    have : g2.length ≥ g1.length := k2.len
    omega
  have hM5 : g5[M]? = some (machO rows) := kk5.at' _ _ (by simpa using hMa) hM4
  have hlpa : lp ≠ a := fun z => by
    rw [z, ga4] at gp4
    injection gp4 with gp4
    injection gp4 with gp4
    have hl := hp.len
    have : (nD p).length = 1 := by rw [← gp4]; rfl
    rw [nD_len] at this
    have : a < g3.length := get_lt ga3
    omega
  have gp5 : g5[lp]? = some (.lst (nD p)) := kk5.at' _ _ (by simpa using hlpa) gp4
  -- handed
  have k6 : Keeps [] g5 (g5 ++ [.lst (nD p)] ++ [.lst (nD p')]) := (Keeps.push _).trans (.push _)
  have gh6a : (g5 ++ [.lst (nD p)] ++ [.lst (nD p')])[g5.length]? = some (.lst (nD p)) := by simp
  have gh6b : (g5 ++ [.lst (nD p)] ++ [.lst (nD p')])[g5.length + 1]? = some (.lst (nD p')) := by simp
  have e6 : (mCons (mOp1 pList (mVar 6)) (mCons (mOp1 pList (mVar 7)) mNil)) [some (.fl (ns.map .int)), some (.ref a), x2, some (.int q), some (.ref g1.length), some (.ref M), some (.ref lp), some (.ref lq), x8, x9] g5 = .ok [.ref g5.length, .ref (g5.length + 1)] (g5 ++ [.lst (nD p)] ++ [.lst (nD p')]) := by
    refine cons_ok (g1 := g5 ++ [.lst (nD p)]) (op1_ok rfl (list_ok gp5)) (cons_ok (g1 := g5 ++ [.lst (nD p)] ++ [.lst (nD p')]) (op1_ok rfl ?_) rfl)
    rw [list_ok ((Keeps.push (S := []) _).at' _ _ (by simp) gq5)]
    simp
  generalize g5 ++ [.lst (nD p)] ++ [.lst (nD p')] = g6 at k6 gh6a gh6b e6
  have k7 : Keeps [] g6 (g6 ++ [.lst [.ref g5.length, .ref (g5.length + 1)]]) := .push _
  have gh7 : (g6 ++ [.lst [.ref g5.length, .ref (g5.length + 1)]])[g6.length]? = some (.lst [.ref g5.length, .ref (g5.length + 1)]) := get_push _
  have e7 : mOpA newL (mCons (mOp1 pList (mVar 6)) (mCons (mOp1 pList (mVar 7)) mNil)) [some (.fl (ns.map .int)), some (.ref a), x2, some (.int q), some (.ref g1.length), some (.ref M), some (.ref lp), some (.ref lq), x8, x9] g5 = .ok (.ref g6.length) (g6 ++ [.lst [.ref g5.length, .ref (g5.length + 1)]]) := by
    unfold mOpA; rw [e6, Res.bind_ok]; exact if_pos (Nat.le_of_lt (sz_lt (by simp)))
  generalize g6 ++ [.lst [.ref g5.length, .ref (g5.length + 1)]] = g7 at k7 gh7 e7
  generalize hhd : g6.length = hh at e7 gh7
  generalize hha : g5.length = ha at gh6a gh7 e7
  generalize hhb : ha + 1 = hb at gh6b gh7 e7
  have k57 := k6.trans k7
  have gha7 := k7.at' _ _ (by simp) gh6a
  have ghb7 := k7.at' _ _ (by simp) (by rw [← hhb, ← hha]; exact gh6b : g6[hb]? = some (.lst (nD p')))
  have hT7 := hT5.mono k57 (by simp)
  have hM7 := k57.at' _ _ (by simp) hM5
  have gp7 := k57.at' _ _ (by simp) gp5
  have gq7 := k57.at' _ _ (by simp) gq5
  have ga7 := k57.at' _ _ (by simp) ga5
  -- mirrored
  obtain ⟨M8, g8, e8, k8, hM8⟩ := mirrored_eq g7 hn hm (by omega) (by omega) hM7 h1 h2 h3
  obtain ⟨c9, g9, e9, k9, hT9⟩ := Lmir_eq g8 (hT7.mono k8 (by simp)) (by omega) (fun r hr => by have := h2 r hr; omega) h3
  obtain ⟨g10, e10, k10⟩ := ents_eq (n := n) (m := m) g9 hT9 (fun r hr d hd => by
    obtain ⟨x, hx, rfl⟩ := List.mem_map.mp hr
    obtain ⟨y, hy, rfl⟩ := List.mem_map.mp hd
    exact mir_ok (h3 x hx y hy))
  have k710 := (k8.trans k9).trans k10
  -- twice
  obtain ⟨M11, g11, e11, k11, hM11⟩ := mirrored_eq g10 hn hm (by omega) (by omega) (k710.at' _ _ (by simp) hM7) h1 h2 h3
  obtain ⟨M12, g12, e12, k12, hM12⟩ := mirrored_eq (rows := rows.map fun r => r.map mirD) g11 hn hm (by omega) (by omega) hM11 (by simp [h1]) (fun r hr => by
    obtain ⟨x, hx, rfl⟩ := List.mem_map.mp hr
    simp [h2 x hx]) (fun r hr d hd => by
    obtain ⟨x, hx, rfl⟩ := List.mem_map.mp hr
    obtain ⟨y, hy, rfl⟩ := List.mem_map.mp hd
    exact mir_ok (h3 x hx y hy))
  have emm : ((rows.map fun r => r.map mirD).map fun r => r.map mirD) = rows := by
    rw [List.map_map]
    have : rows.map ((fun r => r.map mirD) ∘ fun r => r.map mirD) = rows.map id := List.map_congr_left fun r hr => by
      show (r.map mirD).map mirD = id r
      rw [List.map_map]
      have : r.map (mirD ∘ mirD) = r.map id := List.map_congr_left fun d hd => mir_mir (h3 r hr d hd)
      rw [this, List.map_id]; rfl
    rw [this, List.map_id]
  rw [emm] at hM12
  have k712 := k710.trans (k11.trans k12)
  obtain ⟨g13, e13, k13⟩ := ents_eq g12 (hT7.mono k712 (by simp)) h3
  have k713 := k712.trans k13
  -- renamed
  obtain ⟨R, g14, e14, k14, hR14⟩ := renamed_eq g13 hp hq (by omega) (by omega) (k713.at' _ _ (by simp) gha7) (k713.at' _ _ (by simp) ghb7) (k713.at' _ _ (by simp) hM7) h1 h2 h3
  have k714 := k713.trans k14
  have hl1 := renT_len p p' n m rows
  have hl2 := renT_rows (p := p) (q := p') (n := n) (m := m) (rows := rows)
  have hl3 := renT_ok hp hq h1 h2 h3
  obtain ⟨c15, g15, e15, k15, hT15⟩ := Lren_eq g14 hp hq (by omega) (by omega) (hT7.mono k714 (by simp)) (k714.at' _ _ (by simp) gp7) (k714.at' _ _ (by simp) gq7) h1 h2 h3
  obtain ⟨g16, e16, k16⟩ := ents_eq g15 hT15 hl3
  have k716 := k714.trans (k15.trans k16)
  have k17 : Keeps [] g16 (g16 ++ [.lst [.ref lp, .ref lq]]) := .push _
  have gh17 : (g16 ++ [.lst [.ref lp, .ref lq]])[g16.length]? = some (.lst [.ref lp, .ref lq]) := get_push _
  have e17 : mOpA newL (mCons (mVar 6) (mCons (mVar 7) mNil)) [some (.fl (ns.map .int)), some (.ref a), x2, some (.int q), some (.ref g1.length), some (.ref M), some (.ref lp), some (.ref lq), some (.ref hh), some (.ref R)] g16 = .ok (.ref g16.length) (g16 ++ [.lst [.ref lp, .ref lq]]) := by simp [mOpA, mCons, mVar, mNil, Res.bind, newL, SZ]
  generalize g16 ++ [.lst [.ref lp, .ref lq]] = g17 at k17 gh17 e17
  have k717 := k716.trans k17
  have ne17 : pNeLL (.ref hh) (.ref g16.length) g17 = .ok (.bl false) g17 := by
    have A := k717.at' _ _ (by simp) gha7
    have B := k717.at' _ _ (by simp) ghb7
    have C := k717.at' _ _ (by simp) gp7
    have E := k717.at' _ _ (by simp) gq7
    rw [nD_ints] at A B C E
    exact ne_pair (k717.at' _ _ (by simp) gh7) gh17 A C B E
  -- back
  obtain ⟨b18, g18, e18, k18, gb18⟩ := Lback_eq g17 hp (by omega) (k717.at' _ _ (by simp) gp7)
  obtain ⟨b19, g19, e19, k19, gb19⟩ := Lback_eq g18 hq (by omega) (k18.at' _ _ (by simp) (k717.at' _ _ (by simp) gq7))
  have hR19 := (k15.trans (k16.trans (k17.trans (k18.trans k19)))).at' _ _ (by simp) hR14
  obtain ⟨M20, g20, e20, k20, hM20⟩ := renamed_eq g19 (bck_nm hp) (bck_nm hq) (by omega) (by omega) (k19.at' _ _ (by simp) gb18) gb19 hR19 hl1 hl2 hl3
  rw [renT_back hp hq h1 h2 h3] at hM20
  have k720 := k717.trans (k18.trans (k19.trans k20))
  obtain ⟨g21, e21, k21⟩ := ents_eq g20 (hT7.mono k720 (by simp)) h3
  have k721 := k720.trans k21
  -- next
  obtain ⟨q2, q20, q21, e22⟩ := next_eq ns a k5 g21 (k721.at' _ _ (by simp) ga7) (by omega) (by omega)
  have ga22 : (g21.set a (.lst [.int (k5 + 1)]))[a]? = some (.lst [.int (k5 + 1)]) := get_set (k721.at' _ _ (by simp) ga7)
  have k22 : Keeps [a] g21 (g21.set a (.lst [.int (k5 + 1)])) := .set a _
  generalize g21.set a (.lst [.int (k5 + 1)]) = g22 at e22 ga22 k22
  have hlqa : lq ≠ a := fun z => by
    rw [z, ga5] at gq5
    injection gq5 with gq5
    injection gq5 with gq5
    have : a < g4.length := get_lt ga4
    omega
  have gp22 := k22.at' lp _ (by simpa using hlpa) (k721.at' _ _ (by simp) gp7)
  have gq22 := k22.at' lq _ (by simpa using hlqa) (k721.at' _ _ (by simp) gq7)
  have hM22 := k22.at' M _ (by simpa using hMa) (k721.at' _ _ (by simp) hM7)
  -- refusals
  obtain ⟨w23, g23, ds23, e23, k23, gw23, pl23, z23, bad23⟩ := wrong_eq (mm := q2 / 2) g22 hp (by omega) gp22
  obtain ⟨g24, e24, k24⟩ := renamed_raise g23 hn hm (by omega) (by omega) gw23 (k23.at' _ _ (by simp) gq22) pl23 (nD_plain p') z23 (by rw [nD_len, hq.len]; omega) (k23.at' _ _ (by simp) hM22) h1 h2 (.inl bad23)
  obtain ⟨g25, e25, k25⟩ := refused_eq e24 k24
  have k2225 := k23.trans k25
  obtain ⟨w26, g26, ds26, e26, k26, gw26, pl26, z26, bad26⟩ := wrong_eq (mm := q2 / 3) g25 hq (by omega) (k2225.at' _ _ (by simp) gq22)
  have k2226 := k2225.trans k26
  obtain ⟨g27, e27, k27⟩ := renamed_raise g26 hn hm (by omega) (by omega) (k2226.at' _ _ (by simp) gp22) gw26 (nD_plain p) pl26 (by rw [nD_len, hp.len]; omega) z26 (k2226.at' _ _ (by simp) hM22) h1 h2 (.inr ⟨hp.ints, bad26⟩)
  obtain ⟨g28, e28, k28⟩ := refused_eq e27 k27
  refine ⟨some (.int q2), some (.ref g1.length), some (.ref M), some (.ref lp), some (.ref lq), some (.ref hh), some (.ref R), g28, k5 + 1, ?_, (k2226.trans k28).at' _ _ (by simp) ga22, by omega, by omega⟩
  unfold b_law_l1
  refine seq_to [some (.fl (ns.map .int)), some (.ref a), x2, some (.int q), x4, x5, x6, x7, x8, x9] g1 (asg_ok (by rw [call_ok (ds := [.fl (ns.map .int), .ref a]) (g' := g) rfl]; exact e1)) ?_
  refine seq_to [some (.fl (ns.map .int)), some (.ref a), x2, some (.int q), some (.ref g1.length), x5, x6, x7, x8, x9] g2 (asg_ok ?_) ?_
  · rw [call_ok (ds := [.fl (ns.map .int), .ref a, .int n, .int m]) (g' := g1) (cons_ok (g1 := g1) rfl (cons_ok (g1 := g1) rfl (cons_ok (g1 := g1) (op2_ok (x := .int 1) (y := .int (q % 5)) (g1 := g1) (g2 := g1) rfl (op2_ok rfl rfl (modP (by decide))) (by rw [← en]; rfl)) (cons_ok (g1 := g1) (op2_ok (x := .int 1) (y := .int (q / 5 % 4)) (g1 := g1) (g2 := g1) rfl (op2_ok (x := .int (q / 5)) (op2_ok rfl rfl (divP (by decide) (by decide))) rfl (modP (by decide))) (by rw [← em]; rfl)) rfl))))]
    exact e2
  refine seq_to [some (.fl (ns.map .int)), some (.ref a), x2, some (.int q), some (.ref g1.length), some (.ref M), x6, x7, x8, x9] g3 (asg_ok e3) ?_
  refine seq_to [some (.fl (ns.map .int)), some (.ref a), x2, some (.int q), some (.ref g1.length), some (.ref M), some (.ref lp), x7, x8, x9] g4 (asg_ok ?_) ?_
  · rw [call_ok (ds := [.fl (ns.map .int), .ref a, .int n]) (g' := g3) (cons_ok (g1 := g3) rfl (cons_ok (g1 := g3) rfl (cons_ok (g1 := g3) (op1_ok rfl (by simp [pLen, d1, d2, h1])) rfl)))]
    exact e4
  refine seq_to [some (.fl (ns.map .int)), some (.ref a), x2, some (.int q), some (.ref g1.length), some (.ref M), some (.ref lp), some (.ref lq), x8, x9] g5 (asg_ok ?_) ?_
  · rw [call_ok (ds := [.fl (ns.map .int), .ref a, .int m]) (g' := g4) (cons_ok (g1 := g4) rfl (cons_ok (g1 := g4) rfl (cons_ok (g1 := g4) (op1_ok (x := .ref l04) (g1 := g4) (op2_ok (x := .ref g1.length) (y := .int 0) (g1 := g4) (g2 := g4) rfl rfl (ix_nat (p := 0) d14 (by rw [← el04]; simp))) (by simp [pLen, gl04, hl0])) rfl)))]
    exact e5
  refine seq_to [some (.fl (ns.map .int)), some (.ref a), x2, some (.int q), some (.ref g1.length), some (.ref M), some (.ref lp), some (.ref lq), some (.ref hh), x9] g7 (asg_ok e7) ?_
  refine seq_to [some (.fl (ns.map .int)), some (.ref a), x2, some (.int q), some (.ref g1.length), some (.ref M), some (.ref lp), some (.ref lq), some (.ref hh), x9] g10 (iff' g10 (notT_f (test_ok ?_)) rfl) ?_
  · rw [call_ok (ds := [.tup ((rows.map fun r => r.map mirD).map .tup), .ref c9]) (g' := g9) (cons_ok (g1 := g8) (attr_of (by rw [call_ok (ds := [.ref M]) (g' := g7) rfl]; exact e8) hM8) (cons_ok (g1 := g9) (by rw [call_ok (ds := [.ref g1.length]) (g' := g8) rfl]; exact e9) rfl))]
    exact e10
  refine seq_to [some (.fl (ns.map .int)), some (.ref a), x2, some (.int q), some (.ref g1.length), some (.ref M), some (.ref lp), some (.ref lq), some (.ref hh), x9] g13 (iff' g13 (notT_f (test_ok ?_)) rfl) ?_
  · rw [call_ok (ds := [.tup (rows.map .tup), .ref g1.length]) (g' := g12) (cons_ok (g1 := g12) (attr_of (by rw [call_ok (ds := [.ref M11]) (g' := g11) (cons_ok (g1 := g11) (by rw [call_ok (ds := [.ref M]) (g' := g10) rfl]; exact e11) rfl)]; exact e12) hM12) rfl)]
    exact e13
  refine seq_to [some (.fl (ns.map .int)), some (.ref a), x2, some (.int q), some (.ref g1.length), some (.ref M), some (.ref lp), some (.ref lq), some (.ref hh), some (.ref R)] g14 (asg_ok ?_) ?_
  · have gh13 := k713.at' _ _ (by simp) gh7
    rw [call_ok (ds := [.ref M, .ref ha, .ref hb]) (g' := g13) (cons_ok (g1 := g13) rfl (cons_ok (g1 := g13) (op2_ok (x := .ref hh) (y := .int 0) (g1 := g13) (g2 := g13) rfl rfl (ix_nat (p := 0) gh13 rfl)) (cons_ok (g1 := g13) (op2_ok (x := .ref hh) (y := .int 1) (g1 := g13) (g2 := g13) rfl rfl (ix_nat (p := 1) gh13 rfl)) rfl)))]
    exact e14
  refine seq_to [some (.fl (ns.map .int)), some (.ref a), x2, some (.int q), some (.ref g1.length), some (.ref M), some (.ref lp), some (.ref lq), some (.ref hh), some (.ref R)] g17 (iff' g17 (orT_f (g1 := g16) (notT_f (test_ok ?_)) (test_ok (op2_ok (x := .ref hh) rfl e17 ne17))) rfl) ?_
  · rw [call_ok (ds := [.tup ((renT p p' n m rows).map .tup), .ref c15]) (g' := g15) (cons_ok (g1 := g14) (attr_of rfl hR14) (cons_ok (g1 := g15) (by rw [call_ok (ds := [.ref g1.length, .ref lp, .ref lq]) (g' := g14) rfl]; exact e15) rfl))]
    exact e16
  refine seq_to [some (.fl (ns.map .int)), some (.ref a), x2, some (.int q), some (.ref g1.length), some (.ref M), some (.ref lp), some (.ref lq), some (.ref hh), some (.ref R)] g21 (iff' g21 (notT_f (test_ok ?_)) rfl) ?_
  · rw [call_ok (ds := [.tup (rows.map .tup), .ref g1.length]) (g' := g20) (cons_ok (g1 := g20) (attr_of (by rw [call_ok (ds := [.ref R, .ref b18, .ref b19]) (g' := g19) (cons_ok (g1 := g17) rfl (cons_ok (g1 := g18) (by rw [call_ok (ds := [.ref lp]) (g' := g17) rfl]; exact e18) (cons_ok (g1 := g19) (by rw [call_ok (ds := [.ref lq]) (g' := g18) rfl]; exact e19) rfl)))]; exact e20) hM20) rfl)]
    exact e21
  refine seq_to [some (.fl (ns.map .int)), some (.ref a), x2, some (.int q2), some (.ref g1.length), some (.ref M), some (.ref lp), some (.ref lq), some (.ref hh), some (.ref R)] g22 (asg_ok (by rw [call_ok (ds := [.fl (ns.map .int), .ref a]) (g' := g21) rfl]; exact e22)) ?_
  refine seq_to [some (.fl (ns.map .int)), some (.ref a), x2, some (.int q2), some (.ref g1.length), some (.ref M), some (.ref lp), some (.ref lq), some (.ref hh), some (.ref R)] g25 (iff' g25 (notT_f (test_ok ?_)) rfl) ?_
  · rw [call_ok (ds := [.ref M, .ref w23, .ref lq]) (g' := g23) (cons_ok (g1 := g22) rfl (cons_ok (g1 := g23) (by rw [call_ok (ds := [.int (q2 / 2), .ref lp]) (g' := g22) (cons_ok (g1 := g22) (op2_ok rfl rfl (divP (by decide) (by decide))) rfl)]; exact e23) rfl))]
    exact e25
  refine iff' g28 (notT_f (test_ok ?_)) rfl
  rw [call_ok (ds := [.ref M, .ref lp, .ref w26]) (g' := g26) (cons_ok (g1 := g25) rfl (cons_ok (g1 := g25) rfl (cons_ok (g1 := g26) (by rw [call_ok (ds := [.int (q2 / 3), .ref lq]) (g' := g25) (cons_ok (g1 := g25) (op2_ok rfl rfl (divP (by decide) (by decide))) rfl)]; exact e26) rfl)))]
  exact e28
theorem law_true (ns : List Int) (hns : ns.length ≤ 63) : ∃ g', f_law [.fl (ns.map .int)] [] = .ok (.bl true) g' := by
  obtain ⟨c, hc, hc4⟩ : ∃ c : Nat, (1 + ((((ns.map D.int).take 60).length : Nat) : Int) / 20) = c ∧ c ≤ 4 := ⟨(1 + ((((ns.map D.int).take 60).length : Nat) : Int) / 20).toNat, by omega, by simp; omega⟩
  obtain ⟨w, g1, e1, k1, h1⟩ := (⟨1, [.lst [.int 0], .lst ((ns.map D.int).take 60)], by
    show Res.ok (D.ref 1) [GO.lst [.int 0], .lst (cutD (ns.map D.int) none (some ((60 : Nat) : Int)))] = _
    rw [cut_to], .push _, rfl⟩ : Mk (mSlice (mVar 0) mNoPart (mPart (mLit (.int 60)))) [some (.fl (ns.map .int)), some (.ref 0), none, none, none, none, none, none, none, none] [.lst [.int 0]] ((ns.map D.int).take 60))
  have hit : mItRange1 (mOp2 pAdd (mLit (.int 1)) (mOp2 pFdiv (mOp1 pLen (mSlice (mVar 0) mNoPart (mPart (mLit (.int 60))))) (mLit (.int 20)))) [some (.fl (ns.map .int)), some (.ref 0), none, none, none, none, none, none, none, none] [.lst [.int 0]] = .ok (srcRange 0 c) g1 :=
    range1_ok (op2_ok (x := .int 1) (y := .int (((((ns.map D.int).take 60).length : Nat) : Int) / 20)) (g1 := [.lst [.int 0]]) (g2 := g1) rfl (op2_ok (x := .int (((ns.map D.int).take 60).length : Nat)) (g1 := g1) (g2 := g1) (op1_ok e1 (by simp [pLen, h1])) rfl (divP (by decide) (by decide))) (by rw [← hc]; rfl)) (inR_of (by omega))
  have ga1 := k1.at' 0 _ (by simp) (show ([.lst [.int 0]] : G)[0]? = some (.lst [.int 0]) from rfl)
  obtain ⟨σ', g', e, k', x2, x3, x4, x5, x6, x7, x8, x9, i1, i2⟩ := for_range (t := gSet 2) (body := b_law_l1) (lo := 0) (n := c) (σ := [some (.fl (ns.map .int)), some (.ref 0), none, none, none, none, none, none, none, none]) (g := g1)
    (fun i σ g => ∃ (k : Int) (x2 x3 x4 x5 x6 x7 x8 x9 : Option D), σ = [some (.fl (ns.map .int)), some (.ref 0), x2, x3, x4, x5, x6, x7, x8, x9] ∧ g[0]? = some (.lst [.int k]) ∧ 0 ≤ k ∧ k ≤ 100 * i) ⟨0, _, _, _, _, _, _, _, _, rfl, ga1, by omega, by omega⟩ (fun i σ g hi ⟨k, x2, x3, x4, x5, x6, x7, x8, x9, i1, i2, i3, i4⟩ => by
      subst i1
      obtain ⟨y3, y4, y5, y6, y7, y8, y9, g', k', e, j1, j2, j3⟩ := turn ns 0 k (some (.int (0 + i))) x3 x4 x5 x6 x7 x8 x9 g i2 i3 (by omega)
      exact ⟨_, _, g', rfl, e, k', _, _, _, _, _, _, _, _, rfl, j1, by omega, by omega⟩)
  refine ⟨g', def_rt rfl ?_⟩
  show b_law [some (.fl (ns.map .int)), none, none, none, none, none, none, none, none, none] [] = _
  unfold b_law
  refine seq_to [some (.fl (ns.map .int)), some (.ref 0), none, none, none, none, none, none, none, none] [.lst [.int 0]] (asg_ok (by simp [mOpA, mCons, mLit, mNil, Res.bind, newL, SZ])) ?_
  exact seq_to _ _ ((for_ok hit).trans e) rfl
end L3

end
section
namespace V
open PySem PySem.Spec PyProof.Rows L2 L3
noncomputable def top (i : Nat) : Stmt := PySem.Challenge.pw_tapeproof_k02_turns.main.body.getD i (.Pass ⟨0, 0, 0, 0⟩)
noncomputable abbrev s_is_whole : Stmt := top 13
noncomputable abbrev N_is_whole : List Str := ["value"]
theorem sc_is_whole : FnScope N_is_whole ["value"] (defScope s_is_whole) := ⟨rfl, rfl, rfl, by decide +kernel, rfl, by decide +kernel, by decide +kernel⟩
noncomputable abbrev s_is_below : Stmt := top 14
noncomputable abbrev N_is_below : List Str := ["value", "many"]
theorem sc_is_below : FnScope N_is_below ["value", "many"] (defScope s_is_below) := ⟨rfl, rfl, rfl, by decide +kernel, rfl, by decide +kernel, by decide +kernel⟩
noncomputable abbrev s_other_way : Stmt := top 18
noncomputable abbrev N_other_way : List Str := ["way"]
theorem sc_other_way : FnScope N_other_way ["way"] (defScope s_other_way) := ⟨rfl, rfl, rfl, by decide +kernel, rfl, by decide +kernel, by decide +kernel⟩
noncomputable abbrev s_is_entry : Stmt := top 19
noncomputable abbrev N_is_entry : List Str := ["thing", "states", "signs"]
theorem sc_is_entry : FnScope N_is_entry ["thing", "states", "signs"] (defScope s_is_entry) := ⟨rfl, rfl, rfl, by decide +kernel, rfl, by decide +kernel, by decide +kernel⟩
noncomputable abbrev s_check_rows : Stmt := top 20
noncomputable abbrev N_check_rows : List Str := ["rows", "states", "signs", "row"]
theorem sc_check_rows : FnScope N_check_rows ["rows"] (defScope s_check_rows) := ⟨rfl, rfl, rfl, by decide +kernel, rfl, by decide +kernel, by decide +kernel⟩
noncomputable abbrev s_Machine_init : Stmt := inClass (top 21) 0
noncomputable abbrev N_Machine_init : List Str := ["self", "table", "rows"]
theorem sc_Machine_init : FnScope N_Machine_init ["self", "table"] (defScope s_Machine_init) := ⟨rfl, rfl, rfl, by decide +kernel, rfl, by decide +kernel, by decide +kernel⟩
noncomputable abbrev s_states_of : Stmt := top 22
noncomputable abbrev N_states_of : List Str := ["machine"]
theorem sc_states_of : FnScope N_states_of ["machine"] (defScope s_states_of) := ⟨rfl, rfl, rfl, by decide +kernel, rfl, by decide +kernel, by decide +kernel⟩
noncomputable abbrev s_signs_of : Stmt := top 23
noncomputable abbrev N_signs_of : List Str := ["machine"]
theorem sc_signs_of : FnScope N_signs_of ["machine"] (defScope s_signs_of) := ⟨rfl, rfl, rfl, by decide +kernel, rfl, by decide +kernel, by decide +kernel⟩
noncomputable abbrev s_mirrored_entry : Stmt := top 25
noncomputable abbrev N_mirrored_entry : List Str := ["entry"]
theorem sc_mirrored_entry : FnScope N_mirrored_entry ["entry"] (defScope s_mirrored_entry) := ⟨rfl, rfl, rfl, by decide +kernel, rfl, by decide +kernel, by decide +kernel⟩
noncomputable abbrev s_mirrored_row : Stmt := top 26
noncomputable abbrev N_mirrored_row : List Str := ["row"]
theorem sc_mirrored_row : FnScope N_mirrored_row ["row"] (defScope s_mirrored_row) := ⟨rfl, rfl, rfl, by decide +kernel, rfl, by decide +kernel, by decide +kernel⟩
noncomputable abbrev s_mirrored : Stmt := top 27
noncomputable abbrev N_mirrored : List Str := ["machine"]
theorem sc_mirrored : FnScope N_mirrored ["machine"] (defScope s_mirrored) := ⟨rfl, rfl, rfl, by decide +kernel, rfl, by decide +kernel, by decide +kernel⟩
noncomputable abbrev s_check_names : Stmt := top 28
noncomputable abbrev N_check_names : List Str := ["names", "many"]
theorem sc_check_names : FnScope N_check_names ["names", "many"] (defScope s_check_names) := ⟨rfl, rfl, rfl, by decide +kernel, rfl, by decide +kernel, by decide +kernel⟩
noncomputable abbrev s_renamed_entry : Stmt := top 29
noncomputable abbrev N_renamed_entry : List Str := ["entry", "states", "signs"]
theorem sc_renamed_entry : FnScope N_renamed_entry ["entry", "states", "signs"] (defScope s_renamed_entry) := ⟨rfl, rfl, rfl, by decide +kernel, rfl, by decide +kernel, by decide +kernel⟩
noncomputable abbrev s_renamed_row : Stmt := top 30
noncomputable abbrev N_renamed_row : List Str := ["row", "states", "signs", "entries", "sign", "entry"]
theorem sc_renamed_row : FnScope N_renamed_row ["row", "states", "signs"] (defScope s_renamed_row) := ⟨rfl, rfl, rfl, by decide +kernel, rfl, by decide +kernel, by decide +kernel⟩
noncomputable abbrev s_renamed : Stmt := top 31
noncomputable abbrev N_renamed : List Str := ["machine", "states", "signs", "rows", "state", "row"]
theorem sc_renamed : FnScope N_renamed ["machine", "states", "signs"] (defScope s_renamed) := ⟨rfl, rfl, rfl, by decide +kernel, rfl, by decide +kernel, by decide +kernel⟩
noncomputable abbrev s_L_next : Stmt := top 33
noncomputable abbrev N_L_next : List Str := ["_law_script", "_law_at", "_law_cell", "_law_m"]
theorem sc_L_next : FnScope N_L_next ["_law_script", "_law_at"] (defScope s_L_next) := ⟨rfl, rfl, rfl, by decide +kernel, rfl, by decide +kernel, by decide +kernel⟩
noncomputable abbrev s_L_same : Stmt := top 34
noncomputable abbrev N_L_same : List Str := ["_law_found", "_law_due"]
theorem sc_L_same : FnScope N_L_same ["_law_found", "_law_due"] (defScope s_L_same) := ⟨rfl, rfl, rfl, by decide +kernel, rfl, by decide +kernel, by decide +kernel⟩
noncomputable abbrev s_L_table : Stmt := top 35
noncomputable abbrev N_L_table : List Str := ["_law_script", "_law_at", "_law_states", "_law_signs", "_law_table_here", "_law_k", "_law_line", "_law_j", "_law_m", "_law_entry"]
theorem sc_L_table : FnScope N_L_table ["_law_script", "_law_at", "_law_states", "_law_signs"] (defScope s_L_table) := ⟨rfl, rfl, rfl, by decide +kernel, rfl, by decide +kernel, by decide +kernel⟩
noncomputable abbrev s_L_order : Stmt := top 36
noncomputable abbrev N_L_order : List Str := ["_law_script", "_law_at", "_law_many", "_law_made", "_law_k"]
theorem sc_L_order : FnScope N_L_order ["_law_script", "_law_at", "_law_many"] (defScope s_L_order) := ⟨rfl, rfl, rfl, by decide +kernel, rfl, by decide +kernel, by decide +kernel⟩
noncomputable abbrev s_L_entries : Stmt := top 37
noncomputable abbrev N_L_entries : List Str := ["_law_found", "_law_due", "_law_line", "_law_made", "_law_one", "_law_entry"]
theorem sc_L_entries : FnScope N_L_entries ["_law_found", "_law_due"] (defScope s_L_entries) := ⟨rfl, rfl, rfl, by decide +kernel, rfl, by decide +kernel, by decide +kernel⟩
noncomputable abbrev s_L_mirrored : Stmt := top 38
noncomputable abbrev N_L_mirrored : List Str := ["_law_table_here", "_law_made", "_law_line", "_law_row", "_law_entry", "_law_turn"]
theorem sc_L_mirrored : FnScope N_L_mirrored ["_law_table_here"] (defScope s_L_mirrored) := ⟨rfl, rfl, rfl, by decide +kernel, rfl, by decide +kernel, by decide +kernel⟩
noncomputable abbrev s_L_renamed : Stmt := top 39
noncomputable abbrev N_L_renamed : List Str := ["_law_table_here", "_law_states", "_law_signs", "_law_made", "_law_k", "_law_line", "_law_j", "_law_entry"]
theorem sc_L_renamed : FnScope N_L_renamed ["_law_table_here", "_law_states", "_law_signs"] (defScope s_L_renamed) := ⟨rfl, rfl, rfl, by decide +kernel, rfl, by decide +kernel, by decide +kernel⟩
noncomputable abbrev s_L_back : Stmt := top 40
noncomputable abbrev N_L_back : List Str := ["_law_names", "_law_made", "_law_k", "_law_name"]
theorem sc_L_back : FnScope N_L_back ["_law_names"] (defScope s_L_back) := ⟨rfl, rfl, rfl, by decide +kernel, rfl, by decide +kernel, by decide +kernel⟩
noncomputable abbrev s_L_wrong : Stmt := top 41
noncomputable abbrev N_L_wrong : List Str := ["_law_m", "_law_names", "_law_many", "_law_spot"]
theorem sc_L_wrong : FnScope N_L_wrong ["_law_m", "_law_names"] (defScope s_L_wrong) := ⟨rfl, rfl, rfl, by decide +kernel, rfl, by decide +kernel, by decide +kernel⟩
noncomputable abbrev s_L_refused : Stmt := top 42
noncomputable abbrev N_L_refused : List Str := ["_law_machine", "_law_states", "_law_signs", "_law_error", "e"]
theorem sc_L_refused : FnScope N_L_refused ["_law_machine", "_law_states", "_law_signs"] (defScope s_L_refused) := ⟨rfl, rfl, rfl, by decide +kernel, rfl, by decide +kernel, by decide +kernel⟩
noncomputable abbrev s_law : Stmt := top 43
noncomputable abbrev N_law : List Str := ["_law_script", "_law_at", "_law_k", "_law_m", "_law_table_here", "_law_machine", "_law_states", "_law_signs", "_law_handed", "_law_made"]
theorem sc_law : FnScope N_law ["_law_script"] (defScope s_law) := ⟨rfl, rfl, rfl, by decide +kernel, rfl, by decide +kernel, by decide +kernel⟩
structure Zk (K : PySem.W.Frag) (mg : Str → Option Value) (ca : Nat → Addr) : Prop where
  z_ValueError : mg "ValueError" = none
  z_all : mg "all" = none
  z_bool : mg "bool" = none
  z_dict : mg "dict" = none
  z_enumerate : mg "enumerate" = none
  z_int : mg "int" = none
  z_isinstance : mg "isinstance" = none
  z_len : mg "len" = none
  z_list : mg "list" = none
  z_range : mg "range" = none
  z_sorted : mg "sorted" = none
  z_str : mg "str" = none
  z_tuple : mg "tuple" = none
  z_zip : mg "zip" = none
  g_LEFT : ∃ k, mg "LEFT" = some (.str (Str.ofString "l") k)
  g_RIGHT : ∃ k, mg "RIGHT" = some (.str (Str.ofString "r") k)
  t_TapeError : mg "TapeError" = some (.ref (ca 0)) ∧ CatX K ca (ca 0) [0, 1, 2, 3, 4, 5, 6, 7, 8, 9, 10] []
  x_NoMachine : mg "NoMachine" = some (.ref (ca 1)) ∧ IsX K ca (.ref (ca 1)) [0, 1, 2, 3, 4, 5, 6, 7, 8, 9, 10] [1]
  x_NoMove : mg "NoMove" = some (.ref (ca 8)) ∧ IsX K ca (.ref (ca 8)) [0, 1, 2, 3, 4, 5, 6, 7, 8, 9, 10] [8]
  x_NoNames : mg "NoNames" = some (.ref (ca 2)) ∧ IsX K ca (.ref (ca 2)) [0, 1, 2, 3, 4, 5, 6, 7, 8, 9, 10] [2]
  x_NoNumber : mg "NoNumber" = some (.ref (ca 3)) ∧ IsX K ca (.ref (ca 3)) [0, 1, 2, 3, 4, 5, 6, 7, 8, 9, 10] [3]
  x_NoShape : mg "NoShape" = some (.ref (ca 7)) ∧ IsX K ca (.ref (ca 7)) [0, 1, 2, 3, 4, 5, 6, 7, 8, 9, 10] [7]
  x_NoShot : mg "NoShot" = some (.ref (ca 4)) ∧ IsX K ca (.ref (ca 4)) [0, 1, 2, 3, 4, 5, 6, 7, 8, 9, 10] [4]
  x_NoStretches : mg "NoStretches" = some (.ref (ca 5)) ∧ IsX K ca (.ref (ca 5)) [0, 1, 2, 3, 4, 5, 6, 7, 8, 9, 10] [5]
  x_NoText : mg "NoText" = some (.ref (ca 10)) ∧ IsX K ca (.ref (ca 10)) [0, 1, 2, 3, 4, 5, 6, 7, 8, 9, 10] [10]
  x_NoWidth : mg "NoWidth" = some (.ref (ca 9)) ∧ IsX K ca (.ref (ca 9)) [0, 1, 2, 3, 4, 5, 6, 7, 8, 9, 10] [9]
  x_TooLong : mg "TooLong" = some (.ref (ca 6)) ∧ IsX K ca (.ref (ca 6)) [0, 1, 2, 3, 4, 5, 6, 7, 8, 9, 10] [6]
  x_ValueError : bootBuiltins "ValueError" = some (.type "ValueError") ∧ IsX K ca (.type "ValueError") [0, 1, 2, 3, 4, 5, 6, 7, 8, 9, 10] [0, 1, 2, 3, 4, 5, 6, 7, 8, 9, 10]
  e_NoMachine : RaH K mg ca 1 "NoMachine"
  e_NoNames : RaH K mg ca 2 "NoNames"
  a_table : FldOk K ca [11] "table"
  u_is_whole : ∃ f fd, Fun K "is_whole" "is_whole" s_is_whole f fd ∧ mg "is_whole" = some (.ref f)
  u_is_below : ∃ f fd, Fun K "is_below" "is_below" s_is_below f fd ∧ mg "is_below" = some (.ref f)
  u_other_way : ∃ f fd, Fun K "other_way" "other_way" s_other_way f fd ∧ mg "other_way" = some (.ref f)
  u_is_entry : ∃ f fd, Fun K "is_entry" "is_entry" s_is_entry f fd ∧ mg "is_entry" = some (.ref f)
  u_check_rows : ∃ f fd, Fun K "check_rows" "check_rows" s_check_rows f fd ∧ mg "check_rows" = some (.ref f)
  u_Machine_init : ∃ f fd, Fun K "__init__" "Machine.__init__" s_Machine_init f fd ∧ Mk K (ca 11) f ∧ mg "Machine" = some (.ref (ca 11))
  u_states_of : ∃ f fd, Fun K "states_of" "states_of" s_states_of f fd ∧ mg "states_of" = some (.ref f)
  u_signs_of : ∃ f fd, Fun K "signs_of" "signs_of" s_signs_of f fd ∧ mg "signs_of" = some (.ref f)
  u_mirrored_entry : ∃ f fd, Fun K "mirrored_entry" "mirrored_entry" s_mirrored_entry f fd ∧ mg "mirrored_entry" = some (.ref f)
  u_mirrored_row : ∃ f fd, Fun K "mirrored_row" "mirrored_row" s_mirrored_row f fd ∧ mg "mirrored_row" = some (.ref f)
  u_mirrored : ∃ f fd, Fun K "mirrored" "mirrored" s_mirrored f fd ∧ mg "mirrored" = some (.ref f)
  u_check_names : ∃ f fd, Fun K "check_names" "check_names" s_check_names f fd ∧ mg "check_names" = some (.ref f)
  u_renamed_entry : ∃ f fd, Fun K "renamed_entry" "renamed_entry" s_renamed_entry f fd ∧ mg "renamed_entry" = some (.ref f)
  u_renamed_row : ∃ f fd, Fun K "renamed_row" "renamed_row" s_renamed_row f fd ∧ mg "renamed_row" = some (.ref f)
  u_renamed : ∃ f fd, Fun K "renamed" "renamed" s_renamed f fd ∧ mg "renamed" = some (.ref f)
  u_L_next : ∃ f fd, Fun K "_law_next" "_law_next" s_L_next f fd ∧ mg "_law_next" = some (.ref f)
  u_L_same : ∃ f fd, Fun K "_law_same" "_law_same" s_L_same f fd ∧ mg "_law_same" = some (.ref f)
  u_L_table : ∃ f fd, Fun K "_law_table" "_law_table" s_L_table f fd ∧ mg "_law_table" = some (.ref f)
  u_L_order : ∃ f fd, Fun K "_law_order" "_law_order" s_L_order f fd ∧ mg "_law_order" = some (.ref f)
  u_L_entries : ∃ f fd, Fun K "_law_entries" "_law_entries" s_L_entries f fd ∧ mg "_law_entries" = some (.ref f)
  u_L_mirrored : ∃ f fd, Fun K "_law_mirrored" "_law_mirrored" s_L_mirrored f fd ∧ mg "_law_mirrored" = some (.ref f)
  u_L_renamed : ∃ f fd, Fun K "_law_renamed" "_law_renamed" s_L_renamed f fd ∧ mg "_law_renamed" = some (.ref f)
  u_L_back : ∃ f fd, Fun K "_law_back" "_law_back" s_L_back f fd ∧ mg "_law_back" = some (.ref f)
  u_L_wrong : ∃ f fd, Fun K "_law_wrong" "_law_wrong" s_L_wrong f fd ∧ mg "_law_wrong" = some (.ref f)
  u_L_refused : ∃ f fd, Fun K "_law_refused" "_law_refused" s_L_refused f fd ∧ mg "_law_refused" = some (.ref f)
  u_law : ∃ f fd, Fun K "law" "law" s_law f fd ∧ mg "law" = some (.ref f)
section
seal PE3 PT3 PW3 PA3 PS3 PSs3 PG3 PI3
variable {P : Program} {w : World} {K : PySem.W.Frag} {mg : Str → Option Value} {base : Heap} {ca : Nat → Addr}
theorem fn_is_whole (Z : Zk K mg ca) : FnH P w K mg base ca "is_whole" 1 1 f_is_whole := by
  obtain ⟨f, fd, F, hm⟩ := Z.u_is_whole
  exact ⟨⟨f, fd, ["value"], fn_ok F sc_is_whole rfl rfl (fun cdv A outer s H E hr => (r_oneS (r_ret (r_and (r_isin .int Z.z_isinstance Z.z_int bt_int (r_var 0)) (r_one (r_not (r_isin .bool Z.z_isinstance Z.z_bool bt_bool (r_var 0)))))))), hm, F.kp, F.binds (ps := ["value"]) (fun _ _ _ _ _ _ us hl => by obtain ⟨_, rfl⟩ := L3.len1 hl; rfl)⟩, mDef_st _ _ _⟩
theorem fn_is_below (Z : Zk K mg ca) : FnH P w K mg base ca "is_below" 2 2 f_is_below := by
  obtain ⟨f, fd, F, hm⟩ := Z.u_is_below
  exact ⟨⟨f, fd, ["value", "many"], fn_ok F sc_is_below rfl rfl (fun cdv A outer s H E hr => (r_oneS (r_ret (r_and (r_call (fn_is_whole Z) (hr.mono (by omega)) (r_cns (r_var 0) r_nil)) (r_one (r_leLt r_int (r_var 0) (r_var 1))))))), hm, F.kp, F.binds (ps := ["value", "many"]) (fun _ _ _ _ _ _ us hl => by obtain ⟨_, _, rfl⟩ := L3.len2 hl; rfl)⟩, mDef_st _ _ _⟩
theorem fn_other_way (Z : Zk K mg ca) : FnH P w K mg base ca "other_way" 1 1 f_other_way := by
  obtain ⟨f, fd, F, hm⟩ := Z.u_other_way
  exact ⟨⟨f, fd, ["way"], fn_ok F sc_other_way rfl rfl (fun cdv A outer s H E hr => (r_oneS (r_ret (r_ifE (r_eqT hr (r_var 0) (r_gstr Z.g_RIGHT)) (r_gstr Z.g_LEFT) (r_gstr Z.g_RIGHT))))), hm, F.kp, F.binds (ps := ["way"]) (fun _ _ _ _ _ _ us hl => by obtain ⟨_, rfl⟩ := L3.len1 hl; rfl)⟩, mDef_st _ _ _⟩
theorem fn_is_entry (Z : Zk K mg ca) : FnH P w K mg base ca "is_entry" 3 3 f_is_entry := by
  obtain ⟨f, fd, F, hm⟩ := Z.u_is_entry
  exact ⟨⟨f, fd, ["thing", "states", "signs"], fn_ok F sc_is_entry rfl rfl (fun cdv A outer s H E hr => (r_consS (r_if (r_isT (r_var 0) r_non) (r_oneS (r_ret r_bl)) r_nilS)
  (r_consS (r_if (r_w (r_orT (r_notT (r_test (r_isin .tuple Z.z_isinstance Z.z_tuple bt_tuple (r_var 0)))) (r_orT1 (r_neT hr (r_len Z.z_len (r_var 0)) r_int)))) (r_oneS (r_ret r_bl)) r_nilS)
  (r_oneS (r_ret (r_and (r_call (fn_is_below Z) (hr.mono (by omega)) (r_cns (r_sub1 (r_var 0) r_int) (r_cns (r_var 2) r_nil))) (r_and (r_in (r_sub1 (r_var 0) r_int) (r_tup (r_cns (r_gstr Z.g_LEFT) (r_cns (r_gstr Z.g_RIGHT) r_nil)))) (r_one (r_call (fn_is_below Z) (hr.mono (by omega)) (r_cns (r_sub1 (r_var 0) r_int) (r_cns (r_var 1) r_nil))))))))))), hm, F.kp, F.binds (ps := ["thing", "states", "signs"]) (fun _ _ _ _ _ _ us hl => by obtain ⟨_, _, _, rfl⟩ := L3.len3 hl; rfl)⟩, mDef_st _ _ _⟩
theorem fn_check_rows (Z : Zk K mg ca) : FnH P w K mg base ca "check_rows" 4 1 f_check_rows := by
  obtain ⟨f, fd, F, hm⟩ := Z.u_check_rows
  exact ⟨⟨f, fd, ["rows"], fn_ok F sc_check_rows rfl rfl (fun cdv A outer s H E hr => (r_consS (r_if (r_eqT hr (r_len Z.z_len (r_var 0)) r_int) (r_oneS (r_raise Z.e_NoMachine hr.hd (r_cns r_str r_nil))) r_nilS)
  (r_consS (r_sto 1 sc_check_rows.nd (r_len Z.z_len (r_var 0)))
  (r_consS (r_sto 2 sc_check_rows.nd (r_len Z.z_len (r_sub1 (r_var 0) r_int)))
  (r_consS (r_if (r_eqT hr (r_var 2) r_int) (r_oneS (r_raise Z.e_NoMachine hr.hd (r_cns r_str r_nil))) r_nilS)
  (r_oneS (r_for rfl (r_itSeq (r_var 0)) (r_gset 3 sc_check_rows.nd) (r_consS (r_if (r_neT hr (r_len Z.z_len (r_var 3)) (r_var 2)) (r_oneS (r_raise Z.e_NoMachine hr.hd (r_cns r_str r_nil))) r_nilS)
  (r_oneS (r_if (r_notT (r_test (r_all rfl Z.z_all (r_comp (bscope_mk (Nb := ["thing", "states", "signs"]) (no := 1) (cap := [1, 2]) (N := N_check_rows) (sc := defScope s_check_rows) rfl rfl (by decide +kernel)) rfl (r_itSeq (r_var 3)) (fun cl C s3 H3 ex => ⟨(r_gset 0 (show List.Nodup (["thing", "states", "signs"] : List Str) by decide +kernel)), r_if0, (r_call (fn_is_entry Z) (hr.mono (by omega)) (r_cns (r_var 0) (r_cns (r_var 1) (r_cns (r_var 2) r_nil))))⟩))))) (r_oneS (r_raise Z.e_NoMachine hr.hd (r_cns r_str r_nil))) r_nilS)))))))))), hm, F.kp, F.binds (ps := ["rows"]) (fun _ _ _ _ _ _ us hl => by obtain ⟨_, rfl⟩ := L3.len1 hl; rfl)⟩, mDef_st _ _ _⟩
theorem fn_Machine_init (Z : Zk K mg ca) : MkH P w K mg base ca 11 "Machine" 5 2 f_Machine_init := by
  obtain ⟨f, fd, F, hm⟩ := Z.u_Machine_init
  exact ⟨⟨f, fd, ["self", "table"], fn_ok F sc_Machine_init rfl rfl (fun cdv A outer s H E hr => (r_consS (r_sto 2 sc_Machine_init.nd (r_tuple Z.z_tuple (r_comp (bscope_mk (Nb := ["row"]) (no := 1) (cap := []) (N := N_Machine_init) (sc := defScope s_Machine_init) rfl rfl (by decide +kernel)) rfl (r_itSeq (r_var 1)) (fun cl C s3 H3 ex => ⟨(r_gset 0 (show List.Nodup (["row"] : List Str) by decide +kernel)), r_if0, (r_tuple Z.z_tuple (r_var 0))⟩))))
  (r_consS (r_expr (r_call (fn_check_rows Z) (hr.mono (by omega)) (r_cns (r_var 2) r_nil)))
  (r_oneS (r_setAttr (r_var 0) (r_var 2) Z.a_table))))), hm.1, hm.2, F.binds (ps := ["self", "table"]) (fun _ _ _ _ _ _ us hl => by obtain ⟨_, _, rfl⟩ := L3.len2 hl; rfl)⟩, mDef_st _ _ _⟩
theorem fn_states_of (Z : Zk K mg ca) : FnH P w K mg base ca "states_of" 1 1 f_states_of := by
  obtain ⟨f, fd, F, hm⟩ := Z.u_states_of
  exact ⟨⟨f, fd, ["machine"], fn_ok F sc_states_of rfl rfl (fun cdv A outer s H E hr => (r_oneS (r_ret (r_len Z.z_len (r_attr (r_var 0) Z.a_table))))), hm, F.kp, F.binds (ps := ["machine"]) (fun _ _ _ _ _ _ us hl => by obtain ⟨_, rfl⟩ := L3.len1 hl; rfl)⟩, mDef_st _ _ _⟩
theorem fn_signs_of (Z : Zk K mg ca) : FnH P w K mg base ca "signs_of" 1 1 f_signs_of := by
  obtain ⟨f, fd, F, hm⟩ := Z.u_signs_of
  exact ⟨⟨f, fd, ["machine"], fn_ok F sc_signs_of rfl rfl (fun cdv A outer s H E hr => (r_oneS (r_ret (r_len Z.z_len (r_sub1 (r_attr (r_var 0) Z.a_table) r_int))))), hm, F.kp, F.binds (ps := ["machine"]) (fun _ _ _ _ _ _ us hl => by obtain ⟨_, rfl⟩ := L3.len1 hl; rfl)⟩, mDef_st _ _ _⟩
theorem fn_mirrored_entry (Z : Zk K mg ca) : FnH P w K mg base ca "mirrored_entry" 2 1 f_mirrored_entry := by
  obtain ⟨f, fd, F, hm⟩ := Z.u_mirrored_entry
  exact ⟨⟨f, fd, ["entry"], fn_ok F sc_mirrored_entry rfl rfl (fun cdv A outer s H E hr => (r_consS (r_if (r_isT (r_var 0) r_non) (r_oneS (r_ret r_non)) r_nilS)
  (r_oneS (r_ret (r_tup (r_cns (r_sub1 (r_var 0) r_int) (r_cns (r_call (fn_other_way Z) (hr.mono (by omega)) (r_cns (r_sub1 (r_var 0) r_int) r_nil)) (r_cns (r_sub1 (r_var 0) r_int) r_nil)))))))), hm, F.kp, F.binds (ps := ["entry"]) (fun _ _ _ _ _ _ us hl => by obtain ⟨_, rfl⟩ := L3.len1 hl; rfl)⟩, mDef_st _ _ _⟩
theorem fn_mirrored_row (Z : Zk K mg ca) : FnH P w K mg base ca "mirrored_row" 3 1 f_mirrored_row := by
  obtain ⟨f, fd, F, hm⟩ := Z.u_mirrored_row
  exact ⟨⟨f, fd, ["row"], fn_ok F sc_mirrored_row rfl rfl (fun cdv A outer s H E hr => (r_oneS (r_ret (r_comp (bscope_mk (Nb := ["entry"]) (no := 1) (cap := []) (N := N_mirrored_row) (sc := defScope s_mirrored_row) rfl rfl (by decide +kernel)) rfl (r_itSeq (r_var 0)) (fun cl C s3 H3 ex => ⟨(r_gset 0 (show List.Nodup (["entry"] : List Str) by decide +kernel)), r_if0, (r_call (fn_mirrored_entry Z) (hr.mono (by omega)) (r_cns (r_var 0) r_nil))⟩))))), hm, F.kp, F.binds (ps := ["row"]) (fun _ _ _ _ _ _ us hl => by obtain ⟨_, rfl⟩ := L3.len1 hl; rfl)⟩, mDef_st _ _ _⟩
theorem fn_mirrored (Z : Zk K mg ca) : FnH P w K mg base ca "mirrored" 7 1 f_mirrored := by
  obtain ⟨f, fd, F, hm⟩ := Z.u_mirrored
  exact ⟨⟨f, fd, ["machine"], fn_ok F sc_mirrored rfl rfl (fun cdv A outer s H E hr => (r_oneS (r_ret (r_make (fn_Machine_init Z) (hr.mono (by omega)) (r_cns (r_comp (bscope_mk (Nb := ["row"]) (no := 1) (cap := []) (N := N_mirrored) (sc := defScope s_mirrored) rfl rfl (by decide +kernel)) rfl (r_itSeq (r_attr (r_var 0) Z.a_table)) (fun cl C s3 H3 ex => ⟨(r_gset 0 (show List.Nodup (["row"] : List Str) by decide +kernel)), r_if0, (r_call (fn_mirrored_row Z) (hr.mono (by omega)) (r_cns (r_var 0) r_nil))⟩)) r_nil))))), hm, F.kp, F.binds (ps := ["machine"]) (fun _ _ _ _ _ _ us hl => by obtain ⟨_, rfl⟩ := L3.len1 hl; rfl)⟩, mDef_st _ _ _⟩
theorem fn_check_names (Z : Zk K mg ca) : FnH P w K mg base ca "check_names" 3 2 f_check_names := by
  obtain ⟨f, fd, F, hm⟩ := Z.u_check_names
  exact ⟨⟨f, fd, ["names", "many"], fn_ok F sc_check_names rfl rfl (fun cdv A outer s H E hr => (r_consS (r_if (r_notT (r_test (r_all rfl Z.z_all (r_comp (bscope_mk (Nb := ["name", "many"]) (no := 1) (cap := [1]) (N := N_check_names) (sc := defScope s_check_names) rfl rfl (by decide +kernel)) rfl (r_itSeq (r_var 0)) (fun cl C s3 H3 ex => ⟨(r_gset 0 (show List.Nodup (["name", "many"] : List Str) by decide +kernel)), r_if0, (r_call (fn_is_below Z) (hr.mono (by omega)) (r_cns (r_var 0) (r_cns (r_var 1) r_nil)))⟩))))) (r_oneS (r_raise Z.e_NoNames hr.hd (r_cns r_str r_nil))) r_nilS)
  (r_consS (r_if (r_neT hr (r_sorted Z.z_sorted (r_var 0)) (r_listRange rfl Z.z_list Z.z_range (r_var 1))) (r_oneS (r_raise Z.e_NoNames hr.hd (r_cns r_str r_nil))) r_nilS)
  (r_oneS (r_if (r_neT hr (r_sub1 (r_var 0) r_int) r_int) (r_oneS (r_raise Z.e_NoNames hr.hd (r_cns r_str r_nil))) r_nilS))))), hm, F.kp, F.binds (ps := ["names", "many"]) (fun _ _ _ _ _ _ us hl => by obtain ⟨_, _, rfl⟩ := L3.len2 hl; rfl)⟩, mDef_st _ _ _⟩
theorem fn_renamed_entry (Z : Zk K mg ca) : FnH P w K mg base ca "renamed_entry" 1 3 f_renamed_entry := by
  obtain ⟨f, fd, F, hm⟩ := Z.u_renamed_entry
  exact ⟨⟨f, fd, ["entry", "states", "signs"], fn_ok F sc_renamed_entry rfl rfl (fun cdv A outer s H E hr => (r_consS (r_if (r_isT (r_var 0) r_non) (r_oneS (r_ret r_non)) r_nilS)
  (r_oneS (r_ret (r_tup (r_cns (r_sub1 (r_var 2) (r_sub1 (r_var 0) r_int)) (r_cns (r_sub1 (r_var 0) r_int) (r_cns (r_sub1 (r_var 1) (r_sub1 (r_var 0) r_int)) r_nil)))))))), hm, F.kp, F.binds (ps := ["entry", "states", "signs"]) (fun _ _ _ _ _ _ us hl => by obtain ⟨_, _, _, rfl⟩ := L3.len3 hl; rfl)⟩, mDef_st _ _ _⟩
theorem fn_renamed_row (Z : Zk K mg ca) : FnH P w K mg base ca "renamed_row" 2 3 f_renamed_row := by
  obtain ⟨f, fd, F, hm⟩ := Z.u_renamed_row
  exact ⟨⟨f, fd, ["row", "states", "signs"], fn_ok F sc_renamed_row rfl rfl (fun cdv A outer s H E hr => (r_consS (r_setComp 3 sc_renamed_row.nd (bscope_mk (Nb := ["entry"]) (no := 1) (cap := []) (N := N_renamed_row) (sc := defScope s_renamed_row) rfl rfl (by decide +kernel)) rfl (r_itSeq (r_var 0)) (fun cl C s3 H3 ex => ⟨(r_gset 0 (show List.Nodup (["entry"] : List Str) by decide +kernel)), r_if0, r_non⟩))
  (r_consS (r_for rfl (r_zip Z.z_zip (r_var 2) (r_var 0)) (r_gtup rfl (r_gcons (r_gset 4 sc_renamed_row.nd) (r_gcons (r_gset 5 sc_renamed_row.nd) r_gnil))) (r_oneS (r_setIx (r_var 3) (r_var 4) (r_call (fn_renamed_entry Z) (hr.mono (by omega)) (r_cns (r_var 5) (r_cns (r_var 1) (r_cns (r_var 2) r_nil)))))))
  (r_oneS (r_ret (r_var 3)))))), hm, F.kp, F.binds (ps := ["row", "states", "signs"]) (fun _ _ _ _ _ _ us hl => by obtain ⟨_, _, _, rfl⟩ := L3.len3 hl; rfl)⟩, mDef_st _ _ _⟩
theorem fn_renamed (Z : Zk K mg ca) : FnH P w K mg base ca "renamed" 7 3 f_renamed := by
  obtain ⟨f, fd, F, hm⟩ := Z.u_renamed
  exact ⟨⟨f, fd, ["machine", "states", "signs"], fn_ok F sc_renamed rfl rfl (fun cdv A outer s H E hr => (r_consS (r_expr (r_call (fn_check_names Z) (hr.mono (by omega)) (r_cns (r_var 1) (r_cns (r_call (fn_states_of Z) (hr.mono (by omega)) (r_cns (r_var 0) r_nil)) r_nil))))
  (r_consS (r_expr (r_call (fn_check_names Z) (hr.mono (by omega)) (r_cns (r_var 2) (r_cns (r_call (fn_signs_of Z) (hr.mono (by omega)) (r_cns (r_var 0) r_nil)) r_nil))))
  (r_consS (r_setComp 3 sc_renamed.nd (bscope_mk (Nb := ["row"]) (no := 1) (cap := []) (N := N_renamed) (sc := defScope s_renamed) rfl rfl (by decide +kernel)) rfl (r_itSeq (r_attr (r_var 0) Z.a_table)) (fun cl C s3 H3 ex => ⟨(r_gset 0 (show List.Nodup (["row"] : List Str) by decide +kernel)), r_if0, (r_tup r_nil)⟩))
  (r_consS (r_for rfl (r_zip Z.z_zip (r_var 1) (r_attr (r_var 0) Z.a_table)) (r_gtup rfl (r_gcons (r_gset 4 sc_renamed.nd) (r_gcons (r_gset 5 sc_renamed.nd) r_gnil))) (r_oneS (r_setIx (r_var 3) (r_var 4) (r_call (fn_renamed_row Z) (hr.mono (by omega)) (r_cns (r_var 5) (r_cns (r_var 1) (r_cns (r_var 2) r_nil)))))))
  (r_oneS (r_ret (r_make (fn_Machine_init Z) (hr.mono (by omega)) (r_cns (r_var 3) r_nil))))))))), hm, F.kp, F.binds (ps := ["machine", "states", "signs"]) (fun _ _ _ _ _ _ us hl => by obtain ⟨_, _, _, rfl⟩ := L3.len3 hl; rfl)⟩, mDef_st _ _ _⟩
theorem fn_L_next (Z : Zk K mg ca) : FnH P w K mg base ca "_law_next" 1 2 f_L_next := by
  obtain ⟨f, fd, F, hm⟩ := Z.u_L_next
  exact ⟨⟨f, fd, ["_law_script", "_law_at"], fn_ok F sc_L_next rfl rfl (fun cdv A outer s H E hr => (r_consS (r_setIx (r_var 1) r_int (r_add (r_sub1 (r_var 1) r_int) r_int))
  (r_consS (r_sto 2 sc_L_next.nd r_int)
  (r_consS (r_if (r_gtT (r_len Z.z_len (r_var 0)) r_int) (r_oneS (r_sto 2 sc_L_next.nd (r_sub1 (r_var 0) (r_mod (r_sub1 (r_var 1) r_int) (r_len Z.z_len (r_var 0)))))) r_nilS)
  (r_consS (r_sto 3 sc_L_next.nd (r_mod (r_mul (r_add (r_add (r_mod (r_var 2) r_int) (r_mul (r_mul (r_sub1 (r_var 1) r_int) (r_sub1 (r_var 1) r_int)) r_int)) r_int) r_int) r_int))
  (r_oneS (r_ret (r_mod (r_mul (r_var 3) (r_var 3)) r_int)))))))), hm, F.kp, F.binds (ps := ["_law_script", "_law_at"]) (fun _ _ _ _ _ _ us hl => by obtain ⟨_, _, rfl⟩ := L3.len2 hl; rfl)⟩, mDef_st _ _ _⟩
theorem fn_L_same (Z : Zk K mg ca) : ∀ n : Nat, FnH P w K mg base ca "_law_same" (1 + n) 2 (f_L_same n)
  | 0 => by
    obtain ⟨f, fd, F, hm⟩ := Z.u_L_same
    exact ⟨⟨f, fd, ["_law_found", "_law_due"], fn_none rfl, hm, F.kp, F.binds (ps := ["_law_found", "_law_due"]) (fun _ _ _ _ _ _ us hl => by obtain ⟨_, _, rfl⟩ := L3.len2 hl; rfl)⟩, fun _ _ _ => rfl⟩
  | n + 1 => by
    have ih := fn_L_same Z n
    obtain ⟨f, fd, F, hm⟩ := Z.u_L_same
    exact ⟨⟨f, fd, ["_law_found", "_law_due"], fn_ok F sc_L_same rfl rfl (fun cdv A outer s H E hr => (r_consS (r_if (r_test (r_isin .dict Z.z_isinstance Z.z_dict bt_dict (r_var 1))) (r_consS (r_if (r_w (r_orT (r_notT (r_test (r_isin .dict Z.z_isinstance Z.z_dict bt_dict (r_var 0)))) (r_orT1 (r_neT hr (r_len Z.z_len (r_var 0)) (r_len Z.z_len (r_var 1)))))) (r_oneS (r_ret r_bl)) r_nilS)
  (r_oneS (r_ret (r_all rfl Z.z_all (r_comp (bscope_mk (Nb := ["_law_name", "_law_found", "_law_due"]) (no := 1) (cap := [0, 1]) (N := N_L_same) (sc := defScope s_L_same) rfl rfl (by decide +kernel)) rfl (r_itSeq (r_var 1)) (fun cl C s3 H3 ex => ⟨(r_gset 0 (show List.Nodup (["_law_name", "_law_found", "_law_due"] : List Str) by decide +kernel)), r_if0, (r_and (r_in (r_var 0) (r_var 1)) (r_one (r_call ih hr (r_cns (r_sub1 (r_var 1) (r_var 0)) (r_cns (r_sub1 (r_var 2) (r_var 0)) r_nil)))))⟩)))))) r_nilS)
  (r_consS (r_if (r_w (r_orT (r_test (r_isin .list Z.z_isinstance Z.z_list bt_list (r_var 1))) (r_orT1 (r_test (r_isin .tuple Z.z_isinstance Z.z_tuple bt_tuple (r_var 1)))))) (r_consS (r_if (r_w (r_orT (r_neT hr (r_isin .list Z.z_isinstance Z.z_list bt_list (r_var 0)) (r_isin .list Z.z_isinstance Z.z_list bt_list (r_var 1))) (r_orT1 (r_neT hr (r_isin .tuple Z.z_isinstance Z.z_tuple bt_tuple (r_var 0)) (r_isin .tuple Z.z_isinstance Z.z_tuple bt_tuple (r_var 1)))))) (r_oneS (r_ret r_bl)) r_nilS)
  (r_oneS (r_ret (r_and (r_eq hr (r_len Z.z_len (r_var 0)) (r_len Z.z_len (r_var 1))) (r_one (r_all rfl Z.z_all (r_comp (bscope_mk (Nb := ["_law_one", "_law_other"]) (no := 2) (cap := []) (N := N_L_same) (sc := defScope s_L_same) rfl rfl (by decide +kernel)) rfl (r_zip Z.z_zip (r_var 0) (r_var 1)) (fun cl C s3 H3 ex => ⟨(r_gtup rfl (r_gcons (r_gset 0 (show List.Nodup (["_law_one", "_law_other"] : List Str) by decide +kernel)) (r_gcons (r_gset 1 (show List.Nodup (["_law_one", "_law_other"] : List Str) by decide +kernel)) r_gnil))), r_if0, (r_call ih hr (r_cns (r_var 0) (r_cns (r_var 1) r_nil)))⟩)))))))) r_nilS)
  (r_consS (r_if (r_test (r_isin .str Z.z_isinstance Z.z_str bt_str (r_var 1))) (r_oneS (r_ret (r_and (r_isin .str Z.z_isinstance Z.z_str bt_str (r_var 0)) (r_one (r_eq hr (r_var 0) (r_var 1)))))) r_nilS)
  (r_oneS (r_ret (r_and (r_isin .int Z.z_isinstance Z.z_int bt_int (r_var 0)) (r_and (r_not (r_isin .bool Z.z_isinstance Z.z_bool bt_bool (r_var 0))) (r_one (r_eq hr (r_var 0) (r_var 1))))))))))), hm, F.kp, F.binds (ps := ["_law_found", "_law_due"]) (fun _ _ _ _ _ _ us hl => by obtain ⟨_, _, rfl⟩ := L3.len2 hl; rfl)⟩, mDef_st _ _ _⟩
theorem fn_L_table (Z : Zk K mg ca) : FnH P w K mg base ca "_law_table" 2 4 f_L_table := by
  obtain ⟨f, fd, F, hm⟩ := Z.u_L_table
  exact ⟨⟨f, fd, ["_law_script", "_law_at", "_law_states", "_law_signs"], fn_ok F sc_L_table rfl rfl (fun cdv A outer s H E hr => (r_consS (r_sto 4 sc_L_table.nd (r_lst r_nil))
  (r_consS (r_for rfl (r_range1 Z.z_range (r_var 2)) (r_gset 5 sc_L_table.nd) (r_consS (r_sto 6 sc_L_table.nd (r_lst r_nil))
  (r_consS (r_for rfl (r_range1 Z.z_range (r_var 3)) (r_gset 7 sc_L_table.nd) (r_consS (r_sto 8 sc_L_table.nd (r_call (fn_L_next Z) (hr.mono (by omega)) (r_cns (r_var 0) (r_cns (r_var 1) r_nil))))
  (r_consS (r_sto 9 sc_L_table.nd (r_tup (r_cns (r_mod (r_fdiv (r_var 8) r_int) (r_var 3)) (r_cns (r_sub1 r_str (r_mod (r_fdiv (r_var 8) r_int) r_int)) (r_cns (r_mod (r_fdiv (r_var 8) r_int) (r_var 2)) r_nil)))))
  (r_consS (r_if (r_eqT hr (r_mod (r_var 8) r_int) r_int) (r_oneS (r_sto 9 sc_L_table.nd r_non)) r_nilS)
  (r_oneS (r_expr (r_append (r_var 6) (r_var 9))))))))
  (r_oneS (r_expr (r_append (r_var 4) (r_var 6)))))))
  (r_oneS (r_ret (r_var 4)))))), hm, F.kp, F.binds (ps := ["_law_script", "_law_at", "_law_states", "_law_signs"]) (fun _ _ _ _ _ _ us hl => by obtain ⟨_, _, _, _, rfl⟩ := L3.len4 hl; rfl)⟩, mDef_st _ _ _⟩
theorem fn_L_order (Z : Zk K mg ca) : FnH P w K mg base ca "_law_order" 2 3 f_L_order := by
  obtain ⟨f, fd, F, hm⟩ := Z.u_L_order
  exact ⟨⟨f, fd, ["_law_script", "_law_at", "_law_many"], fn_ok F sc_L_order rfl rfl (fun cdv A outer s H E hr => (r_consS (r_sto 3 sc_L_order.nd (r_lst r_nil))
  (r_consS (r_for rfl (r_range2 Z.z_range r_int (r_var 2)) (r_gset 4 sc_L_order.nd) (r_oneS (r_expr (r_insert (r_var 3) (r_mod (r_call (fn_L_next Z) (hr.mono (by omega)) (r_cns (r_var 0) (r_cns (r_var 1) r_nil))) (r_add (r_len Z.z_len (r_var 3)) r_int)) (r_var 4)))))
  (r_oneS (r_ret (r_add (r_lst (r_cns r_int r_nil)) (r_var 3))))))), hm, F.kp, F.binds (ps := ["_law_script", "_law_at", "_law_many"]) (fun _ _ _ _ _ _ us hl => by obtain ⟨_, _, _, rfl⟩ := L3.len3 hl; rfl)⟩, mDef_st _ _ _⟩
theorem fn_L_entries (Z : Zk K mg ca) : FnH P w K mg base ca "_law_entries" 8 2 f_L_entries := by
  obtain ⟨f, fd, F, hm⟩ := Z.u_L_entries
  exact ⟨⟨f, fd, ["_law_found", "_law_due"], fn_ok F sc_L_entries rfl rfl (fun cdv A outer s H E hr => (r_consS (r_if (r_w (r_orT (r_notT (r_test (r_isin .tuple Z.z_isinstance Z.z_tuple bt_tuple (r_var 0)))) (r_orT1 (r_neT hr (r_len Z.z_len (r_var 0)) (r_len Z.z_len (r_var 1)))))) (r_oneS (r_ret r_bl)) r_nilS)
  (r_consS (r_for rfl (r_zip Z.z_zip (r_var 0) (r_var 1)) (r_gtup rfl (r_gcons (r_gset 2 sc_L_entries.nd) (r_gcons (r_gset 3 sc_L_entries.nd) r_gnil))) (r_consS (r_if (r_w (r_orT (r_notT (r_test (r_isin .tuple Z.z_isinstance Z.z_tuple bt_tuple (r_var 2)))) (r_orT1 (r_neT hr (r_len Z.z_len (r_var 2)) (r_len Z.z_len (r_var 3)))))) (r_oneS (r_ret r_bl)) r_nilS)
  (r_oneS (r_for rfl (r_zip Z.z_zip (r_var 2) (r_var 3)) (r_gtup rfl (r_gcons (r_gset 4 sc_L_entries.nd) (r_gcons (r_gset 5 sc_L_entries.nd) r_gnil))) (r_oneS (r_if (r_w (r_orT (r_w (r_andT (r_isT (r_var 5) r_non) (r_andT1 (r_isNotT (r_var 4) r_non)))) (r_orT1 (r_w (r_andT (r_isNotT (r_var 5) r_non) (r_andT1 (r_notT (r_test (r_call (fn_L_same Z 6) (hr.mono (by omega)) (r_cns (r_var 4) (r_cns (r_var 5) r_nil))))))))))) (r_oneS (r_ret r_bl)) r_nilS))))))
  (r_oneS (r_ret r_bl))))), hm, F.kp, F.binds (ps := ["_law_found", "_law_due"]) (fun _ _ _ _ _ _ us hl => by obtain ⟨_, _, rfl⟩ := L3.len2 hl; rfl)⟩, mDef_st _ _ _⟩
theorem fn_L_mirrored (Z : Zk K mg ca) : FnH P w K mg base ca "_law_mirrored" 1 1 f_L_mirrored := by
  obtain ⟨f, fd, F, hm⟩ := Z.u_L_mirrored
  exact ⟨⟨f, fd, ["_law_table_here"], fn_ok F sc_L_mirrored rfl rfl (fun cdv A outer s H E hr => (r_consS (r_sto 1 sc_L_mirrored.nd (r_lst r_nil))
  (r_consS (r_for rfl (r_itSeq (r_var 0)) (r_gset 2 sc_L_mirrored.nd) (r_consS (r_sto 3 sc_L_mirrored.nd (r_lst r_nil))
  (r_consS (r_for rfl (r_itSeq (r_var 2)) (r_gset 4 sc_L_mirrored.nd) (r_consS (r_sto 5 sc_L_mirrored.nd r_non)
  (r_consS (r_if (r_isNotT (r_var 4) r_non) (r_oneS (r_sto 5 sc_L_mirrored.nd (r_tup (r_cns (r_sub1 (r_var 4) r_int) (r_cns (r_sub1 r_str (r_toInt Z.z_int (r_eq hr (r_sub1 (r_var 4) r_int) r_str))) (r_cns (r_sub1 (r_var 4) r_int) r_nil)))))) r_nilS)
  (r_oneS (r_expr (r_append (r_var 3) (r_var 5)))))))
  (r_oneS (r_expr (r_append (r_var 1) (r_var 3)))))))
  (r_oneS (r_ret (r_var 1)))))), hm, F.kp, F.binds (ps := ["_law_table_here"]) (fun _ _ _ _ _ _ us hl => by obtain ⟨_, rfl⟩ := L3.len1 hl; rfl)⟩, mDef_st _ _ _⟩
theorem fn_L_renamed (Z : Zk K mg ca) : FnH P w K mg base ca "_law_renamed" 1 3 f_L_renamed := by
  obtain ⟨f, fd, F, hm⟩ := Z.u_L_renamed
  exact ⟨⟨f, fd, ["_law_table_here", "_law_states", "_law_signs"], fn_ok F sc_L_renamed rfl rfl (fun cdv A outer s H E hr => (r_consS (r_setComp 3 sc_L_renamed.nd (bscope_mk (Nb := ["_law_line", "_law_signs"]) (no := 1) (cap := [2]) (N := N_L_renamed) (sc := defScope s_L_renamed) rfl rfl (by decide +kernel)) rfl (r_itSeq (r_var 0)) (fun cl C s3 H3 ex => ⟨(r_gset 0 (show List.Nodup (["_law_line", "_law_signs"] : List Str) by decide +kernel)), r_if0, (r_mul (r_lst (r_cns r_non r_nil)) (r_len Z.z_len (r_var 1)))⟩))
  (r_consS (r_for rfl (r_itEnum Z.z_enumerate (r_var 0)) (r_gtup rfl (r_gcons (r_gset 4 sc_L_renamed.nd) (r_gcons (r_gset 5 sc_L_renamed.nd) r_gnil))) (r_oneS (r_for rfl (r_itEnum Z.z_enumerate (r_var 5)) (r_gtup rfl (r_gcons (r_gset 6 sc_L_renamed.nd) (r_gcons (r_gset 7 sc_L_renamed.nd) r_gnil))) (r_oneS (r_if (r_isNotT (r_var 7) r_non) (r_oneS (r_setIx (r_sub1 (r_var 3) (r_sub1 (r_var 1) (r_var 4))) (r_sub1 (r_var 2) (r_var 6)) (r_tup (r_cns (r_sub1 (r_var 2) (r_sub1 (r_var 7) r_int)) (r_cns (r_sub1 (r_var 7) r_int) (r_cns (r_sub1 (r_var 1) (r_sub1 (r_var 7) r_int)) r_nil)))))) r_nilS)))))
  (r_oneS (r_ret (r_var 3)))))), hm, F.kp, F.binds (ps := ["_law_table_here", "_law_states", "_law_signs"]) (fun _ _ _ _ _ _ us hl => by obtain ⟨_, _, _, rfl⟩ := L3.len3 hl; rfl)⟩, mDef_st _ _ _⟩
theorem fn_L_back (Z : Zk K mg ca) : FnH P w K mg base ca "_law_back" 1 1 f_L_back := by
  obtain ⟨f, fd, F, hm⟩ := Z.u_L_back
  exact ⟨⟨f, fd, ["_law_names"], fn_ok F sc_L_back rfl rfl (fun cdv A outer s H E hr => (r_consS (r_sto 1 sc_L_back.nd (r_mul (r_lst (r_cns r_int r_nil)) (r_len Z.z_len (r_var 0))))
  (r_consS (r_for rfl (r_itEnum Z.z_enumerate (r_var 0)) (r_gtup rfl (r_gcons (r_gset 2 sc_L_back.nd) (r_gcons (r_gset 3 sc_L_back.nd) r_gnil))) (r_oneS (r_setIx (r_var 1) (r_var 3) (r_var 2))))
  (r_oneS (r_ret (r_var 1)))))), hm, F.kp, F.binds (ps := ["_law_names"]) (fun _ _ _ _ _ _ us hl => by obtain ⟨_, rfl⟩ := L3.len1 hl; rfl)⟩, mDef_st _ _ _⟩
theorem fn_L_wrong (Z : Zk K mg ca) : FnH P w K mg base ca "_law_wrong" 1 2 f_L_wrong := by
  obtain ⟨f, fd, F, hm⟩ := Z.u_L_wrong
  exact ⟨⟨f, fd, ["_law_m", "_law_names"], fn_ok F sc_L_wrong rfl rfl (fun cdv A outer s H E hr => (r_consS (r_sto 2 sc_L_wrong.nd (r_len Z.z_len (r_var 1)))
  (r_consS (r_sto 3 sc_L_wrong.nd (r_mod (r_fdiv (r_var 0) r_int) (r_var 2)))
  (r_consS (r_if (r_eqT hr (r_mod (r_var 0) r_int) r_int) (r_oneS (r_ret (r_add (r_var 1) (r_lst (r_cns (r_var 2) r_nil))))) r_nilS)
  (r_consS (r_if (r_eqT hr (r_mod (r_var 0) r_int) r_int) (r_oneS (r_ret (r_slice (r_var 1) r_noPart (r_part (r_sub (r_var 2) r_int))))) r_nilS)
  (r_consS (r_if (r_w (r_andT (r_eqT hr (r_mod (r_var 0) r_int) r_int) (r_andT1 (r_gtT (r_var 2) r_int)))) (r_oneS (r_ret (r_add (r_add (r_slice (r_var 1) r_noPart (r_part r_int)) (r_mul (r_lst (r_cns (r_sub1 (r_var 1) r_int) r_nil)) (r_sub (r_var 2) r_int))) (r_mul (r_lst (r_cns (r_sub1 (r_var 1) r_int) r_nil)) (r_toInt Z.z_int (r_eq hr (r_var 2) r_int)))))) r_nilS)
  (r_consS (r_if (r_eqT hr (r_mod (r_var 0) r_int) r_int) (r_oneS (r_ret (r_add (r_add (r_slice (r_var 1) r_noPart (r_part (r_var 3))) (r_lst (r_cns (r_var 2) r_nil))) (r_slice (r_var 1) (r_part (r_add (r_var 3) r_int)) r_noPart)))) r_nilS)
  (r_consS (r_if (r_w (r_andT (r_eqT hr (r_mod (r_var 0) r_int) r_int) (r_andT1 (r_gtT (r_var 2) r_int)))) (r_oneS (r_ret (r_add (r_slice (r_var 1) (r_part r_int) r_noPart) (r_slice (r_var 1) r_noPart (r_part r_int))))) r_nilS)
  (r_consS (r_if (r_w (r_andT (r_eqT hr (r_mod (r_var 0) r_int) r_int) (r_andT1 (r_gtT (r_var 2) r_int)))) (r_oneS (r_ret (r_comp (bscope_mk (Nb := ["_law_name"]) (no := 1) (cap := []) (N := N_L_wrong) (sc := defScope s_L_wrong) rfl rfl (by decide +kernel)) rfl (r_itSeq (r_var 1)) (fun cl C s3 H3 ex => ⟨(r_gset 0 (show List.Nodup (["_law_name"] : List Str) by decide +kernel)), r_if0, (r_ifE (r_eqT hr (r_var 0) r_int) r_bl (r_var 0))⟩)))) r_nilS)
  (r_oneS (r_ret (r_add (r_add (r_slice (r_var 1) r_noPart (r_part (r_var 3))) (r_lst (r_cns (r_neg r_int) r_nil))) (r_slice (r_var 1) (r_part (r_add (r_var 3) r_int)) r_noPart))))))))))))), hm, F.kp, F.binds (ps := ["_law_m", "_law_names"]) (fun _ _ _ _ _ _ us hl => by obtain ⟨_, _, rfl⟩ := L3.len2 hl; rfl)⟩, mDef_st _ _ _⟩
theorem fn_L_refused (Z : Zk K mg ca) : FnH P w K mg base ca "_law_refused" 8 3 f_L_refused := by
  obtain ⟨f, fd, F, hm⟩ := Z.u_L_refused
  exact ⟨⟨f, fd, ["_law_machine", "_law_states", "_law_signs"], fn_ok F sc_L_refused rfl rfl (fun cdv A outer s H E hr => (r_consS (r_sto 3 sc_L_refused.nd r_non)
  (r_consS (r_tryAs 4 sc_L_refused.nd Z.t_TapeError (r_oneS (r_expr (r_call (fn_renamed Z) (hr.mono (by omega)) (r_cns (r_var 0) (r_cns (r_var 1) (r_cns (r_var 2) r_nil)))))) (fun a => (r_oneS (r_sto 3 sc_L_refused.nd (r_var 4)))))
  (r_consS (r_if (r_w (r_orT (r_isT (r_var 3) r_non) (r_orT (r_test (r_isinX Z.z_isinstance Z.x_NoMachine (r_var 3))) (r_orT (r_test (r_isinX Z.z_isinstance Z.x_NoMove (r_var 3))) (r_orT1 (r_test (r_isinX Z.z_isinstance Z.x_NoNumber (r_var 3)))))))) (r_oneS (r_ret r_bl)) r_nilS)
  (r_consS (r_if (r_w (r_orT (r_test (r_isinX Z.z_isinstance Z.x_NoShape (r_var 3))) (r_orT (r_test (r_isinX Z.z_isinstance Z.x_NoShot (r_var 3))) (r_orT1 (r_test (r_isinX Z.z_isinstance Z.x_NoStretches (r_var 3))))))) (r_oneS (r_ret r_bl)) r_nilS)
  (r_consS (r_if (r_w (r_orT (r_test (r_isinX Z.z_isinstance Z.x_NoText (r_var 3))) (r_orT (r_test (r_isinX Z.z_isinstance Z.x_NoWidth (r_var 3))) (r_orT1 (r_test (r_isinX Z.z_isinstance Z.x_TooLong (r_var 3))))))) (r_oneS (r_ret r_bl)) r_nilS)
  (r_oneS (r_ret (r_and (r_isinX Z.z_isinstance Z.x_NoNames (r_var 3)) (r_one (r_isinB Z.z_isinstance Z.z_ValueError Z.x_ValueError (r_var 3)))))))))))), hm, F.kp, F.binds (ps := ["_law_machine", "_law_states", "_law_signs"]) (fun _ _ _ _ _ _ us hl => by obtain ⟨_, _, _, rfl⟩ := L3.len3 hl; rfl)⟩, mDef_st _ _ _⟩
theorem ok_law (Z : Zk K mg ca) {f : Addr} {fd : FuncData} (F : Fun K "law" "law" s_law f fd) : FnOk P w K mg base (CXW P w ca) 9 f fd ["_law_script"] (spM K ca 1 f_law) :=
  fn_ok F sc_law rfl rfl (fun cdv A outer s H E hr => (r_consS (r_sto 1 sc_law.nd (r_lst (r_cns r_int r_nil)))
  (r_consS (r_for rfl (r_range1 Z.z_range (r_add r_int (r_fdiv (r_len Z.z_len (r_slice (r_var 0) r_noPart (r_part r_int))) r_int))) (r_gset 2 sc_law.nd) (r_consS (r_sto 3 sc_law.nd (r_call (fn_L_next Z) (hr.mono (by omega)) (r_cns (r_var 0) (r_cns (r_var 1) r_nil))))
  (r_consS (r_sto 4 sc_law.nd (r_call (fn_L_table Z) (hr.mono (by omega)) (r_cns (r_var 0) (r_cns (r_var 1) (r_cns (r_add r_int (r_mod (r_var 3) r_int)) (r_cns (r_add r_int (r_mod (r_fdiv (r_var 3) r_int) r_int)) r_nil))))))
  (r_consS (r_sto 5 sc_law.nd (r_make (fn_Machine_init Z) (hr.mono (by omega)) (r_cns (r_var 4) r_nil)))
  (r_consS (r_sto 6 sc_law.nd (r_call (fn_L_order Z) (hr.mono (by omega)) (r_cns (r_var 0) (r_cns (r_var 1) (r_cns (r_len Z.z_len (r_var 4)) r_nil)))))
  (r_consS (r_sto 7 sc_law.nd (r_call (fn_L_order Z) (hr.mono (by omega)) (r_cns (r_var 0) (r_cns (r_var 1) (r_cns (r_len Z.z_len (r_sub1 (r_var 4) r_int)) r_nil)))))
  (r_consS (r_sto 8 sc_law.nd (r_lst (r_cns (r_list Z.z_list (r_var 6)) (r_cns (r_list Z.z_list (r_var 7)) r_nil))))
  (r_consS (r_if (r_notT (r_test (r_call (fn_L_entries Z) (hr.mono (by omega)) (r_cns (r_attr (r_call (fn_mirrored Z) (hr.mono (by omega)) (r_cns (r_var 5) r_nil)) Z.a_table) (r_cns (r_call (fn_L_mirrored Z) (hr.mono (by omega)) (r_cns (r_var 4) r_nil)) r_nil))))) (r_oneS (r_ret r_bl)) r_nilS)
  (r_consS (r_if (r_notT (r_test (r_call (fn_L_entries Z) (hr.mono (by omega)) (r_cns (r_attr (r_call (fn_mirrored Z) (hr.mono (by omega)) (r_cns (r_call (fn_mirrored Z) (hr.mono (by omega)) (r_cns (r_var 5) r_nil)) r_nil)) Z.a_table) (r_cns (r_var 4) r_nil))))) (r_oneS (r_ret r_bl)) r_nilS)
  (r_consS (r_sto 9 sc_law.nd (r_call (fn_renamed Z) (hr.mono (by omega)) (r_cns (r_var 5) (r_cns (r_sub1 (r_var 8) r_int) (r_cns (r_sub1 (r_var 8) r_int) r_nil)))))
  (r_consS (r_if (r_w (r_orT (r_notT (r_test (r_call (fn_L_entries Z) (hr.mono (by omega)) (r_cns (r_attr (r_var 9) Z.a_table) (r_cns (r_call (fn_L_renamed Z) (hr.mono (by omega)) (r_cns (r_var 4) (r_cns (r_var 6) (r_cns (r_var 7) r_nil)))) r_nil))))) (r_orT1 (r_neLLT hr (r_var 8) (r_lst (r_cns (r_var 6) (r_cns (r_var 7) r_nil))))))) (r_oneS (r_ret r_bl)) r_nilS)
  (r_consS (r_if (r_notT (r_test (r_call (fn_L_entries Z) (hr.mono (by omega)) (r_cns (r_attr (r_call (fn_renamed Z) (hr.mono (by omega)) (r_cns (r_var 9) (r_cns (r_call (fn_L_back Z) (hr.mono (by omega)) (r_cns (r_var 6) r_nil)) (r_cns (r_call (fn_L_back Z) (hr.mono (by omega)) (r_cns (r_var 7) r_nil)) r_nil)))) Z.a_table) (r_cns (r_var 4) r_nil))))) (r_oneS (r_ret r_bl)) r_nilS)
  (r_consS (r_sto 3 sc_law.nd (r_call (fn_L_next Z) (hr.mono (by omega)) (r_cns (r_var 0) (r_cns (r_var 1) r_nil))))
  (r_consS (r_if (r_notT (r_test (r_call (fn_L_refused Z) (hr.mono (by omega)) (r_cns (r_var 5) (r_cns (r_call (fn_L_wrong Z) (hr.mono (by omega)) (r_cns (r_fdiv (r_var 3) r_int) (r_cns (r_var 6) r_nil))) (r_cns (r_var 7) r_nil)))))) (r_oneS (r_ret r_bl)) r_nilS)
  (r_oneS (r_if (r_notT (r_test (r_call (fn_L_refused Z) (hr.mono (by omega)) (r_cns (r_var 5) (r_cns (r_var 6) (r_cns (r_call (fn_L_wrong Z) (hr.mono (by omega)) (r_cns (r_fdiv (r_var 3) r_int) (r_cns (r_var 7) r_nil))) r_nil)))))) (r_oneS (r_ret r_bl)) r_nilS))))))))))))))))
  (r_oneS (r_ret r_bl)))))
end
end V

end
section
namespace V
open PySem PySem.Spec PyProof.Rows L2 L3
noncomputable def caOf (l : List Nat) (n : Nat) : Addr := l.getD n 0
theorem z_mk {K : PySem.W.Frag} {h : Heap} {mg : Str → Option Value} (X : K.In h) (G : h.Ns mainGlobals mg) {C0 C1 C2 C3 C4 C5 C6 C7 C8 C9 C10 C11 : Addr} {oc1 kV1 dc1 pm1 cd1 ct1 : Value} {od1 an1 : Option Addr} {sl1 : Array (Option Value)} {f1 : Addr} {oc2 kV2 dc2 pm2 cd2 ct2 : Value} {od2 an2 : Option Addr} {sl2 : Array (Option Value)} {f2 : Addr} {oc3 kV3 dc3 pm3 cd3 ct3 : Value} {od3 an3 : Option Addr} {sl3 : Array (Option Value)} {f3 : Addr} {oc4 kV4 dc4 pm4 cd4 ct4 : Value} {od4 an4 : Option Addr} {sl4 : Array (Option Value)} {f4 : Addr} {oc5 kV5 dc5 pm5 cd5 ct5 : Value} {od5 an5 : Option Addr} {sl5 : Array (Option Value)} {f5 : Addr} {oc6 kV6 dc6 pm6 cd6 ct6 : Value} {od6 an6 : Option Addr} {sl6 : Array (Option Value)} {f6 : Addr} {oc7 kV7 dc7 pm7 cd7 ct7 : Value} {od7 an7 : Option Addr} {sl7 : Array (Option Value)} {f7 : Addr} {oc8 kV8 dc8 pm8 cd8 ct8 : Value} {od8 an8 : Option Addr} {sl8 : Array (Option Value)} {f8 : Addr} {oc9 kV9 dc9 pm9 cd9 ct9 : Value} {od9 an9 : Option Addr} {sl9 : Array (Option Value)} {f9 : Addr} {oc10 kV10 dc10 pm10 cd10 ct10 : Value} {od10 an10 : Option Addr} {sl10 : Array (Option Value)} {f10 : Addr} {oc11 kV11 dc11 pm11 cd11 ct11 : Value} {od11 an11 : Option Addr} {sl11 : Array (Option Value)} {f11 : Addr} {oc12 kV12 dc12 pm12 cd12 ct12 : Value} {od12 an12 : Option Addr} {sl12 : Array (Option Value)} {f12 : Addr} {oc13 kV13 dc13 pm13 cd13 ct13 : Value} {od13 an13 : Option Addr} {sl13 : Array (Option Value)} {f13 : Addr} {oc14 kV14 dc14 pm14 cd14 ct14 : Value} {od14 an14 : Option Addr} {sl14 : Array (Option Value)} {f14 : Addr} {oc15 kV15 dc15 pm15 cd15 ct15 : Value} {od15 an15 : Option Addr} {sl15 : Array (Option Value)} {f15 : Addr} {oc16 kV16 dc16 pm16 cd16 ct16 : Value} {od16 an16 : Option Addr} {sl16 : Array (Option Value)} {f16 : Addr} {oc17 kV17 dc17 pm17 cd17 ct17 : Value} {od17 an17 : Option Addr} {sl17 : Array (Option Value)} {f17 : Addr} {oc18 kV18 dc18 pm18 cd18 ct18 : Value} {od18 an18 : Option Addr} {sl18 : Array (Option Value)} {f18 : Addr} {oc19 kV19 dc19 pm19 cd19 ct19 : Value} {od19 an19 : Option Addr} {sl19 : Array (Option Value)} {f19 : Addr} {oc20 kV20 dc20 pm20 cd20 ct20 : Value} {od20 an20 : Option Addr} {sl20 : Array (Option Value)} {f20 : Addr} {oc21 kV21 dc21 pm21 cd21 ct21 : Value} {od21 an21 : Option Addr} {sl21 : Array (Option Value)} {f21 : Addr} {oc22 kV22 dc22 pm22 cd22 ct22 : Value} {od22 an22 : Option Addr} {sl22 : Array (Option Value)} {f22 : Addr} {oc23 kV23 dc23 pm23 cd23 ct23 : Value} {od23 an23 : Option Addr} {sl23 : Array (Option Value)} {f23 : Addr} {oc24 kV24 dc24 pm24 cd24 ct24 : Value} {od24 an24 : Option Addr} {sl24 : Array (Option Value)} {f24 : Addr} {oc25 kV25 dc25 pm25 cd25 ct25 : Value} {od25 an25 : Option Addr} {sl25 : Array (Option Value)} {f25 : Addr} {oc26 kV26 dc26 pm26 cd26 ct26 : Value} {od26 an26 : Option Addr} {sl26 : Array (Option Value)} {f26 : Addr} {og_LEFT : _} {og_RIGHT : _}
    (c0 : PySem.W.nsIn K mainGlobals "TapeError" = some (some (.ref C0)))
    (c1 : PySem.W.nsIn K mainGlobals "NoMachine" = some (some (.ref C1)))
    (c2 : PySem.W.nsIn K mainGlobals "NoNames" = some (some (.ref C2)))
    (c3 : PySem.W.nsIn K mainGlobals "NoNumber" = some (some (.ref C3)))
    (c4 : PySem.W.nsIn K mainGlobals "NoShot" = some (some (.ref C4)))
    (c5 : PySem.W.nsIn K mainGlobals "NoStretches" = some (some (.ref C5)))
    (c6 : PySem.W.nsIn K mainGlobals "TooLong" = some (some (.ref C6)))
    (c7 : PySem.W.nsIn K mainGlobals "NoShape" = some (some (.ref C7)))
    (c8 : PySem.W.nsIn K mainGlobals "NoMove" = some (some (.ref C8)))
    (c9 : PySem.W.nsIn K mainGlobals "NoWidth" = some (some (.ref C9)))
    (c10 : PySem.W.nsIn K mainGlobals "NoText" = some (some (.ref C10)))
    (c11 : PySem.W.nsIn K mainGlobals "Machine" = some (some (.ref C11)))
    (a1 : PySem.W.nsIn K mainGlobals "is_whole" = some (some (.ref f1)))
    (l1 : K.lookup f1 = some ⟨oc1, od1, .func (PySem.W.fnOf "is_whole" "is_whole" (defArgs s_is_whole) (defBody s_is_whole) (defScope s_is_whole) .none kV1 dc1 pm1 an1 cd1 ct1), sl1⟩)
    (d1 : PySem.W.codeIn K cd1 "is_whole" = true)
    (k1 : PySem.W.keepIn K (.ref f1) = true)
    (a2 : PySem.W.nsIn K mainGlobals "is_below" = some (some (.ref f2)))
    (l2 : K.lookup f2 = some ⟨oc2, od2, .func (PySem.W.fnOf "is_below" "is_below" (defArgs s_is_below) (defBody s_is_below) (defScope s_is_below) .none kV2 dc2 pm2 an2 cd2 ct2), sl2⟩)
    (d2 : PySem.W.codeIn K cd2 "is_below" = true)
    (k2 : PySem.W.keepIn K (.ref f2) = true)
    (a3 : PySem.W.nsIn K mainGlobals "other_way" = some (some (.ref f3)))
    (l3 : K.lookup f3 = some ⟨oc3, od3, .func (PySem.W.fnOf "other_way" "other_way" (defArgs s_other_way) (defBody s_other_way) (defScope s_other_way) .none kV3 dc3 pm3 an3 cd3 ct3), sl3⟩)
    (d3 : PySem.W.codeIn K cd3 "other_way" = true)
    (k3 : PySem.W.keepIn K (.ref f3) = true)
    (a4 : PySem.W.nsIn K mainGlobals "is_entry" = some (some (.ref f4)))
    (l4 : K.lookup f4 = some ⟨oc4, od4, .func (PySem.W.fnOf "is_entry" "is_entry" (defArgs s_is_entry) (defBody s_is_entry) (defScope s_is_entry) .none kV4 dc4 pm4 an4 cd4 ct4), sl4⟩)
    (d4 : PySem.W.codeIn K cd4 "is_entry" = true)
    (k4 : PySem.W.keepIn K (.ref f4) = true)
    (a5 : PySem.W.nsIn K mainGlobals "check_rows" = some (some (.ref f5)))
    (l5 : K.lookup f5 = some ⟨oc5, od5, .func (PySem.W.fnOf "check_rows" "check_rows" (defArgs s_check_rows) (defBody s_check_rows) (defScope s_check_rows) .none kV5 dc5 pm5 an5 cd5 ct5), sl5⟩)
    (d5 : PySem.W.codeIn K cd5 "check_rows" = true)
    (k5 : PySem.W.keepIn K (.ref f5) = true)
    (a6 : PySem.W.findIn K (.ref C11) "__init__" = some (some (.ref f6)))
    (l6 : K.lookup f6 = some ⟨oc6, od6, .func (PySem.W.fnOf "__init__" "Machine.__init__" (defArgs s_Machine_init) (defBody s_Machine_init) (defScope s_Machine_init) .none kV6 dc6 pm6 an6 cd6 ct6), sl6⟩)
    (d6 : PySem.W.codeIn K cd6 "Machine.__init__" = true)
    (k6 : PySem.W.keepIn K (.ref f6) = true)
    (i6 : PySem.W.isFn K (.ref f6) = true)
    (m6 : PySem.W.makesIn K C11 = true)
    (q6 : PySem.W.keepIn K (.ref C11) = true)
    (a7 : PySem.W.nsIn K mainGlobals "states_of" = some (some (.ref f7)))
    (l7 : K.lookup f7 = some ⟨oc7, od7, .func (PySem.W.fnOf "states_of" "states_of" (defArgs s_states_of) (defBody s_states_of) (defScope s_states_of) .none kV7 dc7 pm7 an7 cd7 ct7), sl7⟩)
    (d7 : PySem.W.codeIn K cd7 "states_of" = true)
    (k7 : PySem.W.keepIn K (.ref f7) = true)
    (a8 : PySem.W.nsIn K mainGlobals "signs_of" = some (some (.ref f8)))
    (l8 : K.lookup f8 = some ⟨oc8, od8, .func (PySem.W.fnOf "signs_of" "signs_of" (defArgs s_signs_of) (defBody s_signs_of) (defScope s_signs_of) .none kV8 dc8 pm8 an8 cd8 ct8), sl8⟩)
    (d8 : PySem.W.codeIn K cd8 "signs_of" = true)
    (k8 : PySem.W.keepIn K (.ref f8) = true)
    (a9 : PySem.W.nsIn K mainGlobals "mirrored_entry" = some (some (.ref f9)))
    (l9 : K.lookup f9 = some ⟨oc9, od9, .func (PySem.W.fnOf "mirrored_entry" "mirrored_entry" (defArgs s_mirrored_entry) (defBody s_mirrored_entry) (defScope s_mirrored_entry) .none kV9 dc9 pm9 an9 cd9 ct9), sl9⟩)
    (d9 : PySem.W.codeIn K cd9 "mirrored_entry" = true)
    (k9 : PySem.W.keepIn K (.ref f9) = true)
    (a10 : PySem.W.nsIn K mainGlobals "mirrored_row" = some (some (.ref f10)))
    (l10 : K.lookup f10 = some ⟨oc10, od10, .func (PySem.W.fnOf "mirrored_row" "mirrored_row" (defArgs s_mirrored_row) (defBody s_mirrored_row) (defScope s_mirrored_row) .none kV10 dc10 pm10 an10 cd10 ct10), sl10⟩)
    (d10 : PySem.W.codeIn K cd10 "mirrored_row" = true)
    (k10 : PySem.W.keepIn K (.ref f10) = true)
    (a11 : PySem.W.nsIn K mainGlobals "mirrored" = some (some (.ref f11)))
    (l11 : K.lookup f11 = some ⟨oc11, od11, .func (PySem.W.fnOf "mirrored" "mirrored" (defArgs s_mirrored) (defBody s_mirrored) (defScope s_mirrored) .none kV11 dc11 pm11 an11 cd11 ct11), sl11⟩)
    (d11 : PySem.W.codeIn K cd11 "mirrored" = true)
    (k11 : PySem.W.keepIn K (.ref f11) = true)
    (a12 : PySem.W.nsIn K mainGlobals "check_names" = some (some (.ref f12)))
    (l12 : K.lookup f12 = some ⟨oc12, od12, .func (PySem.W.fnOf "check_names" "check_names" (defArgs s_check_names) (defBody s_check_names) (defScope s_check_names) .none kV12 dc12 pm12 an12 cd12 ct12), sl12⟩)
    (d12 : PySem.W.codeIn K cd12 "check_names" = true)
    (k12 : PySem.W.keepIn K (.ref f12) = true)
    (a13 : PySem.W.nsIn K mainGlobals "renamed_entry" = some (some (.ref f13)))
    (l13 : K.lookup f13 = some ⟨oc13, od13, .func (PySem.W.fnOf "renamed_entry" "renamed_entry" (defArgs s_renamed_entry) (defBody s_renamed_entry) (defScope s_renamed_entry) .none kV13 dc13 pm13 an13 cd13 ct13), sl13⟩)
    (d13 : PySem.W.codeIn K cd13 "renamed_entry" = true)
    (k13 : PySem.W.keepIn K (.ref f13) = true)
    (a14 : PySem.W.nsIn K mainGlobals "renamed_row" = some (some (.ref f14)))
    (l14 : K.lookup f14 = some ⟨oc14, od14, .func (PySem.W.fnOf "renamed_row" "renamed_row" (defArgs s_renamed_row) (defBody s_renamed_row) (defScope s_renamed_row) .none kV14 dc14 pm14 an14 cd14 ct14), sl14⟩)
    (d14 : PySem.W.codeIn K cd14 "renamed_row" = true)
    (k14 : PySem.W.keepIn K (.ref f14) = true)
    (a15 : PySem.W.nsIn K mainGlobals "renamed" = some (some (.ref f15)))
    (l15 : K.lookup f15 = some ⟨oc15, od15, .func (PySem.W.fnOf "renamed" "renamed" (defArgs s_renamed) (defBody s_renamed) (defScope s_renamed) .none kV15 dc15 pm15 an15 cd15 ct15), sl15⟩)
    (d15 : PySem.W.codeIn K cd15 "renamed" = true)
    (k15 : PySem.W.keepIn K (.ref f15) = true)
    (a16 : PySem.W.nsIn K mainGlobals "_law_next" = some (some (.ref f16)))
    (l16 : K.lookup f16 = some ⟨oc16, od16, .func (PySem.W.fnOf "_law_next" "_law_next" (defArgs s_L_next) (defBody s_L_next) (defScope s_L_next) .none kV16 dc16 pm16 an16 cd16 ct16), sl16⟩)
    (d16 : PySem.W.codeIn K cd16 "_law_next" = true)
    (k16 : PySem.W.keepIn K (.ref f16) = true)
    (a17 : PySem.W.nsIn K mainGlobals "_law_same" = some (some (.ref f17)))
    (l17 : K.lookup f17 = some ⟨oc17, od17, .func (PySem.W.fnOf "_law_same" "_law_same" (defArgs s_L_same) (defBody s_L_same) (defScope s_L_same) .none kV17 dc17 pm17 an17 cd17 ct17), sl17⟩)
    (d17 : PySem.W.codeIn K cd17 "_law_same" = true)
    (k17 : PySem.W.keepIn K (.ref f17) = true)
    (a18 : PySem.W.nsIn K mainGlobals "_law_table" = some (some (.ref f18)))
    (l18 : K.lookup f18 = some ⟨oc18, od18, .func (PySem.W.fnOf "_law_table" "_law_table" (defArgs s_L_table) (defBody s_L_table) (defScope s_L_table) .none kV18 dc18 pm18 an18 cd18 ct18), sl18⟩)
    (d18 : PySem.W.codeIn K cd18 "_law_table" = true)
    (k18 : PySem.W.keepIn K (.ref f18) = true)
    (a19 : PySem.W.nsIn K mainGlobals "_law_order" = some (some (.ref f19)))
    (l19 : K.lookup f19 = some ⟨oc19, od19, .func (PySem.W.fnOf "_law_order" "_law_order" (defArgs s_L_order) (defBody s_L_order) (defScope s_L_order) .none kV19 dc19 pm19 an19 cd19 ct19), sl19⟩)
    (d19 : PySem.W.codeIn K cd19 "_law_order" = true)
    (k19 : PySem.W.keepIn K (.ref f19) = true)
    (a20 : PySem.W.nsIn K mainGlobals "_law_entries" = some (some (.ref f20)))
    (l20 : K.lookup f20 = some ⟨oc20, od20, .func (PySem.W.fnOf "_law_entries" "_law_entries" (defArgs s_L_entries) (defBody s_L_entries) (defScope s_L_entries) .none kV20 dc20 pm20 an20 cd20 ct20), sl20⟩)
    (d20 : PySem.W.codeIn K cd20 "_law_entries" = true)
    (k20 : PySem.W.keepIn K (.ref f20) = true)
    (a21 : PySem.W.nsIn K mainGlobals "_law_mirrored" = some (some (.ref f21)))
    (l21 : K.lookup f21 = some ⟨oc21, od21, .func (PySem.W.fnOf "_law_mirrored" "_law_mirrored" (defArgs s_L_mirrored) (defBody s_L_mirrored) (defScope s_L_mirrored) .none kV21 dc21 pm21 an21 cd21 ct21), sl21⟩)
    (d21 : PySem.W.codeIn K cd21 "_law_mirrored" = true)
    (k21 : PySem.W.keepIn K (.ref f21) = true)
    (a22 : PySem.W.nsIn K mainGlobals "_law_renamed" = some (some (.ref f22)))
    (l22 : K.lookup f22 = some ⟨oc22, od22, .func (PySem.W.fnOf "_law_renamed" "_law_renamed" (defArgs s_L_renamed) (defBody s_L_renamed) (defScope s_L_renamed) .none kV22 dc22 pm22 an22 cd22 ct22), sl22⟩)
    (d22 : PySem.W.codeIn K cd22 "_law_renamed" = true)
    (k22 : PySem.W.keepIn K (.ref f22) = true)
    (a23 : PySem.W.nsIn K mainGlobals "_law_back" = some (some (.ref f23)))
    (l23 : K.lookup f23 = some ⟨oc23, od23, .func (PySem.W.fnOf "_law_back" "_law_back" (defArgs s_L_back) (defBody s_L_back) (defScope s_L_back) .none kV23 dc23 pm23 an23 cd23 ct23), sl23⟩)
    (d23 : PySem.W.codeIn K cd23 "_law_back" = true)
    (k23 : PySem.W.keepIn K (.ref f23) = true)
    (a24 : PySem.W.nsIn K mainGlobals "_law_wrong" = some (some (.ref f24)))
    (l24 : K.lookup f24 = some ⟨oc24, od24, .func (PySem.W.fnOf "_law_wrong" "_law_wrong" (defArgs s_L_wrong) (defBody s_L_wrong) (defScope s_L_wrong) .none kV24 dc24 pm24 an24 cd24 ct24), sl24⟩)
    (d24 : PySem.W.codeIn K cd24 "_law_wrong" = true)
    (k24 : PySem.W.keepIn K (.ref f24) = true)
    (a25 : PySem.W.nsIn K mainGlobals "_law_refused" = some (some (.ref f25)))
    (l25 : K.lookup f25 = some ⟨oc25, od25, .func (PySem.W.fnOf "_law_refused" "_law_refused" (defArgs s_L_refused) (defBody s_L_refused) (defScope s_L_refused) .none kV25 dc25 pm25 an25 cd25 ct25), sl25⟩)
    (d25 : PySem.W.codeIn K cd25 "_law_refused" = true)
    (k25 : PySem.W.keepIn K (.ref f25) = true)
    (a26 : PySem.W.nsIn K mainGlobals "law" = some (some (.ref f26)))
    (l26 : K.lookup f26 = some ⟨oc26, od26, .func (PySem.W.fnOf "law" "law" (defArgs s_law) (defBody s_law) (defScope s_law) .none kV26 dc26 pm26 an26 cd26 ct26), sl26⟩)
    (d26 : PySem.W.codeIn K cd26 "law" = true)
    (k26 : PySem.W.keepIn K (.ref f26) = true)
    (nz_ValueError : PySem.W.nsIn K mainGlobals "ValueError" = some none)
    (nz_all : PySem.W.nsIn K mainGlobals "all" = some none)
    (nz_bool : PySem.W.nsIn K mainGlobals "bool" = some none)
    (nz_dict : PySem.W.nsIn K mainGlobals "dict" = some none)
    (nz_enumerate : PySem.W.nsIn K mainGlobals "enumerate" = some none)
    (nz_int : PySem.W.nsIn K mainGlobals "int" = some none)
    (nz_isinstance : PySem.W.nsIn K mainGlobals "isinstance" = some none)
    (nz_len : PySem.W.nsIn K mainGlobals "len" = some none)
    (nz_list : PySem.W.nsIn K mainGlobals "list" = some none)
    (nz_range : PySem.W.nsIn K mainGlobals "range" = some none)
    (nz_sorted : PySem.W.nsIn K mainGlobals "sorted" = some none)
    (nz_str : PySem.W.nsIn K mainGlobals "str" = some none)
    (nz_tuple : PySem.W.nsIn K mainGlobals "tuple" = some none)
    (nz_zip : PySem.W.nsIn K mainGlobals "zip" = some none)
    (ng_LEFT : PySem.W.nsIn K mainGlobals "LEFT" = some (some (.str (Str.ofString "l") og_LEFT)))
    (ng_RIGHT : PySem.W.nsIn K mainGlobals "RIGHT" = some (some (.str (Str.ofString "r") og_RIGHT)))
    (nt_TapeError : catB K (caOf [C0, C1, C2, C3, C4, C5, C6, C7, C8, C9, C10, C11]) C0 [0, 1, 2, 3, 4, 5, 6, 7, 8, 9, 10] [] = true)
    (nx_NoMachine : isxB K (caOf [C0, C1, C2, C3, C4, C5, C6, C7, C8, C9, C10, C11]) (.ref C1) [0, 1, 2, 3, 4, 5, 6, 7, 8, 9, 10] [1] = true)
    (nx_NoMove : isxB K (caOf [C0, C1, C2, C3, C4, C5, C6, C7, C8, C9, C10, C11]) (.ref C8) [0, 1, 2, 3, 4, 5, 6, 7, 8, 9, 10] [8] = true)
    (nx_NoNames : isxB K (caOf [C0, C1, C2, C3, C4, C5, C6, C7, C8, C9, C10, C11]) (.ref C2) [0, 1, 2, 3, 4, 5, 6, 7, 8, 9, 10] [2] = true)
    (nx_NoNumber : isxB K (caOf [C0, C1, C2, C3, C4, C5, C6, C7, C8, C9, C10, C11]) (.ref C3) [0, 1, 2, 3, 4, 5, 6, 7, 8, 9, 10] [3] = true)
    (nx_NoShape : isxB K (caOf [C0, C1, C2, C3, C4, C5, C6, C7, C8, C9, C10, C11]) (.ref C7) [0, 1, 2, 3, 4, 5, 6, 7, 8, 9, 10] [7] = true)
    (nx_NoShot : isxB K (caOf [C0, C1, C2, C3, C4, C5, C6, C7, C8, C9, C10, C11]) (.ref C4) [0, 1, 2, 3, 4, 5, 6, 7, 8, 9, 10] [4] = true)
    (nx_NoStretches : isxB K (caOf [C0, C1, C2, C3, C4, C5, C6, C7, C8, C9, C10, C11]) (.ref C5) [0, 1, 2, 3, 4, 5, 6, 7, 8, 9, 10] [5] = true)
    (nx_NoText : isxB K (caOf [C0, C1, C2, C3, C4, C5, C6, C7, C8, C9, C10, C11]) (.ref C10) [0, 1, 2, 3, 4, 5, 6, 7, 8, 9, 10] [10] = true)
    (nx_NoWidth : isxB K (caOf [C0, C1, C2, C3, C4, C5, C6, C7, C8, C9, C10, C11]) (.ref C9) [0, 1, 2, 3, 4, 5, 6, 7, 8, 9, 10] [9] = true)
    (nx_TooLong : isxB K (caOf [C0, C1, C2, C3, C4, C5, C6, C7, C8, C9, C10, C11]) (.ref C6) [0, 1, 2, 3, 4, 5, 6, 7, 8, 9, 10] [6] = true)
    (nx_ValueError : isxB K (caOf [C0, C1, C2, C3, C4, C5, C6, C7, C8, C9, C10, C11]) (.type "ValueError") [0, 1, 2, 3, 4, 5, 6, 7, 8, 9, 10] [0, 1, 2, 3, 4, 5, 6, 7, 8, 9, 10] = true)
    (ne_NoMachine : PySem.W.excIn K C1 bmV "ValueError.__new__" = true)
    (ne_NoNames : PySem.W.excIn K C2 bmV "ValueError.__new__" = true)
    (na_table : fldB K (caOf [C0, C1, C2, C3, C4, C5, C6, C7, C8, C9, C10, C11]) [11] "table" = true) : Zk K mg (caOf [C0, C1, C2, C3, C4, C5, C6, C7, C8, C9, C10, C11]) :=
  ⟨PySem.W.mg_none_of X G nz_ValueError,
   PySem.W.mg_none_of X G nz_all,
   PySem.W.mg_none_of X G nz_bool,
   PySem.W.mg_none_of X G nz_dict,
   PySem.W.mg_none_of X G nz_enumerate,
   PySem.W.mg_none_of X G nz_int,
   PySem.W.mg_none_of X G nz_isinstance,
   PySem.W.mg_none_of X G nz_len,
   PySem.W.mg_none_of X G nz_list,
   PySem.W.mg_none_of X G nz_range,
   PySem.W.mg_none_of X G nz_sorted,
   PySem.W.mg_none_of X G nz_str,
   PySem.W.mg_none_of X G nz_tuple,
   PySem.W.mg_none_of X G nz_zip,
   ⟨_, PySem.W.mg_of X G ng_LEFT⟩,
   ⟨_, PySem.W.mg_of X G ng_RIGHT⟩,
   ⟨PySem.W.mg_of X G c0, cat_of nt_TapeError⟩,
   ⟨PySem.W.mg_of X G c1, isx_of nx_NoMachine⟩,
   ⟨PySem.W.mg_of X G c8, isx_of nx_NoMove⟩,
   ⟨PySem.W.mg_of X G c2, isx_of nx_NoNames⟩,
   ⟨PySem.W.mg_of X G c3, isx_of nx_NoNumber⟩,
   ⟨PySem.W.mg_of X G c7, isx_of nx_NoShape⟩,
   ⟨PySem.W.mg_of X G c4, isx_of nx_NoShot⟩,
   ⟨PySem.W.mg_of X G c5, isx_of nx_NoStretches⟩,
   ⟨PySem.W.mg_of X G c10, isx_of nx_NoText⟩,
   ⟨PySem.W.mg_of X G c9, isx_of nx_NoWidth⟩,
   ⟨PySem.W.mg_of X G c6, isx_of nx_TooLong⟩,
   ⟨bt_ValueError, isx_of nx_ValueError⟩,
   ⟨PySem.W.mg_of X G c1, ne_NoMachine⟩,
   ⟨PySem.W.mg_of X G c2, ne_NoNames⟩,
   fld_of na_table,
   ⟨f1, _, fun_mk (st := s_is_whole) l1 d1 k1, PySem.W.mg_of X G a1⟩,
   ⟨f2, _, fun_mk (st := s_is_below) l2 d2 k2, PySem.W.mg_of X G a2⟩,
   ⟨f3, _, fun_mk (st := s_other_way) l3 d3 k3, PySem.W.mg_of X G a3⟩,
   ⟨f4, _, fun_mk (st := s_is_entry) l4 d4 k4, PySem.W.mg_of X G a4⟩,
   ⟨f5, _, fun_mk (st := s_check_rows) l5 d5 k5, PySem.W.mg_of X G a5⟩,
   ⟨f6, _, fun_mk (st := s_Machine_init) l6 d6 k6, ⟨m6, a6, i6, q6⟩, PySem.W.mg_of X G c11⟩,
   ⟨f7, _, fun_mk (st := s_states_of) l7 d7 k7, PySem.W.mg_of X G a7⟩,
   ⟨f8, _, fun_mk (st := s_signs_of) l8 d8 k8, PySem.W.mg_of X G a8⟩,
   ⟨f9, _, fun_mk (st := s_mirrored_entry) l9 d9 k9, PySem.W.mg_of X G a9⟩,
   ⟨f10, _, fun_mk (st := s_mirrored_row) l10 d10 k10, PySem.W.mg_of X G a10⟩,
   ⟨f11, _, fun_mk (st := s_mirrored) l11 d11 k11, PySem.W.mg_of X G a11⟩,
   ⟨f12, _, fun_mk (st := s_check_names) l12 d12 k12, PySem.W.mg_of X G a12⟩,
   ⟨f13, _, fun_mk (st := s_renamed_entry) l13 d13 k13, PySem.W.mg_of X G a13⟩,
   ⟨f14, _, fun_mk (st := s_renamed_row) l14 d14 k14, PySem.W.mg_of X G a14⟩,
   ⟨f15, _, fun_mk (st := s_renamed) l15 d15 k15, PySem.W.mg_of X G a15⟩,
   ⟨f16, _, fun_mk (st := s_L_next) l16 d16 k16, PySem.W.mg_of X G a16⟩,
   ⟨f17, _, fun_mk (st := s_L_same) l17 d17 k17, PySem.W.mg_of X G a17⟩,
   ⟨f18, _, fun_mk (st := s_L_table) l18 d18 k18, PySem.W.mg_of X G a18⟩,
   ⟨f19, _, fun_mk (st := s_L_order) l19 d19 k19, PySem.W.mg_of X G a19⟩,
   ⟨f20, _, fun_mk (st := s_L_entries) l20 d20 k20, PySem.W.mg_of X G a20⟩,
   ⟨f21, _, fun_mk (st := s_L_mirrored) l21 d21 k21, PySem.W.mg_of X G a21⟩,
   ⟨f22, _, fun_mk (st := s_L_renamed) l22 d22 k22, PySem.W.mg_of X G a22⟩,
   ⟨f23, _, fun_mk (st := s_L_back) l23 d23 k23, PySem.W.mg_of X G a23⟩,
   ⟨f24, _, fun_mk (st := s_L_wrong) l24 d24 k24, PySem.W.mg_of X G a24⟩,
   ⟨f25, _, fun_mk (st := s_L_refused) l25 d25 k25, PySem.W.mg_of X G a25⟩,
   ⟨f26, _, fun_mk (st := s_law) l26 d26 k26, PySem.W.mg_of X G a26⟩⟩
theorem walk {l : PySem.W.OpenLaw} {p : Program} {loose : List Str} {XP : (Str → Option Value) → Heap → Prop} {YP : World → Heap → Prop} {d : DefRec} {K : Params → PySem.W.Frag} (C : List Nat) (hn : l.most = some 63) (hdf : d.params.defaults = []) (hd : d.name = "law")
    (hY : ∀ (w : World) (h : Heap), YP w h → (K w.params).In h) (F : ∀ (w : World) (mg : Str → Option Value) (h : Heap), (K w.params).In h → h.Ns mainGlobals mg → Zk (K w.params) mg (caOf C))
    (M : ∀ ns : List Int, ns.length ≤ 63 → ∃ g', f_law [.fl (ns.map D.int)] [] = .ok (.bl true) g') : PySem.W.WalkO p loose XP YP l.row.toRowW d [] (fun f vs => PySem.call f vs) := by
  refine L2.walk_of (n := 63) (k := 9) (x := "_law_script") (CX := fun w => CXW l.prog w (caOf C)) (sp := fun w => spM (K w.params) (caOf C) 1 f_law) hn (by decide) hdf ⟨rfl, by decide, by decide⟩ hY (fun w mg fa h KX G hmg => ?_) (fun w H a ns hl hO hS => law_sp hO hS (M ns hl)) (fun w H s e s' z => ?_)
  · have Z := F w mg h KX G
    obtain ⟨f, fd, Fu, hm⟩ := Z.u_law
    rw [hd] at hmg
    have e := hmg.symm.trans hm
    cases e
    refine ⟨fd, fun s u => ?_, fun base _ _ => ok_law Z Fu⟩
    obtain ⟨oc, od, kV, doc, pm, an, cdv, ct, osl, rfl, lk, hcd⟩ := Fu.ex
    exact .of_eq rfl
  · obtain ⟨_, _, _, _, _, _, _, _, _, _, z⟩ := z
    exact z
end V

end
section
namespace V
open PySem PySem.W PySem.W.X PySem.Spec PyProof.Rows
theorem walkX_of {as : List Addr} {K : Params → Frag} {n t : Nat} {q : Program} {loose : List Str} {XP : (Str → Option Value) → Heap → Prop} {r : RowW} {d : DefRec} {kwd : List (Str × PySem.Expr)} {run : Value → List Value → Sem Value}
    (e : ∀ P, as = (K P).map (·.1)) (h : WalkO q loose XP (InK K) r d kwd run) : WalkX q loose XP (obsZ as) (valZ K n t) r d kwd run :=
  fun w s₀ s₁ mg mb G y a o pm cd doc dV kV h1 h2 h3 h4 h5 h6 args vals as' L p1 p2 p3 p4 p5 =>
    h w s₀ s₁ mg mb G (InK.keeps w _ _ (z_facts e y).2.1 L.keeps) a o pm cd doc dV kV h1 h2 h3 h4 h5 h6 args vals as' p1 p2 p3 p4 p5
end V

end
noncomputable def PySem.W.Fast.tw12043121240995187336 : PySem.Program := PySem.Challenge.pw_tapeproof_k02_turns
theorem PySem.W.Fast.te12043121240995187336 : PySem.Challenge.pw_tapeproof_k02_turns = PySem.W.Fast.tw12043121240995187336 := rfl
def PySem.W.Fast.tw703121285979222842 : Unit := ()
def PySem.W.Fast.tw9328596228916147872 : Unit := ()
def PySem.W.Fast.tw1999488994569950695 : Unit := ()
def PySem.W.Fast.tw8192235626076327974 : Unit := ()
def PySem.W.Fast.tw14931589981360098099 : Unit := ()
def PySem.W.Fast.tw10367974039427117988 : Unit := ()
def PySem.W.Fast.tw5910962303514374921 : Unit := ()
def PySem.W.Fast.tw3340545676625599472 : Unit := ()
def PySem.W.Fast.tw5867023556496034253 : Unit := ()
def PySem.W.Fast.tw15894075050482416083 : Unit := ()
def PySem.W.Fast.tw7440152173961301896 : Unit := ()
def PySem.W.Fast.tw17016069998094306432 : Unit := ()
def PySem.W.Fast.tw3840685538227070675 : Unit := ()
def PySem.W.Fast.tw15151161798453647412 : Unit := ()
def PySem.W.Fast.tw1717449672720302298 : Unit := ()
def PySem.W.Fast.tw10636614719053260563 : Unit := ()
def PySem.W.Fast.tw4578010657818081262 : Unit := ()
def PySem.W.Fast.tw7763721563580501388 : Unit := ()
def PySem.W.Fast.tw10286386050344908255 : Unit := ()
def PySem.W.Fast.tw13624142361540240109 : Unit := ()
def PySem.W.Fast.tw17256146133627090655 : Unit := ()
def PySem.W.Fast.tw10278542821208185564 : Unit := ()
def PySem.W.Fast.tw362277657801705206 : Unit := ()
def PySem.W.Fast.tw14074444909809501749 : Unit := ()
def PySem.W.Fast.tw15974475171342334702 : Unit := ()
def PySem.W.Fast.tw10127422373428421533 : Unit := ()
def PySem.W.Fast.tw3909698544866252165 : Unit := ()
def PySem.W.Fast.tw13057413608765904147 : Unit := ()
def PySem.W.Fast.tw14404953998831937753 : Unit := ()
def PySem.W.Fast.tw10340217157894528140 : Unit := ()
def PySem.W.Fast.tw7960709839949709775 : Unit := ()
def PySem.W.Fast.tw10168080808983600416 : Unit := ()
def PySem.W.Fast.tw6332059380663212969 : Unit := ()
def PySem.W.Fast.tw1153520274514599778 : Unit := ()
def PySem.W.Fast.tw708398584486562288 : Unit := ()
def PySem.W.Fast.tw8310096773091422794 : Unit := ()
def PySem.W.Fast.tw6071802259625176483 : Unit := ()
def PySem.W.Fast.tw7613469875144161646 : Unit := ()
def PySem.W.Fast.tw15984706421927213501 : Unit := ()
def PySem.W.Fast.tw7230535553137711987 : Unit := ()
def PySem.W.Fast.tw16443983164627741350 : Unit := ()
def PySem.W.Fast.tw9925240959558098039 : Unit := ()
def PySem.W.Fast.tw11434045899577465902 : Unit := ()
def PySem.W.Fast.tw15278560005728107816 : Unit := ()
def PySem.W.Fast.tw4599001026015539322 : Unit := ()
def PySem.W.Fast.tw1348677235021720954 : Unit := ()
def PySem.W.Fast.tw3786083101212200522 : Unit := ()
def PySem.W.Fast.tw454392428491280843 : Unit := ()
def PySem.W.Fast.tw1352197889160896984 : Unit := ()
def PySem.W.Fast.tw8645631143455869870 : Unit := ()
open PySem PySem.W PyProof.Rows
set_option maxRecDepth 100000 in
set_option maxHeartbeats 0 in
theorem PySem.Challenge.cw_tapeproof_k02_turns_holds : PySem.Challenge.rw_tapeproof_k02_turns.Holds := by
  w_on; o_law; z_head; (case hw => w_witness2)
  k_fill
  refine V.walkX_of (fun P => ?E) (V.walk (l := PySem.Challenge.rw_tapeproof_k02_turns) [24, 37, 49, 61, 73, 85, 97, 109, 121, 133, 152, 202] rfl rfl rfl (fun w h Y => Y) ?F L3.law_true)
  case E => kernel_rfl
  case F =>
    intro w mg h KX G
    refine' V.z_mk KX G ?c0 ?c1 ?c2 ?c3 ?c4 ?c5 ?c6 ?c7 ?c8 ?c9 ?c10 ?c11 ?a1 ?l1 ?d1 ?k1 ?a2 ?l2 ?d2 ?k2 ?a3 ?l3 ?d3 ?k3 ?a4 ?l4 ?d4 ?k4 ?a5 ?l5 ?d5 ?k5 ?a6 ?l6 ?d6 ?k6 ?i6 ?m6 ?q6 ?a7 ?l7 ?d7 ?k7 ?a8 ?l8 ?d8 ?k8 ?a9 ?l9 ?d9 ?k9 ?a10 ?l10 ?d10 ?k10 ?a11 ?l11 ?d11 ?k11 ?a12 ?l12 ?d12 ?k12 ?a13 ?l13 ?d13 ?k13 ?a14 ?l14 ?d14 ?k14 ?a15 ?l15 ?d15 ?k15 ?a16 ?l16 ?d16 ?k16 ?a17 ?l17 ?d17 ?k17 ?a18 ?l18 ?d18 ?k18 ?a19 ?l19 ?d19 ?k19 ?a20 ?l20 ?d20 ?k20 ?a21 ?l21 ?d21 ?k21 ?a22 ?l22 ?d22 ?k22 ?a23 ?l23 ?d23 ?k23 ?a24 ?l24 ?d24 ?k24 ?a25 ?l25 ?d25 ?k25 ?a26 ?l26 ?d26 ?k26 ?nz_ValueError ?nz_all ?nz_bool ?nz_dict ?nz_enumerate ?nz_int ?nz_isinstance ?nz_len ?nz_list ?nz_range ?nz_sorted ?nz_str ?nz_tuple ?nz_zip ?ng_LEFT ?ng_RIGHT ?nt_TapeError ?nx_NoMachine ?nx_NoMove ?nx_NoNames ?nx_NoNumber ?nx_NoShape ?nx_NoShot ?nx_NoStretches ?nx_NoText ?nx_NoWidth ?nx_TooLong ?nx_ValueError ?ne_NoMachine ?ne_NoNames ?na_table
    (case c0 => k_is); (case c1 => k_is); (case c2 => k_is); (case c3 => k_is); (case c4 => k_is); (case c5 => k_is)
    (case c6 => k_is); (case c7 => k_is); (case c8 => k_is); (case c9 => k_is); (case c10 => k_is); (case c11 => k_is)
    (case a1 => k_is); (case l1 => k_is); (case d1 => k_is); (case k1 => k_is); (case a2 => k_is); (case l2 => k_is)
    (case d2 => k_is); (case k2 => k_is); (case a3 => k_is); (case l3 => k_is); (case d3 => k_is); (case k3 => k_is)
    (case a4 => k_is); (case l4 => k_is); (case d4 => k_is); (case k4 => k_is); (case a5 => k_is); (case l5 => k_is)
    (case d5 => k_is); (case k5 => k_is); (case a6 => k_is); (case l6 => k_is); (case d6 => k_is); (case k6 => k_is)
    (case i6 => k_is); (case m6 => k_is); (case q6 => k_is); (case a7 => k_is); (case l7 => k_is); (case d7 => k_is)
    (case k7 => k_is); (case a8 => k_is); (case l8 => k_is); (case d8 => k_is); (case k8 => k_is); (case a9 => k_is)
    (case l9 => k_is); (case d9 => k_is); (case k9 => k_is); (case a10 => k_is); (case l10 => k_is); (case d10 => k_is)
    (case k10 => k_is); (case a11 => k_is); (case l11 => k_is); (case d11 => k_is); (case k11 => k_is); (case a12 => k_is)
    (case l12 => k_is); (case d12 => k_is); (case k12 => k_is); (case a13 => k_is); (case l13 => k_is); (case d13 => k_is)
    (case k13 => k_is); (case a14 => k_is); (case l14 => k_is); (case d14 => k_is); (case k14 => k_is); (case a15 => k_is)
    (case l15 => k_is); (case d15 => k_is); (case k15 => k_is); (case a16 => k_is); (case l16 => k_is); (case d16 => k_is)
    (case k16 => k_is); (case a17 => k_is); (case l17 => k_is); (case d17 => k_is); (case k17 => k_is); (case a18 => k_is)
    (case l18 => k_is); (case d18 => k_is); (case k18 => k_is); (case a19 => k_is); (case l19 => k_is); (case d19 => k_is)
    (case k19 => k_is); (case a20 => k_is); (case l20 => k_is); (case d20 => k_is); (case k20 => k_is); (case a21 => k_is)
    (case l21 => k_is); (case d21 => k_is); (case k21 => k_is); (case a22 => k_is); (case l22 => k_is); (case d22 => k_is)
    (case k22 => k_is); (case a23 => k_is); (case l23 => k_is); (case d23 => k_is); (case k23 => k_is); (case a24 => k_is)
    (case l24 => k_is); (case d24 => k_is); (case k24 => k_is); (case a25 => k_is); (case l25 => k_is); (case d25 => k_is)
    (case k25 => k_is); (case a26 => k_is); (case l26 => k_is); (case d26 => k_is); (case k26 => k_is); (case nz_ValueError => k_is)
    (case nz_all => k_is); (case nz_bool => k_is); (case nz_dict => k_is); (case nz_enumerate => k_is); (case nz_int => k_is); (case nz_isinstance => k_is)
    (case nz_len => k_is); (case nz_list => k_is); (case nz_range => k_is); (case nz_sorted => k_is); (case nz_str => k_is); (case nz_tuple => k_is)
    (case nz_zip => k_is); (case ng_LEFT => k_is); (case ng_RIGHT => k_is); (case nt_TapeError => kernel_rfl); (case nx_NoMachine => kernel_rfl); (case nx_NoMove => kernel_rfl)
    (case nx_NoNames => kernel_rfl); (case nx_NoNumber => kernel_rfl); (case nx_NoShape => kernel_rfl); (case nx_NoShot => kernel_rfl); (case nx_NoStretches => kernel_rfl); (case nx_NoText => kernel_rfl)
    (case nx_NoWidth => kernel_rfl); (case nx_TooLong => kernel_rfl); (case nx_ValueError => kernel_rfl); (case ne_NoMachine => k_exc); (case ne_NoNames => k_exc); (case na_table => kernel_rfl)


import PyProof.Rows.All
import Wide.All
import OpenK.AllK
import Wide.FinOn
import Lean
import PyProof.EqAt
import PyProof.EqKinds
import PyProof.TupleCall
import PySem.Challenge.RW_tapeproof_k72_rows_drawn
-- CHANGE: your row's module here, as the last of these rows
set_option Elab.async false
set_option linter.all false
set_option maxRecDepth 100000
namespace L2
open PySem PySem.Spec PyProof.Rows

noncomputable abbrev Key := Sum Int Str
noncomputable def keyIs : Key → Value → Bool
  | .inl k, v => Value.isInt k v
  | .inr x, v => Value.isStrOf x v
noncomputable def keyH (w : World) : Key → Int
  | .inl k => hashInt k
  | .inr x => hashStr w x
theorem keyIs_shape : ∀ {k : Key} {v : Value}, keyIs k v = true → (∃ i t, k = Sum.inl i ∧ v = Value.int i t) ∨ (∃ x t, k = Sum.inr x ∧ v = Value.str x t)
  | .inl i, v, h => by
    obtain ⟨t, e⟩ := Value.isInt_shape (k := i) (v := v) h
    exact .inl ⟨i, t, rfl, e⟩
  | .inr x, v, h => by
    obtain ⟨t, e⟩ := Value.isStrOf_shape (x := x) (v := v) h
    exact .inr ⟨x, t, rfl, e⟩
theorem keyIs_int (i : Int) (t : Tok) : keyIs (.inl i) (.int i t) = true := by simp [keyIs, Value.isInt]
theorem keyIs_str (x : Str) (t : Tok) : keyIs (.inr x) (.str x t) = true := by simp [keyIs, Value.isStrOf]
theorem key_ll (a b : Int) : decide ((Sum.inl a : Key) = Sum.inl b) = (a == b) := by
  by_cases e : a = b
  · subst e; simp
  · have h : ¬ (Sum.inl a : Key) = Sum.inl b := fun q => e (Sum.inl.inj q)
    rw [decide_eq_false h]
    exact (beq_eq_false_iff_ne.mpr e).symm
theorem key_rr (a b : Str) : decide ((Sum.inr a : Key) = Sum.inr b) = decide (a = b) := by
  by_cases e : a = b
  · subst e; simp
  · have h : ¬ (Sum.inr a : Key) = Sum.inr b := fun q => e (Sum.inr.inj q)
    rw [decide_eq_false h, decide_eq_false e]
theorem key_lr (a : Int) (b : Str) : decide ((Sum.inl a : Key) = Sum.inr b) = false := decide_eq_false (fun q => nomatch q)
theorem key_rl (a : Str) (b : Int) : decide ((Sum.inr a : Key) = Sum.inl b) = false := decide_eq_false (fun q => nomatch q)

noncomputable def mixKind (prog : Program) (w : World) : PySem.KeyKind prog w Key where
  is := keyIs
  hash := keyH w
  inj := fun v a b ha hb => by
    rcases keyIs_shape ha with ⟨i, t, rfl, rfl⟩ | ⟨x, t, rfl, rfl⟩
    · rcases keyIs_shape hb with ⟨j, u, rfl, e⟩ | ⟨y, u, rfl, e⟩
      · injection e with e1 _; rw [e1]
      · exact nomatch e
    · rcases keyIs_shape hb with ⟨j, u, rfl, e⟩ | ⟨y, u, rfl, e⟩
      · exact nomatch e
      · injection e with e1 _; rw [e1]
  byValue := fun k v h => by
    rcases keyIs_shape h with ⟨i, t, rfl, rfl⟩ | ⟨x, t, rfl, rfl⟩ <;> rfl
  pyHash := fun hv h => by
    rcases keyIs_shape hv with ⟨i, t, rfl, rfl⟩ | ⟨x, t, rfl, rfl⟩
    · exact wpAny_pyHash_int h
    · exact wpAny_pyHash_str h
  eqBool := fun hu hv h => by
    rcases keyIs_shape hu with ⟨i, t, rfl, rfl⟩ | ⟨x, t, rfl, rfl⟩
    · rcases keyIs_shape hv with ⟨j, u, rfl, rfl⟩ | ⟨y, u, rfl, rfl⟩
      · rw [key_ll] at h; exact wpAny_eqBool_int h
      · rw [key_lr] at h; exact SeqAt.EqAt.int_str i t y u _ _ _ _ h
    · rcases keyIs_shape hv with ⟨j, u, rfl, rfl⟩ | ⟨y, u, rfl, rfl⟩
      · rw [key_rl] at h; exact SeqAt.EqAt.str_int x t j u _ _ _ _ h
      · rw [key_rr] at h; exact wpAny_eqBool_str h
  «strs» := fun k x t v h => by
    rcases keyIs_shape h with ⟨i, u, rfl, e⟩ | ⟨y, u, rfl, e⟩
    · exact nomatch e
    · injection e with e1 _
      subst e1
      cases v <;> rfl

theorem mixKind_int (prog : Program) (w : World) (i : Int) (t : Tok) : (mixKind prog w).is (.inl i) (.int i t) = true := keyIs_int i t
theorem mixKind_str (prog : Program) (w : World) (x : Str) (t : Tok) : (mixKind prog w).is (.inr x) (.str x t) = true := keyIs_str x t
end L2

namespace L2
open PySem PySem.Spec PyProof.Rows

inductive V where
  | non | bl (b : Bool) | int (i : Int) | str (x : Str) | byt (b : Array UInt8) | flt (b : UInt64) | ref (a : Addr) | ty (n : String)
  deriving DecidableEq

noncomputable def RelV : V → Value → Prop
  | .non, u => u = Value.none
  | .bl b, u => u = Value.bool b
  | .int i, u => ∃ t, u = Value.int i t
  | .str x, u => ∃ t, u = Value.str x t
  | .byt b, u => ∃ t, u = Value.bytes b t
  | .flt b, u => ∃ t, u = Value.float b t
  | .ref a, u => u = Value.ref a
  | .ty n, u => u = Value.type n

noncomputable abbrev Vals : List V → List Value → Prop := Paired RelV
theorem Vals.length {xs : List V} {us : List Value} (r : Vals xs us) : xs.length = us.length := Paired.length r
theorem Vals.get : ∀ {xs : List V} {us : List Value} {i : Nat} {x : V}, Vals xs us → xs[i]? = some x → ∃ u, us[i]? = some u ∧ RelV x u
  | _, _, _, _, .nil, e => by simp at e
  | _, _, 0, _, .cons r _, e => by simp at e; subst e; exact ⟨_, rfl, r⟩
  | _, _, i + 1, x, .cons _ t, e => by
    obtain ⟨u, h1, h2⟩ := Vals.get (i := i) (x := x) t (by simpa using e)
    exact ⟨u, by simpa using h1, h2⟩
theorem Vals.set {x : V} {u : Value} (r : RelV x u) : ∀ {xs : List V} {us : List Value} (i : Nat), Vals xs us → Vals (xs.set i x) (us.set i u)
  | _, _, _, .nil => .nil
  | _, _, 0, .cons _ t => .cons r t
  | _, _, i + 1, .cons q t => .cons q (Vals.set r i t)
theorem Vals.append : ∀ {xs ys : List V} {us ws : List Value}, Vals xs us → Vals ys ws → Vals (xs ++ ys) (us ++ ws)
  | _, _, _, _, .nil, s => s
  | _, _, _, _, .cons r t, s => .cons r (Vals.append t s)
theorem Vals.take : ∀ {xs : List V} {us : List Value} (n : Nat), Vals xs us → Vals (xs.take n) (us.take n)
  | _, _, 0, _ => .nil
  | _, _, _ + 1, .nil => .nil
  | _, _, n + 1, .cons r t => .cons r (Vals.take n t)
theorem Vals.drop : ∀ {xs : List V} {us : List Value} (n : Nat), Vals xs us → Vals (xs.drop n) (us.drop n)
  | _, _, 0, r => r
  | _, _, _ + 1, .nil => .nil
  | _, _, n + 1, .cons _ t => Vals.drop n t
noncomputable def RelO : Option V → Option Value → Prop
  | some v, some u => RelV v u
  | none, none => True
  | _, _ => False
noncomputable def KV {κ : Type} : List (κ × V) → List (κ × Value) → Prop := Paired fun (p : κ × V) (q : κ × Value) => p.1 = q.1 ∧ RelV p.2 q.2

noncomputable def kV : Key → V
  | .inl i => .int i
  | .inr x => .str x

inductive HO where
  /-- a list -/
  | lst (xs : List V)
  /-- a tuple (never changes) -/
  | tup (xs : List V)
  /-- a dict whose keys are ints and texts; one whose keys are tuples of ints and texts (the empty one is both) -/
  | dK (kvs : List (Key × V)) | dT (kvs : List (List Key × V))
  /-- a set of ints: its members, its size -/
  | set (S : Int → Bool) (n : Nat)
  /-- an instance of the class at C, its dict at dx, its attributes -/
  | ins (C dx : Addr) (fs : List (Str × V))
  /-- the dict of the instance at x -/
  | own (x : Addr)
  /-- the dict of an exception -/
  | xd (fs : List (Str × V))
  /-- a bound method, f of x -/
  | met (f x : Addr)
  /-- a range object lo, lo + 1, .. below hi -/
  | rng (lo hi : Int)
  /-- a thing that is known to the object (the script; a dict while a loop walks it): read, never written while it is so -/
  | frz (o : Obj) (u : HO)
  /-- a code object's table -/
  | tbl (ps : Array Value)
  /-- any other thing, by what is true of its one object (a def of one's own: SetO a S n := HO.ext fun h => ..) -/
  | ext (φ : Heap → Prop)

noncomputable abbrev Hp := Addr → Option HO
noncomputable def upd (H : Hp) (a : Addr) (o : HO) : Hp := fun b => if b = a then some o else H b
theorem upd_same {H : Hp} {a : Addr} {o : HO} : upd H a o a = some o := by unfold upd; rw [if_pos rfl]
theorem upd_ne {H : Hp} {a b : Addr} {o : HO} (h : b ≠ a) : upd H a o b = H b := by unfold upd; rw [if_neg h]
theorem ne_of {H : Hp} {a b : Addr} {o u : HO} (h : H a = some o) (h' : H b = some u) (d : o ≠ u) : a ≠ b := by
  intro e; subst e; rw [h] at h'; exact d (Option.some.inj h')
theorem ne_of_none {H : Hp} {a b : Addr} {o : HO} (h : H a = some o) (h' : H b = none) : a ≠ b := by
  intro e; subst e; rw [h] at h'; cases h'

noncomputable def IsTupD (h : Heap) (a : Addr) (items : Array Value) : Prop := ∃ o, h.get? a = some o ∧ o.cls = .type "tuple" ∧ o.dict = none ∧ ∃ n, o.data = .seq items n
theorem IsTupD.tup {h : Heap} {a : Addr} {items : Array Value} (x : IsTupD h a items) : IsTup h a items := let ⟨o, e, c, _, d⟩ := x; ⟨o, e, c, d⟩
theorem IsTupD.new (h : Heap) (items : Array Value) : IsTupD (h.push { cls := .type "tuple", data := .seq items }) h.objs.size items := ⟨_, Heap.get?_push_size _ rfl, rfl, rfl, _, rfl⟩
section
variable (P : Program) (w : World)
noncomputable def ObjOk (H : Hp) (h : Heap) (a : Addr) : HO → Prop
  | .lst xs => xs.length ≤ sizeLine ∧ ∃ (its : List Value) (n : Nat), Vals xs its ∧ h.get? a = some { cls := .type "list", data := .seq its.toArray n }
  | .tup xs => xs.length ≤ sizeLine ∧ ∃ its : List Value, Vals xs its ∧ IsTupD h a its.toArray
  | .dK kvs => kvs.length ≤ sizeLine ∧ (a == sysModules) = false ∧ ∃ vs, KV kvs vs ∧ h.DictOf (mixKind P w) a vs
  | .dT kvs => kvs.length ≤ sizeLine ∧ (a == sysModules) = false ∧ ∃ xs : List (List Key × Addr × Value),
      Paired (fun (p : List Key × V) (q : List Key × Addr × Value) => p.1 = q.1 ∧ H q.2.1 = some (.tup (p.1.map kV)) ∧ RelV p.2 q.2.2) kvs xs ∧
      ∃ o es ep, h.get? a = some o ∧ o.ExactDict ∧ o.data = .dict es ep ∧ es.toList = xs.map (entryOfKey (tupleKind (mixKind P w))) ∧ (xs.map (·.1)).Nodup
  | .set S n => h.SetOf (intKind P w) a S n
  | .ins C dx fs => H dx = some (.own a) ∧ fs.length ≤ 1000 ∧ dx ≠ a ∧ h.get? a = some (PySem.W.instObj C dx) ∧
      ∃ mA, h.Ns1 dx mA ∧ (∀ f, RelO (fs.lookup f) (mA f)) ∧ PySem.Within mA (fs.map (·.1))
  | .own _ => ∃ o, h.get? a = some o
  | .xd fs => ∃ mA, h.Ns1 a mA ∧ ∀ f, RelO (fs.lookup f) (mA f)
  | .rng lo hi => ∃ t u v, h.get? a = some { cls := .type "range", data := .fields #[.int lo t, .int hi u, .int 1 v] }
  | .frz o u => h.get? a = some o ∧ ObjOk H h a u
  | .tbl ps => h.get? a = some { cls := .none, data := .fields ps }
  | .met f x => h.get? a = some (PySem.W.methodObj (.ref f) (.ref x))
  | .ext φ => φ h ∧ (∃ o, h.get? a = some o) ∧ ∀ h1 h2 : Heap, φ h1 → (∀ o, h1.get? a = some o → h2.get? a = some o) → φ h2
noncomputable def HOk (H : Hp) (h : Heap) : Prop := ∀ a o, H a = some o → ObjOk P w H h a o
end

section
variable {P : Program} {w : World} {H H' : Hp} {h h' : Heap} {a : Addr} {o : HO}
theorem ObjOk.lt (x : ObjOk P w H h a o) : a < h.objs.size := by
  cases o with
  | lst xs => obtain ⟨_, _, _, _, e⟩ := x; exact Heap.lt_size e
  | tup xs => obtain ⟨_, _, _, p⟩ := x; exact p.tup.lt
  | dK kvs => obtain ⟨_, _, _, _, o, _, _, e, _⟩ := x; exact Heap.lt_size e
  | dT kvs => obtain ⟨_, _, _, _, o, _, _, e, _⟩ := x; exact Heap.lt_size e
  | set S n => obtain ⟨o, _, _, _, e, _⟩ := x; exact Heap.lt_size e
  | ins C dx fs => obtain ⟨_, _, _, e, _⟩ := x; exact Heap.lt_size e
  | own y => obtain ⟨_, e⟩ := x; exact Heap.lt_size e
  | xd fs => obtain ⟨_, ⟨_, _, _, e, _⟩, _⟩ := x; exact Heap.lt_size e
  | rng lo hi => obtain ⟨_, _, _, e⟩ := x; exact Heap.lt_size e
  | frz ob u => obtain ⟨e, _⟩ := x; exact Heap.lt_size e
  | tbl ps => exact Heap.lt_size (show h.get? a = some _ from x)
  | met f y => exact Heap.lt_size (show h.get? a = some _ from x)
  | ext φ => obtain ⟨_, ⟨_, e⟩, _⟩ := x; exact Heap.lt_size e
theorem Paired.mapP {α β : Type} {F G : α → β → Prop} : ∀ {l₁ : List α} {l₂ : List β}, Paired F l₁ l₂ → (∀ a b, F a b → G a b) → Paired G l₁ l₂
  | _, _, .nil, _ => .nil
  | _, _, .cons r t, f => .cons (f _ _ r) (Paired.mapP t f)
theorem Paired.imp' {α β : Type} {F G : α → β → Prop} (f : ∀ a b, F a b → G a b) {l₁ : List α} {l₂ : List β} (r : Paired F l₁ l₂) : Paired G l₁ l₂ := Paired.mapP r f
theorem ObjOk.stay (x : ObjOk P w H h a o) (k : ∀ b u, (b = a ∨ H b = some (.own a)) → h.get? b = some u → h'.get? b = some u)
    (ho : ∀ b, H b = some (.own a) → H' b = some (.own a)) (ht : ∀ b xs, H b = some (.tup xs) → H' b = some (.tup xs)) : ObjOk P w H' h' a o := by
  induction o with
  | lst xs => obtain ⟨z, its, n, r, e⟩ := x; exact ⟨z, its, n, r, k _ _ (.inl rfl) e⟩
  | tup xs => obtain ⟨z, its, r, ob, e, c⟩ := x; exact ⟨z, its, r, ob, k _ _ (.inl rfl) e, c⟩
  | dK kvs => obtain ⟨z, y, vs, r, ob, es, ep, e, c⟩ := x; exact ⟨z, y, vs, r, ob, es, ep, k _ _ (.inl rfl) e, c⟩
  | dT kvs =>
    obtain ⟨z, y, xs, r, ob, es, ep, e, c⟩ := x
    exact ⟨z, y, xs, Paired.mapP r fun p q z => ⟨z.1, ht _ _ z.2.1, z.2.2⟩, ob, es, ep, k _ _ (.inl rfl) e, c⟩
  | set S n => obtain ⟨ob, es, ep, t, e, c⟩ := x; exact ⟨ob, es, ep, t, k _ _ (.inl rfl) e, c⟩
  | ins C dx fs =>
    obtain ⟨d, z, ne, e, mA, ⟨od, es, ep, e2, c⟩, r⟩ := x
    exact ⟨ho _ d, z, ne, k _ _ (.inl rfl) e, mA, ⟨od, es, ep, k _ _ (.inr d) e2, c⟩, r⟩
  | own y => obtain ⟨ob, e⟩ := x; exact ⟨ob, k _ _ (.inl rfl) e⟩
  | xd fs => obtain ⟨mA, ⟨od, es, ep, e, c⟩, r⟩ := x; exact ⟨mA, ⟨od, es, ep, k _ _ (.inl rfl) e, c⟩, r⟩
  | rng lo hi => obtain ⟨t, u, v, e⟩ := x; exact ⟨t, u, v, k _ _ (.inl rfl) e⟩
  | frz ob u ih => obtain ⟨e, q⟩ := x; exact ⟨k _ _ (.inl rfl) e, ih q⟩
  | tbl ps =>
    have e : h.get? a = some { cls := .none, data := .fields ps } := x
    show h'.get? a = some { cls := .none, data := .fields ps }
    exact k a _ (.inl rfl) e
  | met f y =>
    have e : h.get? a = some (PySem.W.methodObj (.ref f) (.ref y)) := x
    show h'.get? a = some (PySem.W.methodObj (.ref f) (.ref y))
    exact k a _ (.inl rfl) e
  | ext φ => obtain ⟨p, ⟨o, e⟩, st⟩ := x; exact ⟨st _ _ p fun o q => k _ _ (.inl rfl) q, ⟨o, k _ _ (.inl rfl) e⟩, st⟩
theorem HOk.lt (x : HOk P w H h) (e : H a = some o) : a < h.objs.size := (x a o e).lt
theorem HOk.fresh (x : HOk P w H h) (e : h.objs.size ≤ a) : H a = none := by
  cases q : H a with
  | none => rfl
  | some u => exact absurd (Nat.lt_of_lt_of_le (x.lt q) e) (Nat.lt_irrefl _)
theorem HOk.kept (x : HOk P w H h) (k : ∀ b u, h.get? b = some u → h'.get? b = some u) : HOk P w H h' := fun a o e =>
  (x a o e).stay (fun b u _ q => k b u q) (fun _ q => q) fun _ _ q => q
theorem HOk.laid (x : HOk P w H h) (k : ∀ b u, h.get? b = some u → h'.get? b = some u) (hp : h.objs.size ≤ a) (new : ObjOk P w (upd H a o) h' a o) : HOk P w (upd H a o) h' := fun b u e => by
  have hn := x.fresh hp
  by_cases hb : b = a
  · subst hb; rw [upd_same] at e; cases e; exact new
  · rw [upd_ne hb] at e
    exact (x b u e).stay (fun c v _ q => k c v q) (fun c q => by rw [upd_ne (ne_of_none q hn)]; exact q) fun c xs q => by rw [upd_ne (ne_of_none q hn)]; exact q
end

noncomputable def Rd (H : Hp) (a : Addr) (u : HO) : Prop := H a = some u ∨ ∃ o, H a = some (.frz o u)
theorem Rd.of {H : Hp} {a : Addr} {u : HO} (h : H a = some u) : Rd H a u := .inl h
theorem Rd.ok {P : Program} {w : World} {H : Hp} {h : Heap} {a : Addr} {u : HO} (r : Rd H a u) (x : HOk P w H h) : ObjOk P w H h a u := by
  rcases r with r | ⟨o, r⟩
  · exact x a u r
  · obtain ⟨_, q⟩ := x a _ r
    exact q
noncomputable def Mut : Option HO → Prop
  | some (.lst _) => True
  | some (.dK _) => True
  | some (.dT _) => True
  | some (.set _ _) => True
  | some (.ins _ _ _) => True
  | some (.ext _) => True
  | _ => False
section
variable {P : Program} {w : World} {H : Hp} {h h' : Heap} {x e : Addr} {o' : HO}
theorem HOk.write (ok : HOk P w H h) (mu : Mut (H x)) (he : e = x ∨ H e = some (.own x)) (k : ∀ b u, b ≠ e → h.get? b = some u → h'.get? b = some u) (heo : ∃ u, h'.get? e = some u)
    (new : ObjOk P w (upd H x o') h' x o') : HOk P w (upd H x o') h' := fun b u q => by
  have nown : ∀ c y, H c = some (.own y) → c ≠ x := fun c y r z => by subst z; rw [r] at mu; exact mu
  have ntup : ∀ c xs, H c = some (.tup xs) → c ≠ x := fun c xs r z => by subst z; rw [r] at mu; exact mu
  by_cases hb : b = x
  · subst hb; rw [upd_same] at q; cases q; exact new
  · rw [upd_ne hb] at q
    by_cases hbe : b = e
    · have q' : H b = some (.own x) := by
        rcases he with z | z
        · exact absurd (hbe.trans z) hb
        · rw [hbe]; exact z
      rw [q] at q'; cases q'
      obtain ⟨v, hv⟩ := heo
      exact ⟨v, by rw [hbe]; exact hv⟩
    · refine (ok b u q).stay (fun c v hc r => k c v ?_ r) (fun c r => by rw [upd_ne (nown c b r)]; exact r) fun c xs r => by rw [upd_ne (ntup c xs r)]; exact r
      rcases hc with rfl | hc
      · exact hbe
      · rintro rfl
        rcases he with z | z
        · exact nown c b hc z
        · rw [hc] at z; cases z; exact hb rfl
end

structure Un (fs ex : List Addr) (H H' : Hp) (h h' : Heap) : Prop where
  keep : ∀ b o, h.get? b = some o → H b = none → b ∉ fs → b ∉ ex → h'.get? b = some o
  slot : ∀ b o, h.get? b = some o → H b = none → b ∈ fs → b ∉ ex → ∃ sl, h'.get? b = some { o with slots := sl }
  free : ∀ b o, h.get? b = some o → H b = none → b ∉ ex → H' b = none
  there : ∀ b o, h.get? b = some o → b ∉ ex → ∃ o', h'.get? b = some o'
  tups : ∀ b xs, H b = some (.tup xs) → H' b = some (.tup xs)
  frzs : ∀ b o u, H b = some (.frz o u) → H' b = some (.frz o u)
  tbls : ∀ b ps, H b = some (.tbl ps) → ∃ more, H' b = some (.tbl (ps ++ more))
section
variable {fs fs' ex ex' : List Addr} {H H1 H2 : Hp} {h h1 h2 h' : Heap} {a x e : Addr} {o : HO}
theorem Un.any (u : Un fs ex H H1 h h1) {b : Addr} {ob : Obj} (q : h.get? b = some ob) (n : H b = none) (hx : b ∉ ex) : ∃ sl, h1.get? b = some { ob with slots := sl } := by
  by_cases hb : b ∈ fs
  · exact u.slot b ob q n hb hx
  · exact ⟨ob.slots, u.keep b ob q n hb hx⟩
theorem Un.trans (a : Un fs ex H H1 h h1) (b : Un fs ex H1 H2 h1 h2) : Un fs ex H H2 h h2 where
  keep := fun c ob q n hc hx => b.keep c ob (a.keep c ob q n hc hx) (a.free c ob q n hx) hc hx
  slot := fun c ob q n hc hx => by
    obtain ⟨sl, e1⟩ := a.slot c ob q n hc hx
    obtain ⟨sl', e2⟩ := b.slot c _ e1 (a.free c ob q n hx) hc hx
    exact ⟨sl', e2⟩
  free := fun c ob q n hx => by
    obtain ⟨o', e1⟩ := a.there c ob q hx
    exact b.free c o' e1 (a.free c ob q n hx) hx
  there := fun c ob q hx => by
    obtain ⟨o', e1⟩ := a.there c ob q hx
    exact b.there c o' e1 hx
  tups := fun c xs q => b.tups c xs (a.tups c xs q)
  frzs := fun c ob xs q => b.frzs c ob xs (a.frzs c ob xs q)
  tbls := fun c ps q => by
    obtain ⟨m1, e1⟩ := a.tbls c ps q
    obtain ⟨m2, e2⟩ := b.tbls c _ e1
    exact ⟨m1 ++ m2, by rw [e2, Array.append_assoc]⟩
theorem Un.kept (k : ∀ b u, h.get? b = some u → h'.get? b = some u) : Un fs ex H H h h' :=
  ⟨fun b ob q _ _ _ => k b ob q, fun b ob q _ _ _ => ⟨ob.slots, k b ob q⟩, fun _ _ _ n _ => n, fun b ob q _ => ⟨ob, k b ob q⟩, fun _ _ q => q, fun _ _ _ q => q, fun _ ps q => ⟨#[], by rw [q]; simp⟩⟩
theorem Un.refl : Un fs ex H H h h := Un.kept fun _ _ q => q
theorem Un.laid (k : ∀ b u, h.get? b = some u → h'.get? b = some u) (hp : h.objs.size ≤ a) (hn : H a = none) : Un fs ex H (upd H a o) h h' where
  keep := fun b u q _ _ _ => k b u q
  slot := fun b u q _ _ _ => ⟨u.slots, k b u q⟩
  free := fun b u q n _ => by rw [upd_ne (Nat.ne_of_lt (Nat.lt_of_lt_of_le (Heap.lt_size q) hp))]; exact n
  there := fun b u q _ => ⟨u, k b u q⟩
  tups := fun b xs q => by rw [upd_ne (ne_of_none q hn)]; exact q
  frzs := fun b u xs q => by rw [upd_ne (ne_of_none q hn)]; exact q
  tbls := fun b ps q => ⟨#[], by rw [upd_ne (ne_of_none q hn), q]; simp⟩
theorem Un.write (mu : Mut (H x)) (he : e = x ∨ H e = some (.own x)) (k : ∀ b u, b ≠ e → h.get? b = some u → h'.get? b = some u) (heo : ∃ u, h'.get? e = some u) : Un fs ex H (upd H x o) h h' := by
  have hx : ∀ b, H b = none → b ≠ x := fun b n z => by subst z; rw [n] at mu; exact mu
  have hb : ∀ b, H b = none → b ≠ e := fun b n z => by
    subst z
    rcases he with r | r
    · exact hx b n r
    · rw [n] at r; cases r
  have hm : ∀ b u, H b = some u → ¬ Mut (some u) → b ≠ x := fun b u q nm z => by subst z; rw [q] at mu; exact nm mu
  refine ⟨fun b u q n _ _ => k b u (hb b n) q, fun b u q n _ _ => ⟨u.slots, k b u (hb b n) q⟩, fun b u q n _ => by rw [upd_ne (hx b n)]; exact n, fun b u q _ => ?_,
    fun b xs q => by rw [upd_ne (hm b _ q fun z => z)]; exact q, fun b u xs q => by rw [upd_ne (hm b _ q fun z => z)]; exact q, fun b ps q => ⟨#[], by rw [upd_ne (hm b _ q fun z => z), q]; simp⟩⟩
  by_cases hbe : b = e
  · subst hbe; exact heo
  · exact ⟨u, k b u hbe q⟩
theorem Un.mono (u : Un fs ex H H1 h h1) (hs : ∀ b ∈ fs, b ∈ fs') (hx : ∀ b ∈ ex, b ∈ ex') : Un fs' ex' H H1 h h1 :=
  ⟨fun b ob q n hb he => u.keep b ob q n (fun z => hb (hs b z)) fun z => he (hx b z), fun _ _ q n _ he => u.any q n fun z => he (hx _ z), fun b ob q n he => u.free b ob q n fun z => he (hx b z), fun b ob q he => u.there b ob q fun z => he (hx b z), u.tups, u.frzs, u.tbls⟩
end

noncomputable def trk (h : Heap) (H : Hp) : List Addr := (List.range h.objs.size).filter fun a => (H a).isSome
noncomputable def hidT (h : Heap) (H : Hp) : Heap := PySem.W.hideAll h (trk h H)
theorem hidT_size (h : Heap) (H : Hp) : (hidT h H).objs.size = h.objs.size := PySem.W.hideAll_size _ _
theorem hidT_get {h : Heap} {H : Hp} {b : Addr} {o : Obj} (e : h.get? b = some o) (n : H b = none) : (hidT h H).get? b = some o :=
  PySem.W.hideAll_get _ e fun hm => by
    have q : (H b).isSome = true := (List.mem_filter.mp hm).2
    rw [n] at q; simp at q
theorem of_hidT {h : Heap} {H : Hp} {b : Addr} {o : Obj} (e : (hidT h H).get? b = some o) : h.get? b = some o ∧ H b = none := by
  have e' : h.get? b = some o := PySem.W.of_hideAll (trk h H) e
  refine ⟨e', ?_⟩
  cases q : H b with
  | none => rfl
  | some x =>
    have hm : b ∈ trk h H := List.mem_filter.mpr ⟨List.mem_range.mpr (Heap.lt_size e'), by simp [q]⟩
    have z : (hidT h H).get? b = none := PySem.W.hideAll_none (trk h H) hm
    rw [z] at e; cases e

noncomputable def allNews (g h : Heap) (L : Addr) : List (Addr × Obj) := (List.range h.objs.size).filterMap fun a => if a = L ∨ (g.get? a).isSome = true then none else (h.get? a).map fun o => (a, o)
noncomputable def rest (g h : Heap) (L d : Addr) : List (Addr × Obj) := (allNews g h L).filter fun p => decide (p.1 ≠ d)
end L2

namespace L2
open PySem PySem.Spec PyProof.Rows

structure Mod (K : PySem.W.Frag) (mg : Str → Option Value) (base : Heap) : Prop where
  kin : K.In base
  glob : base.Ns mainGlobals mg
  blt : ∃ mb, base.Ns builtinsNs mb ∧ ∀ x : Str, x ≠ "__name__" → mb x = bootBuiltins x
  nolimit : base.NoLimit

/-- the context: a def's body (or a comprehension's block) running. base: fixed through the whole law; s₀, H₀: the entry; outer: the frames whose slots others may change (a def's callers); stack: all frames that run;
   ex: iterators that were made ahead of the entry and are walked here (a comprehension's); fn: the names whose cells were made at the entry (a def: all; a comprehension's block: its own); calm: not within an except suite; pn: pins that every state bears; xe: what is wanted of an exception that leaves the code -/
structure Cx where
  prog : Program
  w : World
  K : PySem.W.Frag
  mg : Str → Option Value
  base : Heap
  A : Around
  N : List Str
  s₀ : Shared
  H₀ : Hp
  env : Env
  outer : List Env
  stack : List Env
  ex : List Addr
  fn : Str → Bool
  calm : Bool
  pn : List (Addr × Obj)
  xe : Value → Shared → Prop
noncomputable def frs (l : List Env) : List Addr := l.filterMap (·.frame)
noncomputable abbrev Cx.fs (X : Cx) : List Addr := frs X.outer

noncomputable def Vis (sc : Scope) (x : Str) : Prop := sc.names.lookup x = some .local ∨ sc.names.lookup x = some .cell ∨ sc.names.lookup x = some .free
noncomputable def Loc (sc : Scope) (x : Str) : Prop := sc.names.lookup x = some .local ∨ sc.names.lookup x = some .cell
noncomputable def Look (env : Env) (h : Heap) (m : Str → Option Value) (x : Str) (u : Value) : Prop :=
  (env.kindOf x = some .local ∧ m x = some u) ∨ ((env.kindOf x = some .cell ∨ env.kindOf x = some .free) ∧ ∃ c, env.cells.lookup x = some c ∧ h.IsCell c (some u))

structure Cx.Ok (X : Cx) : Prop where
  mod : Mod X.K X.mg X.base
  kind : X.env.scope.kind = .function
  glob : X.env.globals = mainGlobals
  blt : X.env.builtins = builtinsNs
  above : X.s₀.heap.objs.size ≤ X.env.locals
  inj : ∀ x y c, X.env.cells.lookup x = some c → X.env.cells.lookup y = some c → x = y
  has : ∀ x, (X.env.kindOf x = some .cell ∨ X.env.kindOf x = some .free) → ∃ c, X.env.cells.lookup x = some c
  cab : ∀ x c, X.fn x = true → X.env.cells.lookup x = some c → X.s₀.heap.objs.size ≤ c
  hd : X.calm = true → X.A.handled = none
  frames : X.A.frames = some X.stack
  stk : X.stack = X.outer ∨ (X.stack = X.env :: X.outer ∧ X.env.frame = some X.env.locals)
  exf : ∀ b ∈ X.ex, b ≠ X.env.locals ∧ ∀ x c, X.env.cells.lookup x = some c → c ≠ b
  bs : ∀ b o, X.base.get? b = some o → X.s₀.heap.get? b = some o ∧ X.H₀ b = none
  bsz : X.base.objs.size ≤ X.s₀.heap.objs.size
  noex : ∀ b o, X.base.get? b = some o → b ∉ X.ex
  exfs : ∀ b ∈ X.ex, b ∉ X.fs
  funs : X.s₀.heap.FunFrames X.base X.outer
  frf : ∀ b ∈ X.fs, X.H₀ b = none

structure Inv (X : Cx) (pins : List (Addr × Obj)) (σ : List (Option V)) (H : Hp) (s : Shared) : Prop where
  ok : X.Ok
  os : s.os = X.s₀.os
  bare : AllBare s.gens
  base : Un X.fs X.ex X.H₀ H X.s₀.heap s.heap
  loc : ∃ m, s.heap.Ns X.env.locals m ∧ ∀ (i : Nat) (x : Str) (v : V), X.N[i]? = some x → σ[i]? = some (some v) → Vis X.env.scope x → ∃ u, RelV v u ∧ Look X.env s.heap m x u
  cell : ∀ x c, X.env.cells.lookup x = some c → ∃ v, s.heap.IsCell c v
  free : H X.env.locals = none
  freeC : ∀ x c, X.env.cells.lookup x = some c → H c = none
  pin : ∀ p ∈ X.pn ++ pins, s.heap.get? p.1 = some p.2 ∧ H p.1 = none ∧ p.1 ≠ X.env.locals ∧ p.1 ∉ X.fs ∧ ∀ v, p.2.data ≠ .cell v
  hok : HOk X.prog X.w H s.heap
  len : σ.length = X.N.length

section
variable {X : Cx} {pins : List (Addr × Obj)} {σ : List (Option V)} {H H' : Hp} {s : Shared} {h' : Heap}

theorem Cx.Ok.nofr (ok : X.Ok) {b : Addr} {o : Obj} (e : X.base.get? b = some o) : b ∉ X.fs := fun hb => by
  have := (ok.funs.mem hb).1
  rw [e] at this; cases this
theorem Inv.bs (I : Inv X pins σ H s) : ∀ b o, X.base.get? b = some o → s.heap.get? b = some o ∧ H b = none := fun b o e =>
  ⟨I.base.keep b o (I.ok.bs b o e).1 (I.ok.bs b o e).2 (I.ok.nofr e) (I.ok.noex b o e), I.base.free b o (I.ok.bs b o e).1 (I.ok.bs b o e).2 (I.ok.noex b o e)⟩
theorem Inv.bk (I : Inv X pins σ H s) : ∀ b o, X.base.get? b = some o → s.heap.get? b = some o := fun b o e => (I.bs b o e).1
theorem Inv.mod (I : Inv X pins σ H s) : Mod X.K X.mg X.base := I.ok.mod
theorem Inv.kIn (I : Inv X pins σ H s) : X.K.In s.heap := I.ok.mod.kin.keeps I.bk
theorem Inv.nolimit (I : Inv X pins σ H s) : s.heap.NoLimit := I.ok.mod.nolimit.keeps I.bk
theorem Inv.lt (I : Inv X pins σ H s) : X.env.locals < s.heap.objs.size := let ⟨_, hn, _⟩ := I.loc; hn.lt
theorem Inv.sz (I : Inv X pins σ H s) : X.s₀.heap.objs.size ≤ s.heap.objs.size := Nat.le_trans I.ok.above (Nat.le_of_lt I.lt)
theorem Inv.nofs (I : Inv X pins σ H s) {a : Addr} (h : s.heap.objs.size ≤ a) : a ∉ X.fs := fun hb => by
  obtain ⟨_, o, ho, _⟩ := I.ok.funs.mem hb
  exact absurd (Nat.lt_of_lt_of_le (Heap.lt_size ho) (Nat.le_trans I.sz h)) (Nat.lt_irrefl _)
theorem Inv.cne (I : Inv X pins σ H s) : ∀ x c, X.env.cells.lookup x = some c → c ≠ X.env.locals := fun x c e z => by
  obtain ⟨v, o, ho, hd⟩ := I.cell x c e
  obtain ⟨m, ⟨o', es, ep, ho', hd', _⟩, _⟩ := I.loc
  rw [z, ho'] at ho; cases ho; rw [hd'] at hd; cases hd
theorem Inv.funs (I : Inv X pins σ H s) : s.heap.FunFrames X.base X.outer := by
  have all : ∀ (l : List Env), (∀ b ∈ frs l, b ∈ X.fs) → X.s₀.heap.FunFrames X.base l → s.heap.FunFrames X.base l := by
    intro l
    induction l with
    | nil => intro _ _; trivial
    | cons env r ih =>
      intro hs hl
      obtain ⟨hk, ⟨L, o, hf, hn, ho, hd⟩, hr⟩ := hl
      have hL : L ∈ X.fs := hs L (by unfold frs; rw [List.filterMap_cons, hf]; exact List.mem_cons_self)
      obtain ⟨sl, e⟩ := I.base.slot L o ho (I.ok.frf L hL) hL fun z => I.ok.exfs L z hL
      exact ⟨hk, ⟨L, _, hf, hn, e, hd⟩, ih (fun b hb => hs b (by unfold frs; rw [List.filterMap_cons, hf]; exact List.mem_cons_of_mem _ hb)) hr⟩
  exact all X.outer (fun _ hb => hb) I.ok.funs

theorem Inv.stack (I : Inv X pins σ H s) : s.heap.FunFrames X.base X.stack := by
  rcases I.ok.stk with e | ⟨e, hf⟩
  · rw [e]; exact I.funs
  · rw [e]
    obtain ⟨m, hn, _⟩ := I.loc
    refine .cons (by rw [I.ok.kind]; decide) hf hn ?_ I.funs
    exact Heap.get?_none_of_le (Nat.le_trans I.ok.bsz I.ok.above)
theorem Inv.stkSub (I : Inv X pins σ H s) : ∀ b ∈ frs X.stack, b ∈ X.env.locals :: X.fs := fun b hb => by
  rcases I.ok.stk with e | ⟨e, hf⟩
  · rw [e] at hb; exact List.mem_cons_of_mem _ hb
  · rw [e] at hb
    unfold frs at hb
    rw [List.filterMap_cons, hf] at hb
    exact hb
theorem Inv.stkFree (I : Inv X pins σ H s) : ∀ b ∈ frs X.stack, H b = none := fun b hb => by
  rcases List.mem_cons.mp (I.stkSub b hb) with e | hb
  · rw [e]; exact I.free
  · obtain ⟨_, o, ho, _⟩ := I.ok.funs.mem hb
    exact I.base.free b o ho (I.ok.frf b hb) fun z => I.ok.exfs b z hb

theorem Inv.step {g' : Array GenState} {t' : Nat} {d' : Drawn} {ch : List Addr} (I : Inv X pins σ H s)
    (hch : ∀ b ∈ ch, (b ∈ X.ex ∨ X.s₀.heap.objs.size ≤ b) ∧ b ≠ X.env.locals ∧ (∀ x c, X.env.cells.lookup x = some c → c ≠ b) ∧ ∀ p ∈ X.pn ++ pins, p.1 ≠ b)
    (keep : ∀ b o, b ≠ X.env.locals → b ∉ X.fs → b ∉ ch → s.heap.get? b = some o → H b = none → h'.get? b = some o)
    (slot : ∀ b o, b ≠ X.env.locals → b ∈ X.fs → b ∉ ch → s.heap.get? b = some o → H b = none → ∃ sl, h'.get? b = some { o with slots := sl }) (free : ∀ b o, b ∉ ch → s.heap.get? b = some o → H b = none → H' b = none)
    (there : ∀ b o, b ∉ ch → s.heap.get? b = some o → ∃ o', h'.get? b = some o')
    (tups : ∀ b xs, H b = some (.tup xs) → H' b = some (.tup xs)) (frzs : ∀ b o u, H b = some (.frz o u) → H' b = some (.frz o u)) (tbls : ∀ b ps, H b = some (.tbl ps) → ∃ more, H' b = some (.tbl (ps ++ more)))
    (ns : ∀ m, s.heap.Ns X.env.locals m → h'.Ns X.env.locals m) (hok : HOk X.prog X.w H' h') (hg : AllBare g') :
    Inv X pins σ H' { s with heap := h', gens := g', drawn := d', toks := t' } := by
  have neL : ∀ b o, X.s₀.heap.get? b = some o → b ≠ X.env.locals := fun b o e => Nat.ne_of_lt (Nat.lt_of_lt_of_le (Heap.lt_size e) I.ok.above)
  have neC : ∀ b o, X.s₀.heap.get? b = some o → b ∉ X.ex → b ∉ ch := fun b o e hx hb => by
    rcases (hch b hb).1 with z | z
    · exact hx z
    · exact absurd (Nat.lt_of_lt_of_le (Heap.lt_size e) z) (Nat.lt_irrefl _)
  have cellK : ∀ x c, X.env.cells.lookup x = some c → ∀ v, s.heap.IsCell c v → h'.IsCell c v := fun x c e v ⟨o, ho, hd⟩ => by
    have nch : c ∉ ch := fun z => (hch c z).2.2.1 x c e rfl
    by_cases hc : c ∈ X.fs
    · obtain ⟨sl, q⟩ := slot c o (I.cne x c e) hc nch ho (I.freeC x c e)
      exact ⟨_, q, hd⟩
    · exact ⟨o, keep c o (I.cne x c e) hc nch ho (I.freeC x c e), hd⟩
  refine ⟨I.ok, I.os, hg, ⟨fun b o e n hb hx => ?_, fun b o e n hb hx => ?_, fun b o e n hx => ?_, fun b o e hx => ?_, fun b xs e => tups b xs (I.base.tups b xs e), fun b o xs e => frzs b o xs (I.base.frzs b o xs e), fun b ps e => ?_⟩, ?_, fun x c e => ?_, ?_, fun x c e => ?_, fun p hp => ?_, hok, I.len⟩
  · exact keep b o (neL b o e) hb (neC b o e hx) (I.base.keep b o e n hb hx) (I.base.free b o e n hx)
  · obtain ⟨sl, e1⟩ := I.base.slot b o e n hb hx
    obtain ⟨sl', e2⟩ := slot b _ (neL b o e) hb (neC b o e hx) e1 (I.base.free b o e n hx)
    exact ⟨sl', e2⟩
  · obtain ⟨o', e1⟩ := I.base.there b o e hx
    exact free b o' (neC b o e hx) e1 (I.base.free b o e n hx)
  · obtain ⟨o', e1⟩ := I.base.there b o e hx
    exact there b o' (neC b o e hx) e1
  · obtain ⟨m1, e1⟩ := I.base.tbls b ps e
    obtain ⟨m2, e2⟩ := tbls b _ e1
    exact ⟨m1 ++ m2, by rw [e2, Array.append_assoc]⟩
  · obtain ⟨m, hn, hl⟩ := I.loc
    refine ⟨m, ns m hn, fun i x v e1 e2 e3 => ?_⟩
    obtain ⟨u, r, l⟩ := hl i x v e1 e2 e3
    refine ⟨u, r, ?_⟩
    rcases l with l | ⟨k, c, e, z⟩
    · exact .inl l
    · exact .inr ⟨k, c, e, cellK x c e _ z⟩
  · obtain ⟨v, z⟩ := I.cell x c e
    exact ⟨v, cellK x c e v z⟩
  · obtain ⟨m, ⟨o, _, _, ho, _⟩, _⟩ := I.loc
    exact free _ o (fun z => (hch _ z).2.1 rfl) ho I.free
  · obtain ⟨v, o, ho, hd⟩ := I.cell x c e
    exact free c o (fun z => (hch c z).2.2.1 x c e rfl) ho (I.freeC x c e)
  · obtain ⟨e, n, ne, nf, d⟩ := I.pin p hp
    have nch : p.1 ∉ ch := fun z => (hch p.1 z).2.2.2 p hp rfl
    exact ⟨keep p.1 p.2 ne nf nch e n, free p.1 p.2 nch e n, ne, nf, d⟩
theorem Inv.un {t' : Nat} (I : Inv X pins σ H s) (u : Un X.fs [] H H' s.heap h') (hok : HOk X.prog X.w H' h') : Inv X pins σ H' { s with heap := h', toks := t' } := by
  obtain ⟨m, ⟨o, es, ep, ho, r⟩, _⟩ := id I.loc
  obtain ⟨sl, hL⟩ := u.any ho I.free (by simp)
  exact I.step (g' := s.gens) (d' := s.drawn) (ch := []) (fun _ z => nomatch z) (fun b o _ hb _ e n => u.keep b o e n hb (by simp)) (fun b o _ hb _ e n => u.slot b o e n hb (by simp)) (fun b o _ e n => u.free b o e n (by simp)) (fun b o _ e => u.there b o e (by simp)) u.tups u.frzs u.tbls (fun m' hm => by
    obtain ⟨o', es', ep', ho', r'⟩ := hm
    rw [ho] at ho'; cases ho'
    exact ⟨_, es', ep', hL, r'⟩) hok I.bare
theorem Inv.call {g' : Array GenState} {t' : Nat} {d' : Drawn} {ch : List Addr} (I : Inv X pins σ H s) (u : Un (frs X.stack) ch H H' s.heap h') (hok : HOk X.prog X.w H' h') (hg : AllBare g')
    (hch : ∀ b ∈ ch, (b ∈ X.ex ∨ X.s₀.heap.objs.size ≤ b) ∧ b ≠ X.env.locals ∧ (∀ x c, X.env.cells.lookup x = some c → c ≠ b) ∧ ∀ p ∈ X.pn ++ pins, p.1 ≠ b) :
    Inv X pins σ H' { s with heap := h', gens := g', drawn := d', toks := t' } := by
  obtain ⟨m, ⟨o, es, ep, ho, r⟩, _⟩ := id I.loc
  obtain ⟨sl, hL⟩ := u.any ho I.free fun z => (hch _ z).2.1 rfl
  exact I.step (ch := ch) hch (fun b o hL hb hc e n => u.keep b o e n (fun z => (List.mem_cons.mp (I.stkSub b z)).elim hL hb) hc) (fun b o _ _ hc e n => u.any e n hc) (fun b o hc e n => u.free b o e n hc) (fun b o hc e => u.there b o e hc) u.tups u.frzs u.tbls (fun m' hm => by
    obtain ⟨o', es', ep', ho', r'⟩ := hm
    rw [ho] at ho'; cases ho'
    exact ⟨_, es', ep', hL, r'⟩) hok hg
theorem Inv.turned {t' : Nat} {it : Addr} (I : Inv X pins σ H s) (k : ∀ b o, b ≠ it → s.heap.get? b = some o → h'.get? b = some o) (hn : H it = none) (hL : it ≠ X.env.locals)
    (h1 : it ∈ X.ex ∨ X.s₀.heap.objs.size ≤ it) (h2 : ∀ x c, X.env.cells.lookup x = some c → c ≠ it) (h3 : ∀ p ∈ X.pn ++ pins, p.1 ≠ it) : Inv X pins σ H { s with heap := h', toks := t' } := by
  have nit : ∀ b u, H b = some u → b ≠ it := fun b u e z => by rw [z, hn] at e; cases e
  refine I.step (g' := s.gens) (d' := s.drawn) (ch := [it]) (fun b hb => ?_) (fun b o _ _ hc e _ => k b o (fun z => hc (by simp [z])) e) (fun b o _ _ hc e _ => ⟨o.slots, k b o (fun z => hc (by simp [z])) e⟩) (fun _ _ _ _ n => n)
    (fun b o hc e => ⟨o, k b o (fun z => hc (by simp [z])) e⟩) (fun _ _ e => e) (fun _ _ _ e => e) (fun b ps e => ⟨#[], by rw [e]; simp⟩) (fun m hm => ?_) (fun b u e => ?_) I.bare
  · have e : b = it := by simpa using hb
    subst e
    exact ⟨h1, hL, h2, h3⟩
  · obtain ⟨o, es, ep, ho, r⟩ := hm
    exact ⟨o, es, ep, k _ o (Ne.symm hL) ho, r⟩
  · refine (I.hok b u e).stay (fun c v hc q => k c v ?_ q) (fun _ q => q) fun _ _ q => q
    rcases hc with z | z
    · rw [z]; exact nit b u e
    · exact nit c _ z
theorem Inv.tok (I : Inv X pins σ H s) (t : Nat) : Inv X pins σ H { s with toks := t } := I.un (h' := s.heap) (t' := t) Un.refl I.hok
theorem Inv.kept {t' : Nat} (I : Inv X pins σ H s) (k : ∀ b u, s.heap.get? b = some u → h'.get? b = some u) : Inv X pins σ H { s with heap := h', toks := t' } := I.un (Un.kept k) (I.hok.kept k)
theorem Inv.laid {a : Addr} {o : HO} {t' : Nat} (I : Inv X pins σ H s) (k : ∀ b u, s.heap.get? b = some u → h'.get? b = some u) (hp : s.heap.objs.size ≤ a) (new : ObjOk X.prog X.w (upd H a o) h' a o) :
    Inv X pins σ (upd H a o) { s with heap := h', toks := t' } := I.un (Un.laid k hp (I.hok.fresh hp)) (I.hok.laid k hp new)
theorem Inv.write {x e : Addr} {o : HO} {t' : Nat} (I : Inv X pins σ H s) (mu : Mut (H x)) (he : e = x ∨ H e = some (.own x)) (k : ∀ b u, b ≠ e → s.heap.get? b = some u → h'.get? b = some u) (heo : ∃ u, h'.get? e = some u)
    (new : ObjOk X.prog X.w (upd H x o) h' x o) : Inv X pins σ (upd H x o) { s with heap := h', toks := t' } := I.un (Un.write mu he k heo) (I.hok.write mu he k heo new)
theorem Inv.pins_of {pins' : List (Addr × Obj)} (I : Inv X pins σ H s) (h : ∀ p ∈ pins', s.heap.get? p.1 = some p.2 ∧ H p.1 = none ∧ p.1 ≠ X.env.locals ∧ p.1 ∉ X.fs ∧ ∀ v, p.2.data ≠ .cell v) : Inv X pins' σ H s :=
  ⟨I.ok, I.os, I.bare, I.base, I.loc, I.cell, I.free, I.freeC, fun p hp => (List.mem_append.mp hp).elim (fun z => I.pin p (List.mem_append_left _ z)) (h p), I.hok, I.len⟩

theorem nodup_ix {N : List Str} (hN : N.Nodup) {i j : Nat} {x : Str} (a : N[i]? = some x) (b : N[j]? = some x) : i = j := by
  obtain ⟨h1, e1⟩ := List.getElem?_eq_some_iff.mp a
  obtain ⟨h2, e2⟩ := List.getElem?_eq_some_iff.mp b
  exact (List.getElem_inj hN).mp (e1.trans e2.symm)

theorem store_ok2 {M : Model} {A : Around} {E : Value → Shared → Prop} {i : Nat} {x : Str} {v : V} {u : Value} {Q : Unit → Shared → Prop} (I : Inv X pins σ H s) (hN : X.N.Nodup) (hi : X.N[i]? = some x) (hx : Loc X.env.scope x) (r : RelV v u)
    (h : ∀ s', Inv X pins (σ.set i (some v)) H s' → (∃ a, Heap.SameBut a s.heap s'.heap ∧ (a = X.env.locals ∨ X.env.cells.lookup x = some a)) → Q () s') (hf : X.fn x = true ∨ X.env.scope.names.lookup x = some .local := by first | exact .inl rfl | exact .inr rfl | assumption) : wpAny M A (storeName X.env x u) Q E s := by
  obtain ⟨m, hn, hl⟩ := id I.loc
  have hcls : (X.env.scope.kind == .class || (X.env.scope.kind == .module && X.env.locals != X.env.globals)) = false := by rw [I.ok.kind]; rfl
  have hiσ : i < σ.length := by rw [I.len]; exact (List.getElem?_eq_some_iff.mp hi).1
  have cne := I.cne
  have tracked : ∀ {a : Addr} {h' : Heap}, (∃ o, s.heap.get? a = some o ∧ H a = none) → Heap.SameBut a s.heap h' → HOk X.prog X.w H h' := fun {a h'} ha hs b ob e => by
    obtain ⟨_, _, hfree⟩ := ha
    refine (I.hok b ob e).stay (fun c w' hc q => (hs.2 c ?_).trans q) (fun _ q => q) fun _ _ q => q
    rintro rfl
    rcases hc with rfl | hc
    · rw [hfree] at e; cases e
    · rw [hfree] at hc; cases hc
  rcases hx with hk | hk
  · refine wpAny_storeName_local hk hn (fun h' hn' hs => ?_) hcls
    obtain ⟨oL, _, _, hoL, _⟩ := id hn
    refine h _ ⟨I.ok, I.os, I.bare, ⟨fun b o e n hb hx => ?_, fun b o e n hb hx => ?_, I.base.free, fun b o e hx => ?_, I.base.tups, I.base.frzs, I.base.tbls⟩, ⟨_, hn', fun j y v' e1 e2 e3 => ?_⟩, fun y c e => ?_, I.free, I.freeC, fun p hp => ?_, tracked ⟨oL, hoL, I.free⟩ hs, by simpa using I.len⟩ ⟨_, hs, .inl rfl⟩
    · exact (hs.2 b (Nat.ne_of_lt (Nat.lt_of_lt_of_le (Heap.lt_size e) I.ok.above))).trans (I.base.keep b o e n hb hx)
    · obtain ⟨sl, e1⟩ := I.base.slot b o e n hb hx
      exact ⟨sl, (hs.2 b (Nat.ne_of_lt (Nat.lt_of_lt_of_le (Heap.lt_size e) I.ok.above))).trans e1⟩
    · obtain ⟨o', e1⟩ := I.base.there b o e hx
      exact ⟨o', (hs.2 b (Nat.ne_of_lt (Nat.lt_of_lt_of_le (Heap.lt_size e) I.ok.above))).trans e1⟩
    · by_cases hj : j = i
      · subst hj
        rw [hi] at e1; cases e1
        rw [List.getElem?_set_self hiσ] at e2
        cases e2
        exact ⟨u, r, .inl ⟨hk, by simp⟩⟩
      · rw [List.getElem?_set_ne (Ne.symm hj)] at e2
        obtain ⟨u', r', q⟩ := hl j y v' e1 e2 e3
        refine ⟨u', r', ?_⟩
        rcases q with ⟨k, e⟩ | ⟨k, c, e, z⟩
        · refine .inl ⟨k, ?_⟩
          have : y ≠ x := fun e => hj (nodup_ix hN e1 (e ▸ hi))
          simp [this, e]
        · exact .inr ⟨k, c, e, z.sameBut hs (cne y c e)⟩
    · obtain ⟨w', z⟩ := I.cell y c e
      exact ⟨w', z.sameBut hs (cne y c e)⟩
    · obtain ⟨e, n, ne, nf, d⟩ := I.pin p hp
      exact ⟨(hs.2 p.1 ne).trans e, n, ne, nf, d⟩
  · have hfn : X.fn x = true := by
      rcases hf with z | z
      · exact z
      · rw [z] at hk; cases hk
    obtain ⟨c, hc⟩ := I.ok.has x (.inl hk)
    obtain ⟨w', z⟩ := I.cell x c hc
    refine wpAny_storeName_cell I.ok.kind hk hc z (fun h' hc' hs => ?_)
    obtain ⟨oc, hoc, hocd⟩ := id z
    refine h { s with heap := h' } ⟨I.ok, I.os, I.bare, ⟨fun b o e n hb hx => ?_, fun b o e n hb hx => ?_, I.base.free, fun b o e hx => ?_, I.base.tups, I.base.frzs, I.base.tbls⟩, ⟨m, hn.sameBut hs (Ne.symm (cne x c hc)), fun j y v' e1 e2 e3 => ?_⟩, fun y c' e => ?_, I.free, I.freeC, fun p hp => ?_, tracked ⟨oc, hoc, I.freeC x c hc⟩ hs, by simpa using I.len⟩ ⟨c, hs, .inr hc⟩
    · exact (hs.2 b (Nat.ne_of_lt (Nat.lt_of_lt_of_le (Heap.lt_size e) (I.ok.cab x c hfn hc)))).trans (I.base.keep b o e n hb hx)
    · obtain ⟨sl, e1⟩ := I.base.slot b o e n hb hx
      exact ⟨sl, (hs.2 b (Nat.ne_of_lt (Nat.lt_of_lt_of_le (Heap.lt_size e) (I.ok.cab x c hfn hc)))).trans e1⟩
    · obtain ⟨o', e1⟩ := I.base.there b o e hx
      exact ⟨o', (hs.2 b (Nat.ne_of_lt (Nat.lt_of_lt_of_le (Heap.lt_size e) (I.ok.cab x c hfn hc)))).trans e1⟩
    · by_cases hj : j = i
      · subst hj
        rw [hi] at e1; cases e1
        rw [List.getElem?_set_self hiσ] at e2
        cases e2
        exact ⟨u, r, .inr ⟨.inl hk, c, hc, hc'⟩⟩
      · rw [List.getElem?_set_ne (Ne.symm hj)] at e2
        obtain ⟨u', r', q⟩ := hl j y v' e1 e2 e3
        refine ⟨u', r', ?_⟩
        rcases q with q | ⟨k, c', e, z'⟩
        · exact .inl q
        · refine .inr ⟨k, c', e, z'.sameBut hs ?_⟩
          rintro rfl
          exact hj (nodup_ix hN e1 (I.ok.inj _ _ _ e hc ▸ hi))
    · by_cases hcc : c' = c
      · subst hcc; exact ⟨_, hc'⟩
      · obtain ⟨w2, z2⟩ := I.cell y c' e
        exact ⟨w2, z2.sameBut hs hcc⟩
    · obtain ⟨e, n, ne, nf, d⟩ := I.pin p hp
      refine ⟨(hs.2 p.1 ?_).trans e, n, ne, nf, d⟩
      intro q
      rw [q, hoc] at e
      have q' : oc = p.2 := Option.some.inj e
      exact d w' (by rw [← q']; exact hocd)
theorem store_ok {M : Model} {A : Around} {E : Value → Shared → Prop} {i : Nat} {x : Str} {v : V} {u : Value} {Q : Unit → Shared → Prop} (I : Inv X pins σ H s) (hN : X.N.Nodup) (hi : X.N[i]? = some x) (hx : Loc X.env.scope x) (r : RelV v u)
    (h : ∀ s', Inv X pins (σ.set i (some v)) H s' → Q () s') (hf : X.fn x = true ∨ X.env.scope.names.lookup x = some .local := by first | exact .inl rfl | exact .inr rfl | assumption) : wpAny M A (storeName X.env x u) Q E s :=
  store_ok2 I hN hi hx r (fun s' I' _ => h s' I') hf
theorem Inv.call' {s' : Shared} {ch : List Addr} (I : Inv X pins σ H s) (ho : s'.os = s.os) (u : Un (frs X.stack) ch H H' s.heap s'.heap) (hok : HOk X.prog X.w H' s'.heap) (hg : AllBare s'.gens)
    (hch : ∀ b ∈ ch, (b ∈ X.ex ∨ X.s₀.heap.objs.size ≤ b) ∧ b ≠ X.env.locals ∧ (∀ x c, X.env.cells.lookup x = some c → c ≠ b) ∧ ∀ p ∈ X.pn ++ pins, p.1 ≠ b) : Inv X pins σ H' s' := by
  obtain ⟨h', g', d', t', o'⟩ := s'
  have e : o' = s.os := ho
  subst e
  exact I.call (g' := g') (t' := t') (d' := d') u hok hg hch
end

noncomputable abbrev XK := Value → Option Addr → Hp → Prop
noncomputable abbrev St := List (Option V)
noncomputable abbrev VK := V → Hp → Prop
noncomputable abbrev TE := St → Hp → VK → Prop
noncomputable abbrev TT := St → Hp → (Bool → Hp → Prop) → Prop
noncomputable abbrev TA := St → Hp → (List V → Hp → Prop) → Prop
structure Ends where
  nx : St → Hp → Prop
  rt : VK
  bk : St → Hp → Prop := fun _ _ => False
  ct : St → Hp → Prop := fun _ _ => False
noncomputable abbrev TS := Ends → St → Hp → Prop

noncomputable def EP (X : Cx) (pins : List (Addr × Obj)) (σ : St) (Q : VK) (u : Value) (s' : Shared) : Prop := ∃ v H', Inv X pins σ H' s' ∧ RelV v u ∧ Q v H'
noncomputable def TP (X : Cx) (pins : List (Addr × Obj)) (σ : St) (Q : Bool → Hp → Prop) (b : Bool) (s' : Shared) : Prop := ∃ H', Inv X pins σ H' s' ∧ Q b H'
noncomputable def AP (X : Cx) (pins : List (Addr × Obj)) (σ : St) (Q : List V → Hp → Prop) (us : List Value) (s' : Shared) : Prop := ∃ vs H', Inv X pins σ H' s' ∧ Vals vs us ∧ Q vs H'
noncomputable def SP (X : Cx) (pins : List (Addr × Obj)) (D : Ends) (f : Flow) (s' : Shared) : Prop :=
  match f with
  | .next => ∃ σ' H', Inv X pins σ' H' s' ∧ D.nx σ' H'
  | .brk => ∃ σ' H', Inv X pins σ' H' s' ∧ D.bk σ' H'
  | .cont => ∃ σ' H', Inv X pins σ' H' s' ∧ D.ct σ' H'
  | .ret u => ∃ v σ' H', Inv X pins σ' H' s' ∧ RelV v u ∧ D.rt v H'

noncomputable def PE (X : Cx) (e : Expr) (t : TE) : Prop :=
  ∀ (pins : List (Addr × Obj)) (s : Shared) (σ : St) (H : Hp) (Q : VK), Inv X pins σ H s → t σ H Q → wpAny (model X.prog X.w) X.A (eval e X.env) (EP X pins σ Q) X.xe s
noncomputable def PT (X : Cx) (e : Expr) (t : TT) : Prop :=
  ∀ (pins : List (Addr × Obj)) (s : Shared) (σ : St) (H : Hp) (Q : Bool → Hp → Prop), Inv X pins σ H s → t σ H Q → wpAny (model X.prog X.w) X.A (isTrue e X.env (eval e X.env)) (TP X pins σ Q) X.xe s
noncomputable def PW (X : Cx) (e : Expr) (t : TT) : Prop :=
  ∀ (whole : Sem Value) (pins : List (Addr × Obj)) (s : Shared) (σ : St) (H : Hp) (Q : Bool → Hp → Prop), Inv X pins σ H s → t σ H Q → wpAny (model X.prog X.w) X.A (isTrue e X.env whole) (TP X pins σ Q) X.xe s
theorem PW.pt {X : Cx} {e : Expr} {t : TT} (h : PW X e t) : PT X e t := h _
noncomputable def PA (X : Cx) (es : List Expr) (t : TA) : Prop :=
  ∀ (pos : Pos) (pins : List (Addr × Obj)) (s : Shared) (σ : St) (H : Hp) (Q : List V → Hp → Prop), Inv X pins σ H s → t σ H Q → wpAny (model X.prog X.w) X.A (spliced (backTo pos (starEach es X.env))) (AP X pins σ Q) X.xe s
noncomputable def PS (X : Cx) (st : Stmt) (t : TS) : Prop :=
  ∀ (pins : List (Addr × Obj)) (s : Shared) (σ : St) (H : Hp) (D : Ends), Inv X pins σ H s → t D σ H → wpAny (model X.prog X.w) X.A (exec st X.env) (SP X pins D) X.xe s
noncomputable def PSs (X : Cx) (st : List Stmt) (t : TS) : Prop :=
  ∀ (pins : List (Addr × Obj)) (s : Shared) (σ : St) (H : Hp) (D : Ends), Inv X pins σ H s → t D σ H → wpAny (model X.prog X.w) X.A (execs st X.env) (SP X pins D) X.xe s
theorem thn {α : Type} {t : Sem α} {Q Q' : α → Shared → Prop} {M : Model} {A : Around} {E : Value → Shared → Prop} {s : Shared} (h : wpAny M A t Q E s) (hQ : ∀ a s, Q a s → Q' a s) : wpAny M A t Q' E s := wpAny_mono h hQ fun _ _ x => x
end L2

namespace L2
open PySem PySem.Spec PyProof.Rows
section
variable {X : Cx}

noncomputable def tVar (i : Nat) : TE := fun σ H Q => ∃ v, σ[i]? = some (some v) ∧ Q v H
noncomputable def tC (v : V) : TE := fun _ H Q => Q v H
theorem pe_var {i : Nat} {x : Str} {pos : Pos} (hN : X.N[i]? = some x) (hv : Vis X.env.scope x) (hd : (x == ("__debug__" : Str)) = false := by decide) (hcd : (x == ("__classdict__" : Str)) = false := by decide) : PE X (.Name x pos) (tVar i) := by
  intro pins s σ H Q I h
  obtain ⟨v, e, h⟩ := h
  obtain ⟨m, hn, hl⟩ := I.loc
  obtain ⟨u, r, l⟩ := hl i x v hN e hv
  have fin : EP X pins σ Q u s := ⟨v, H, I, r, h⟩
  rcases l with ⟨hk, hm⟩ | ⟨hk, c, hc, hcell⟩
  · exact wpAny_Name (wpAny_loadName_local I.ok.kind hk hn hm fin) hd
  · rcases hk with hk | hk
    · exact wpAny_Name (wpAny_loadName_cell I.ok.kind hk hc hcell fin) hd
    · exact wpAny_Name (wpAny_loadName_free I.ok.kind hk hc hcell fin hcd) hd
theorem pe_int {i j pos} : PE X (.Constant (.int i) j pos) (tC (.int i)) := fun _ _ _ H _ I h => wpAny_Constant_int ⟨.int i, H, I.tok _, ⟨_, rfl⟩, h⟩
theorem pe_bl {b j pos} : PE X (.Constant (.bool b) j pos) (tC (.bl b)) := fun _ _ _ H _ I h => Constant_bool ⟨.bl b, H, I, rfl, h⟩
theorem pe_str {x j pos} : PE X (.Constant (.str x) j pos) (tC (.str x)) := fun _ _ _ H _ I h => Calls.Constant_str ⟨.str x, H, I.tok _, ⟨_, rfl⟩, h⟩

noncomputable def Gl (X : Cx) (x : Str) : Prop := X.env.kindOf x = some .globalImplicit
theorem ld_glob {E : Value → Shared → Prop} {pins : List (Addr × Obj)} {s : Shared} {σ : St} {H : Hp} {x : Str} {u : Value} {pos : Pos} {Q : Value → Shared → Prop} (I : Inv X pins σ H s) (hg : Gl X x) (hm : X.mg x = some u) (h : Q u s)
    (hd : (x == ("__debug__" : Str)) = false := by decide) : wpAny (model X.prog X.w) X.A (eval (.Name x pos) X.env) Q E s :=
  Calls.Name_function_global I.ok.kind hg (Calls.loadGlobal_global (by rw [I.ok.glob]; exact I.mod.glob.keeps I.bk) hm h) hd
theorem ld_blt {E : Value → Shared → Prop} {pins : List (Addr × Obj)} {s : Shared} {σ : St} {H : Hp} {x : Str} {u : Value} {pos : Pos} {Q : Value → Shared → Prop} (I : Inv X pins σ H s) (hg : Gl X x) (hm : X.mg x = none) (hv : bootBuiltins x = some u) (h : Q u s)
    (hn : x ≠ "__name__" := by decide) (hd : (x == ("__debug__" : Str)) = false := by decide) : wpAny (model X.prog X.w) X.A (eval (.Name x pos) X.env) Q E s := by
  obtain ⟨mb, h1, h2⟩ := I.mod.blt
  exact Calls.Name_function_global I.ok.kind hg (Calls.loadGlobal_builtin (by rw [I.ok.glob]; exact I.mod.glob.keeps I.bk) hm (by rw [I.ok.blt]; exact h1.keeps I.bk) ((h2 x hn).trans hv) h) hd
theorem pe_glob {x : Str} {v : V} {u : Value} {pos : Pos} (hg : Gl X x) (hm : X.mg x = some u) (r : RelV v u) (hd : (x == ("__debug__" : Str)) = false := by decide) : PE X (.Name x pos) (tC v) :=
  fun _ _ _ H _ I h => ld_glob I hg hm ⟨v, H, I, r, h⟩ hd
theorem pe_bltn {x : Str} {v : V} {u : Value} {pos : Pos} (hg : Gl X x) (hm : X.mg x = none) (hv : bootBuiltins x = some u) (r : RelV v u) (hn : x ≠ "__name__" := by decide) (hd : (x == ("__debug__" : Str)) = false := by decide) : PE X (.Name x pos) (tC v) :=
  fun _ _ _ H _ I h => ld_blt I hg hm hv ⟨v, H, I, r, h⟩ hn hd

variable {a b : Expr} {ta tb : TE} {pos : Pos}
noncomputable def tB (t : TE) : TT := fun σ H Q => t σ H fun x H1 => ∃ c, x = .bl c ∧ Q c H1
theorem pt_val {e : Expr} {t : TE} (h : PE X e t) (he : ∀ whole, isTrue e X.env whole = (do let v ← whole; standAt e.pos; holding [v] (truthy v)) := by intro _; rfl) : PT X e (tB t) := by
  intro pins s σ H Q I hw
  refine isTrue_plain (thn (h pins s σ H _ I hw) fun v s1 ⟨x, H1, I1, r1, q1⟩ => ?_) (he _)
  obtain ⟨d, rfl, q⟩ := q1
  cases r1
  exact wpAny_truthy_bool ⟨H1, I1, q⟩

variable {tA tB' : TT} {rest : List Expr}
noncomputable def tOr (t u : TT) : TT := fun σ H Q => t σ H fun c H1 => if c = true then Q true H1 else u σ H1 Q
noncomputable def tNot (t : TT) : TT := fun σ H Q => t σ H fun c H1 => Q (!c) H1
theorem pw_or1 (ha : PT X a tA) : PW X (.BoolOp .Or [a] pos) tA := by
  intro wh pins s σ H Q I h
  refine isTrue_or (thn (ha pins s σ H Q I h) fun c s1 e => ?_)
  cases c with
  | false => exact isTrue_or_nil e
  | true => exact e
theorem pw_or (ha : PT X a tA) (hb : PW X (.BoolOp .Or (b :: rest) pos) tB') : PW X (.BoolOp .Or (a :: b :: rest) pos) (tOr tA tB') := by
  intro wh pins s σ H Q I h
  refine isTrue_or (thn (ha pins s σ H _ I h) fun c s1 ⟨H1, I1, q1⟩ => ?_)
  cases c with
  | true => exact ⟨H1, I1, q1⟩
  | false => exact hb wh pins s1 σ H1 Q I1 q1
theorem pt_not (ha : PT X a tA) : PT X (.UnaryOp .Not a pos) (tNot tA) := by
  intro pins s σ H Q I h
  exact isTrue_not (ha pins s σ H (fun c H1 => Q (!c) H1) I h)
noncomputable def tIf (t : TT) (ta tb : TE) : TE := fun σ H Q => t σ H fun c H1 => if c = true then ta σ H1 Q else tb σ H1 Q
theorem pe_ifExp {c : Expr} (hc : PT X c tA) (ha : PE X a ta) (hb : PE X b tb) : PE X (.IfExp c a b pos) (tIf tA ta tb) := by
  intro pins s σ H Q I h
  refine wpAny_IfExp (thn (hc pins s σ H _ I h) fun d s1 ⟨H1, I1, q1⟩ => ?_)
  cases d with
  | true => exact ha pins s1 σ H1 Q I1 q1
  | false => exact hb pins s1 σ H1 Q I1 q1
end
end L2

namespace L2
open PySem PySem.Spec PyProof.Rows

noncomputable def SqL (K : PySem.W.Frag) (H : Hp) (a : Addr) (xs : List V) : Prop :=
  Rd H a (.lst xs) ∨
    ∃ (o : Obj) (its : Array Value) (n : Nat), K.lookup a = some o ∧ o.cls = .type "list" ∧ o.dict = none ∧ o.data = .seq its n ∧ its.size ≤ sizeLine ∧ Vals xs its.toList
noncomputable def SqT (K : PySem.W.Frag) (H : Hp) (a : Addr) (xs : List V) : Prop :=
  Rd H a (.tup xs) ∨
    ∃ (o : Obj) (its : Array Value) (n : Nat), K.lookup a = some o ∧ o.cls = .type "tuple" ∧ o.dict = none ∧ o.data = .seq its n ∧ its.size ≤ sizeLine ∧ Vals xs its.toList
noncomputable def absV : Value → Option V
  | .none => some .non
  | .bool b => some (.bl b)
  | .int i _ => some (.int i)
  | .str x _ => some (.str x)
  | .bytes b _ => some (.byt b)
  | .float b _ => some (.flt b)
  | .ref a => some (.ref a)
  | .type n => some (.ty n)
  | _ => none
theorem RelV.abs {x : V} {u : Value} (r : RelV x u) : absV u = some x := by
  cases x with
  | non => cases r; rfl
  | bl _ => cases r; rfl
  | int _ => obtain ⟨t, rfl⟩ := r; rfl
  | str _ => obtain ⟨t, rfl⟩ := r; rfl
  | byt _ => obtain ⟨t, rfl⟩ := r; rfl
  | flt _ => obtain ⟨t, rfl⟩ := r; rfl
  | ref _ => cases r; rfl
  | ty _ => cases r; rfl
theorem RelV.inj {x y : V} {u : Value} (r : RelV x u) (q : RelV y u) : x = y := Option.some.inj (r.abs.symm.trans q.abs)
theorem Vals.inj : ∀ {xs ys : List V} {us : List Value}, Vals xs us → Vals ys us → xs = ys
  | _, _, _, .nil, .nil => rfl
  | _, _, _, .cons r t, .cons r' t' => by rw [r.inj r', Vals.inj t t']
section
variable {X : Cx} {pins : List (Addr × Obj)} {σ : St} {H : Hp} {s : Shared} {a : Addr} {xs ys : List V}
theorem SqL.of {K : PySem.W.Frag} (h : H a = some (.lst xs)) : SqL K H a xs := .inl (.inl h)
theorem SqT.of {K : PySem.W.Frag} (h : H a = some (.tup xs)) : SqT K H a xs := .inl (.inl h)
theorem Inv.list (I : Inv X pins σ H s) (h : SqL X.K H a xs) : ∃ its : List Value, Vals xs its ∧ PlainL s.heap a its.toArray ∧ xs.length ≤ sizeLine := by
  rcases h with h | ⟨o, its, n, hk, hc, hd, hs, hz, r⟩
  · obtain ⟨z, its, n, r, e⟩ := h.ok I.hok
    exact ⟨its, r, ⟨_, n, e, rfl, rfl, rfl⟩, z⟩
  · refine ⟨its.toList, r, ⟨o, n, I.kIn a o hk, hc, hd, by simpa using hs⟩, ?_⟩
    have e := r.length
    simp only [Array.length_toList] at e
    omega
theorem Inv.tupleD (I : Inv X pins σ H s) (h : SqT X.K H a xs) : ∃ its : List Value, Vals xs its ∧ IsTupD s.heap a its.toArray ∧ xs.length ≤ sizeLine := by
  rcases h with h | ⟨o, its, n, hk, hc, hd, hs, hz, r⟩
  · obtain ⟨z, its, r, p⟩ := h.ok I.hok
    exact ⟨its, r, p, z⟩
  · refine ⟨its.toList, r, ⟨o, I.kIn a o hk, hc, hd, n, by simpa using hs⟩, ?_⟩
    have e := r.length
    simp only [Array.length_toList] at e
    omega
theorem Inv.tuple (I : Inv X pins σ H s) (h : SqT X.K H a xs) : ∃ its : List Value, Vals xs its ∧ IsTup s.heap a its.toArray ∧ xs.length ≤ sizeLine :=
  let ⟨its, r, p, z⟩ := I.tupleD h; ⟨its, r, p.tup, z⟩
theorem Inv.list_inj (I : Inv X pins σ H s) (h : SqL X.K H a xs) (h' : SqL X.K H a ys) : xs = ys := by
  obtain ⟨its, r, ⟨o, n, e, _, _, d⟩, _⟩ := I.list h
  obtain ⟨its', r', ⟨o', n', e', _, _, d'⟩, _⟩ := I.list h'
  rw [e] at e'; cases e'
  rw [d] at d'
  injection d' with d1 _
  have : its = its' := by simpa using congrArg Array.toList d1
  subst this
  exact r.inj r'
theorem Inv.tuple_inj (I : Inv X pins σ H s) (h : SqT X.K H a xs) (h' : SqT X.K H a ys) : xs = ys := by
  obtain ⟨its, r, ⟨o, e, _, n, d⟩, _⟩ := I.tuple h
  obtain ⟨its', r', ⟨o', e', _, n', d'⟩, _⟩ := I.tuple h'
  rw [e] at e'; cases e'
  rw [d] at d'
  injection d' with d1 _
  have : its = its' := by simpa using congrArg Array.toList d1
  subst this
  exact r.inj r'
end

noncomputable abbrev Cx.wish (X : Cx) (E : Value → Shared → Prop) : Cx := { X with xe := E }
noncomputable abbrev Cx.nox (X : Cx) : Cx := X.wish fun _ _ => False
theorem Cx.Ok.wish {X : Cx} (ok : X.Ok) (E : Value → Shared → Prop) : (X.wish E).Ok :=
  ⟨ok.mod, ok.kind, ok.glob, ok.blt, ok.above, ok.inj, ok.has, ok.cab, ok.hd, ok.frames, ok.stk, ok.exf, ok.bs, ok.bsz, ok.noex, ok.exfs, ok.funs, ok.frf⟩
theorem Cx.Ok.unwish {X : Cx} {E : Value → Shared → Prop} (ok : (X.wish E).Ok) : X.Ok :=
  ⟨ok.mod, ok.kind, ok.glob, ok.blt, ok.above, ok.inj, ok.has, ok.cab, ok.hd, ok.frames, ok.stk, ok.exf, ok.bs, ok.bsz, ok.noex, ok.exfs, ok.funs, ok.frf⟩
section
variable {X : Cx} {pins : List (Addr × Obj)} {σ : St} {H : Hp} {s : Shared} {E : Value → Shared → Prop}
theorem Inv.wish (I : Inv X pins σ H s) (E : Value → Shared → Prop) : Inv (X.wish E) pins σ H s := ⟨I.ok.wish E, I.os, I.bare, I.base, I.loc, I.cell, I.free, I.freeC, I.pin, I.hok, I.len⟩
theorem Inv.unwish (I : Inv (X.wish E) pins σ H s) : Inv X pins σ H s := ⟨I.ok.unwish, I.os, I.bare, I.base, I.loc, I.cell, I.free, I.freeC, I.pin, I.hok, I.len⟩
theorem SP.unwish {D : Ends} {f : Flow} {s' : Shared} (h : SP (X.wish E) pins D f s') : SP X pins D f s' := by
  cases f with
  | next => obtain ⟨σ', H', I, q⟩ := h; exact ⟨σ', H', I.unwish, q⟩
  | brk => obtain ⟨σ', H', I, q⟩ := h; exact ⟨σ', H', I.unwish, q⟩
  | cont => obtain ⟨σ', H', I, q⟩ := h; exact ⟨σ', H', I.unwish, q⟩
  | ret u => obtain ⟨v, σ', H', I, r, q⟩ := h; exact ⟨v, σ', H', I.unwish, r, q⟩
theorem PE.nox {e : Expr} {t : TE} (h : PE X.nox e t) : PE X e t := fun pins s σ H Q I hw =>
  wpAny_mono (h pins s σ H Q (I.wish _) hw) (fun _ _ ⟨v, H', I', r, q⟩ => ⟨v, H', I'.unwish, r, q⟩) fun _ _ z => False.elim z
theorem PT.nox {e : Expr} {t : TT} (h : PT X.nox e t) : PT X e t := fun pins s σ H Q I hw =>
  wpAny_mono (h pins s σ H Q (I.wish _) hw) (fun _ _ ⟨H', I', q⟩ => ⟨H', I'.unwish, q⟩) fun _ _ z => False.elim z
theorem PSs.nox {st : List Stmt} {t : TS} (h : PSs X.nox st t) : PSs X st t := fun pins s σ H D I hw =>
  wpAny_mono (h pins s σ H D (I.wish _) hw) (fun _ _ q => q.unwish) fun _ _ z => False.elim z
end

section
variable {X : Cx} {st : Stmt} {rest : List Stmt} {t u : TS} {e : Expr} {te : TE} {pos : Pos}
noncomputable def tNext : TS := fun D σ H => D.nx σ H
noncomputable def tSeq (t u : TS) : TS := fun D σ H => t { D with nx := u D } σ H
theorem pss_nil : PSs X [] tNext := fun _ _ σ H _ I h => wpAny_execs_nil ⟨σ, H, I, h⟩
theorem pss_cons (h1 : PS X st t) (h2 : PSs X rest u) : PSs X (st :: rest) (tSeq t u) := by
  intro pins s σ H D I h
  refine wpAny_execs_cons (thn (h1 pins s σ H { D with nx := u D } I h) fun f s1 q => ?_)
  cases f with
  | next =>
    obtain ⟨σ', H', I', q⟩ := q
    exact h2 pins s1 σ' H' D I' q
  | ret v => exact q
  | brk => exact q
  | cont => exact q
theorem pss_one (h1 : PS X st t) : PSs X [st] t := by
  intro pins s σ H D I h
  refine wpAny_execs_cons (thn (h1 pins s σ H D I h) fun f s1 q => ?_)
  cases f with
  | next => exact wpAny_execs_nil q
  | ret v => exact q
  | brk => exact q
  | cont => exact q
theorem Inv.quiet {pins : List (Addr × Obj)} {σ : St} {H : Hp} {s : Shared} (I : Inv X pins σ H s) : interactive X.env = false := by simp [interactive, I.ok.kind]
noncomputable def tDrop (te : TE) : TS := fun D σ H => te σ H fun _ H1 => D.nx σ H1
theorem ps_expr (he : PE X e te) (hs : swapsWith e none pos.line X.env = pure false := by rfl) : PS X (.Expr e pos) (tDrop te) := by
  intro pins s σ H D I h
  exact wpAny_Expr_any (thn (he pins s σ H _ I h) fun v s1 ⟨x, H1, I1, r1, q1⟩ => ⟨σ, H1, I1, q1⟩) I.quiet hs
noncomputable def tRet (te : TE) : TS := fun D σ H => te σ H D.rt
theorem ps_ret (he : PE X e te) : PS X (.Return (some e) pos) (tRet te) := by
  intro pins s σ H D I h
  exact wpAny_Return_some (thn (he pins s σ H _ I h) fun v s1 ⟨x, H1, I1, r1, q1⟩ => ⟨x, σ, H1, I1, r1, q1⟩)
noncomputable def tIfS (c : TT) (t u : TS) : TS := fun D σ H => c σ H fun b H1 => if b = true then t D σ H1 else u D σ H1
theorem ps_if {c : Expr} {a b : List Stmt} {tc : TT} (hc : PT X c tc) (ha : PSs X a t) (hb : PSs X b u) : PS X (.If c a b pos) (tIfS tc t u) := by
  intro pins s σ H D I h
  refine wpAny_If (thn (hc pins s σ H _ I h) fun d s1 ⟨H1, I1, q1⟩ => ?_)
  cases d with
  | true => exact ha pins s1 σ H1 D I1 q1
  | false => exact hb pins s1 σ H1 D I1 q1
end

noncomputable abbrev TG := V → St → Hp → (St → Hp → Prop) → Prop
noncomputable abbrev TGs := List V → St → Hp → (St → Hp → Prop) → Prop
noncomputable def PG (X : Cx) (target : Expr) (t : TG) : Prop :=
  ∀ (pins : List (Addr × Obj)) (s : Shared) (σ : St) (H : Hp) (v : V) (u : Value) (Q : St → Hp → Prop), Inv X pins σ H s → RelV v u → t v σ H Q →
    wpAny (model X.prog X.w) X.A (assign target X.env u) (fun _ s' => ∃ σ' H', Inv X pins σ' H' s' ∧ Q σ' H') X.xe s
noncomputable def PGs (X : Cx) (ts : List Expr) (t : TGs) : Prop :=
  ∀ (pins : List (Addr × Obj)) (s : Shared) (σ : St) (H : Hp) (vs : List V) (us : List Value) (Q : St → Hp → Prop), Inv X pins σ H s → Vals vs us → t vs σ H Q →
    wpAny (model X.prog X.w) X.A (assignInOrder ((assignEach ts X.env).map (·.2)) us) (fun _ s' => ∃ σ' H', Inv X pins σ' H' s' ∧ Q σ' H') X.xe s
noncomputable abbrev TSet := V → V → V → Hp → (Hp → Prop) → Prop
noncomputable def PSet (X : Cx) (t : TSet) : Prop :=
  ∀ (pins : List (Addr × Obj)) (s : Shared) (σ : St) (H : Hp) (o i v : V) (ov iv u : Value) (Q : Hp → Prop), Inv X pins σ H s → RelV o ov → RelV i iv → RelV v u → t o i v H Q →
    wpAny (model X.prog X.w) X.A (setItem ov iv u) (fun _ s' => ∃ H', Inv X pins σ H' s' ∧ Q H') X.xe s
section
variable {X : Cx} {pos : Pos}
noncomputable def gName (i : Nat) : TG := fun v σ H Q => Q (σ.set i (some v)) H
theorem pg_name {i : Nat} {x : Str} (hN : X.N.Nodup) (hi : X.N[i]? = some x) (hx : Loc X.env.scope x) (hf : X.fn x = true ∨ X.env.scope.names.lookup x = some .local := by first | exact .inl rfl | exact .inr rfl | assumption) : PG X (.Name x pos) (gName i) := by
  intro pins s σ H v u Q I r h
  exact wpAny_assign_Name (store_ok I hN hi hx r (fun s' I' => ⟨_, H, I', h⟩) hf)
noncomputable def gNil : TGs := fun vs σ H Q => vs = [] ∧ Q σ H
noncomputable def gCons (t : TG) (u : TGs) : TGs := fun vs σ H Q => ∃ v r, vs = v :: r ∧ t v σ H fun σ' H' => u r σ' H' Q
theorem pgs_nil : PGs X [] gNil := by
  intro pins s σ H vs us Q I r h
  obtain ⟨e, h⟩ := h
  subst e
  cases r
  exact assignInOrder_nil ⟨σ, H, I, h⟩
theorem pgs_cons {e : Expr} {es : List Expr} {t : TG} {u : TGs} (h1 : PG X e t) (h2 : PGs X es u)
    (hs : (assignEach (e :: es) X.env).map (·.2) = assign e X.env :: (assignEach es X.env).map (·.2) := by rfl) : PGs X (e :: es) (gCons t u) := by
  intro pins s σ H vs us Q I r h
  obtain ⟨v, vr, e1, h⟩ := h
  subst e1
  cases r with
  | cons r rr =>
    rw [hs]
    refine assignInOrder_cons (thn (h1 pins s σ H _ _ _ I r h) fun _ s1 ⟨σ1, H1, I1, q1⟩ => ?_)
    exact h2 pins s1 σ1 H1 _ _ Q I1 rr q1
noncomputable def gTup (K : PySem.W.Frag) (n : Nat) (t : TGs) : TG := fun v σ H Q => ∃ a xs, v = .ref a ∧ SqT K H a xs ∧ xs.length = n ∧ t xs σ H Q
theorem pg_tup {es : List Expr} {k : Nat} {t : TGs} {n : Nat} (hc : X.calm = true) (h : PGs X es t)
    (hn : (assignEach es X.env).length = n := by rfl) (hst : (assignEach es X.env).findIdx? (·.1) = none := by rfl) : PG X (.Tuple es k pos) (gTup X.K n t) := by
  intro pins s σ H v u Q I r hw
  obtain ⟨a, xs, e1, hq, hl, hw⟩ := hw
  subst e1
  cases r
  obtain ⟨its, rv, ht, hz⟩ := I.tuple hq
  refine assign_Tuple_tuple (I.ok.hd hc) ht (by simp [hn, ← hl, rv.length]) hst fun h' hx => ?_
  have I1 : Inv X pins σ H { s with heap := h' } := I.kept (t' := s.toks) fun b o e => hx b o (Nat.ne_of_lt (Heap.lt_size e)) e
  exact h pins _ σ H xs _ Q I1 (by simpa using rv) hw
noncomputable def gSub (to ti : TE) (t : TSet) : TG := fun v σ H Q => to σ H fun o H1 => ti σ H1 fun i H2 => t o i v H2 fun H3 => Q σ H3
theorem pg_sub {o i : Expr} {to ti : TE} {t : TSet} (ho : PE X o to) (hi : PE X i ti) (hs : PSet X t)
    (ha : ∀ v, assign (.Subscript o i pos) X.env v = (do
      let ov ← holding [v] (eval o X.env)
      let iv ← holding [v, ov] (eval i X.env)
      standAt pos
      holding [v, ov, iv] (setItem ov iv v)
      release [v, ov, iv] []) := by intro _; rfl) : PG X (.Subscript o i pos) (gSub to ti t) := by
  intro pins s σ H v u Q I r h
  rw [ha]
  refine wpAny_bind (wpAny_holding (thn (ho pins s σ H _ I h) fun ov s1 ⟨x, H1, I1, r1, q1⟩ => ?_))
  refine wpAny_bind (wpAny_holding (thn (hi pins s1 σ H1 _ I1 q1) fun iv s2 ⟨y, H2, I2, r2, q2⟩ => ?_))
  refine wpAny_bind (wpAny_standAt (wpAny_bind (wpAny_holding (thn (hs pins s2 σ H2 x y v ov iv u _ I2 r1 r2 r q2) fun _ s3 ⟨H3, I3, q3⟩ => ?_))))
  exact wpAny_release ⟨σ, H3, I3, q3⟩
noncomputable def tAsg (te : TE) (g : TG) : TS := fun D σ H => te σ H fun x H1 => g x σ H1 D.nx
theorem ps_asg {tg e : Expr} {te : TE} {g : TG} (he : PE X e te) (hg : PG X tg g) (hs : swapsWithSole [tg] e pos.line X.env = pure false := by rfl) (hw : swappedStores [tg] e X.env = pure none := by rfl)
    (h1 : (assignEach [tg] X.env).map (·.2) = [assign tg X.env] := by rfl) : PS X (.Assign [tg] e pos) (tAsg te g) := by
  intro pins s σ H D I h
  refine wpAny_Assign_stores (thn (he pins s σ H _ I h) fun v s1 ⟨x, H1, I1, r1, q1⟩ => ?_) hs hw
  rw [h1]
  exact thn (hg pins s1 σ H1 x v _ I1 r1 q1) fun _ s2 q => q
theorem ps_set {i : Nat} {x : Str} {e : Expr} {te : TE} {pos' : Pos} (hN : X.N.Nodup) (hi : X.N[i]? = some x) (hx : Loc X.env.scope x) (he : PE X e te) (hs : swapsWith e (some (.Name x pos')) pos.line X.env = pure false := by rfl) (hf : X.fn x = true ∨ X.env.scope.names.lookup x = some .local := by first | exact .inl rfl | exact .inr rfl | assumption) :
    PS X (.Assign [.Name x pos'] e pos) (tAsg te (gName i)) := by
  intro pins s σ H D I h
  refine wpAny_Assign_Name (thn (he pins s σ H _ I h) fun v s1 ⟨y, H1, I1, r1, q1⟩ => ?_) hs
  exact store_ok I1 hN hi hx r1 (fun s2 I2 => ⟨_, H1, I2, q1⟩) hf
end

section
variable {X : Cx} {pos : Pos}
end

structure It where
  go : Nat → Hp → Prop
  yld : Nat → Hp → V → Hp → Prop
  stop : Nat → Hp → Prop
noncomputable def FpOk (X : Cx) (pins : List (Addr × Obj)) (H : Hp) (b : Addr) : Prop :=
  H b = none ∧ b ≠ X.env.locals ∧ b ∉ X.fs ∧ (b ∈ X.ex ∨ X.s₀.heap.objs.size ≤ b) ∧ (∀ x c, X.env.cells.lookup x = some c → c ≠ b) ∧ ∀ p ∈ X.pn ++ pins, p.1 ≠ b
theorem Inv.fpOk {X : Cx} {pins : List (Addr × Obj)} {σ : St} {H H' : Hp} {s : Shared} {b : Addr} (I : Inv X pins σ H s) (hb : s.heap.objs.size ≤ b) (hn : H' b = none) : FpOk X pins H' b := by
  refine ⟨hn, Nat.ne_of_gt (Nat.lt_of_lt_of_le I.lt hb), I.nofs hb, .inr (Nat.le_trans I.sz hb), fun x c e z => ?_, fun p hp z => ?_⟩
  · obtain ⟨v, q⟩ := I.cell x c e
    exact absurd (Nat.lt_of_lt_of_le q.lt (by rw [z]; exact hb)) (Nat.lt_irrefl _)
  · exact absurd (Nat.lt_of_lt_of_le (Heap.lt_size (I.pin p hp).1) (by rw [z]; exact hb)) (Nat.lt_irrefl _)
structure Turn (P : Program) (w : World) (K : PySem.W.Frag) (tg : Expr) (J : It) (fp : List Addr) (it : Addr) (tn : Nat → Heap → Prop) : Prop where
  mem : it ∈ fp
  obj : ∀ i h, tn i h → ∀ b ∈ fp, ∃ o, h.get? b = some o ∧ ∀ v, o.data ≠ .cell v
  keep : ∀ i h h', tn i h → (∀ b ∈ fp, ∀ o, h.get? b = some o → h'.get? b = some o) → tn i h'
  item : ∀ (X : Cx), X.prog = P → X.w = w → X.K = K → X.calm = true → ∀ (i : Nat) (pins : List (Addr × Obj)) (s : Shared) (σ : St) (H : Hp) (E : Value → Shared → Prop), Inv X pins σ H s → (∀ b ∈ fp, FpOk X pins H b) → tn i s.heap → J.go i H →
    wpAny (model P w) X.A (pyNext (.ref it)) (fun r s1 => ∃ u, r = some u ∧
      wpAny (model P w) X.A (letOwnedTupleGo tg (.ref it) u) (fun _ s2 => ∃ x H', Inv X pins σ H' s2 ∧ RelV x u ∧ J.yld i H x H' ∧ tn (i + 1) s2.heap ∧ ∀ b ∈ fp, H' b = none) E s1) E s
  done : ∀ (X : Cx), X.prog = P → X.w = w → X.K = K → X.calm = true → ∀ (i : Nat) (pins : List (Addr × Obj)) (s : Shared) (σ : St) (H : Hp) (E : Value → Shared → Prop), Inv X pins σ H s → (∀ b ∈ fp, FpOk X pins H b) → tn i s.heap → J.stop i H →
    wpAny (model P w) X.A (pyNext (.ref it)) (fun r s1 => r = none ∧ Inv X pins σ H s1) E s
  self : ∀ (A : Around) (i : Nat) (s : Shared) (Q : Value → Shared → Prop) (E : Value → Shared → Prop), tn i s.heap → Q (.ref it) s → wpAny (model P w) A (pyIter (.ref it)) Q E s
noncomputable abbrev TI := St → Hp → (It → Hp → Prop) → Prop
noncomputable def PIE (X : Cx) (pins : List (Addr × Obj)) (σ : St) (tg : Expr) (R : It → Hp → Prop) (itv : Value) (s2 : Shared) : Prop :=
  ∃ (it : Addr) (fp : List Addr) (tn : Nat → Heap → Prop) (J : It) (H' : Hp), itv = .ref it ∧ Inv X pins σ H' s2 ∧ Turn X.prog X.w X.K tg J fp it tn ∧ tn 0 s2.heap ∧ (∀ b ∈ fp, FpOk X pins H' b) ∧ R J H'
noncomputable def PI (X : Cx) (tg iter : Expr) (wi : TI) : Prop :=
  ∀ (pins : List (Addr × Obj)) (s : Shared) (σ : St) (H : Hp) (R : It → Hp → Prop), Inv X pins σ H s → wi σ H R →
    wpAny (model X.prog X.w) X.A (eval iter X.env) (fun v s1 => wpAny (model X.prog X.w) X.A (pyIter v) (PIE X pins σ tg R) X.xe s1) X.xe s

theorem go_of {M : Model} {A : Around} {E : Value → Shared → Prop} {s : Shared} {tg : Expr} {it : Addr} {u : Value} {o : Obj} {n : String} {vs : Array Value} {Q : Unit → Shared → Prop} (ho : s.heap.get? it = some o) (hc : o.cls = .type n) (hd : o.data = .fields vs)
    (hn : ["enumerate", "zip", "dict_itemiterator", "dict_reverseitemiterator", "odict_iterator", "itertools.zip_longest", "itertools.pairwise"].contains n = false) (hQ : Q () s) : wpAny M A (letOwnedTupleGo tg (.ref it) u) Q E s := by
  unfold letOwnedTupleGo
  cases tg <;> first
    | exact wpAny_pure hQ
    | (cases u <;> first
        | exact wpAny_pure hQ
        | (refine wpAny_bind (wpAny_load ho ?_)
           rw [hc, hd]
           show wpAny M A (if (["enumerate", "zip", "dict_itemiterator", "dict_reverseitemiterator", "odict_iterator", "itertools.zip_longest", "itertools.pairwise"].contains n && vs[0]? == some (rawInt _)) = true then _ else _) Q E s
           rw [if_neg (by intro h; rw [hn, Bool.false_and] at h; cases h)]
           exact wpAny_pure hQ))

noncomputable def Itl (K : PySem.W.Frag) (a : Addr) : It :=
  ⟨fun i H => ∃ xs x, SqL K H a xs ∧ xs[i]? = some x, fun i H x H' => H' = H ∧ ∀ xs, SqL K H a xs → xs[i]? = some x, fun i H => ∃ xs, SqL K H a xs ∧ xs.length ≤ i⟩
noncomputable def Itt (K : PySem.W.Frag) (a : Addr) : It :=
  ⟨fun i H => ∃ xs x, SqT K H a xs ∧ xs[i]? = some x, fun i H x H' => H' = H ∧ ∀ xs, SqT K H a xs → xs[i]? = some x, fun i H => ∃ xs, SqT K H a xs ∧ xs.length ≤ i⟩
noncomputable def Itr (lo : Int) (n : Nat) : It := ⟨fun i _ => i < n, fun i H x H' => H' = H ∧ x = .int (lo + i), fun i _ => n ≤ i⟩
theorem turn_list {P : Program} {w : World} {K : PySem.W.Frag} {tg : Expr} (a it : Addr) : Turn P w K tg (Itl K a) [it] it (fun i h => h.IsListIter it a i) where
  mem := by simp
  obj := fun i h st b hb => by
    have e : b = it := by simpa using hb
    subst e
    obtain ⟨o, e, c, d⟩ := st
    exact ⟨o, e, fun v z => by rw [d] at z; cases z⟩
  keep := fun i h h' st k => st.at fun o e => k it (by simp) o e
  item := by
    intro X hP hw hK hc i pins s σ H E I hf st hg
    subst hP hw hK
    obtain ⟨xs, x, hq, hx⟩ := hg
    obtain ⟨its, rv, p, hz⟩ := I.list hq
    obtain ⟨u, hu, ru⟩ := rv.get hx
    obtain ⟨f0, f1, f2, f3, f4, f5⟩ := hf it (by simp)
    refine wpAny_pyNext_list_item st p.isList (x := u) (by simpa using hu) fun h' st' sb => ?_
    have I1 : Inv X pins σ H { s with heap := h' } := I.turned (t' := s.toks) (fun b o hb e => (sb.2 b hb).trans e) f0 f1 f3 f4 f5
    obtain ⟨o, e, c, d⟩ := id st'
    exact ⟨u, rfl, go_of (s := { s with heap := h' }) e c d (by decide) ⟨x, H, I1, ru, ⟨rfl, fun ys hy => by rw [I.list_inj hy hq]; exact hx⟩, st', fun b hb => (hf b hb).1⟩⟩
  done := by
    intro X hP hw hK hc i pins s σ H E I hf st hg
    subst hP hw hK
    obtain ⟨xs, hq, hx⟩ := hg
    obtain ⟨its, rv, p, hz⟩ := I.list hq
    obtain ⟨f0, f1, f2, f3, f4, f5⟩ := hf it (by simp)
    have hl := rv.length
    exact wpAny_pyNext_list_end (I.ok.hd hc) st p.isList (by simp; omega) fun h' eb => ⟨rfl, I.turned (t' := s.toks) (fun b o hb e => eb b o hb e) f0 f1 f3 f4 f5⟩
  self := fun _ _ _ _ _ st h => wpAny_pyIter_listiter st h
theorem turn_tuple {P : Program} {w : World} {K : PySem.W.Frag} {tg : Expr} (a it : Addr) : Turn P w K tg (Itt K a) [it] it (fun i h => h.IsTupleIter it a i) where
  mem := by simp
  obj := fun i h st b hb => by
    have e : b = it := by simpa using hb
    subst e
    obtain ⟨o, e, c, d⟩ := st
    exact ⟨o, e, fun v z => by rw [d] at z; cases z⟩
  keep := fun i h h' st k => st.at fun o e => k it (by simp) o e
  item := by
    intro X hP hw hK hc i pins s σ H E I hf st hg
    subst hP hw hK
    obtain ⟨xs, x, hq, hx⟩ := hg
    obtain ⟨its, rv, p, hz⟩ := I.tuple hq
    obtain ⟨u, hu, ru⟩ := rv.get hx
    obtain ⟨f0, f1, f2, f3, f4, f5⟩ := hf it (by simp)
    refine wpAny_pyNext_tuple_item st (show s.heap.IsTuple a its.toArray from p) (x := u) (by simpa using hu) fun h' st' sb => ?_
    have I1 : Inv X pins σ H { s with heap := h' } := I.turned (t' := s.toks) (fun b o hb e => (sb.2 b hb).trans e) f0 f1 f3 f4 f5
    obtain ⟨o, e, c, d⟩ := id st'
    exact ⟨u, rfl, go_of (s := { s with heap := h' }) e c d (by decide) ⟨x, H, I1, ru, ⟨rfl, fun ys hy => by rw [I.tuple_inj hy hq]; exact hx⟩, st', fun b hb => (hf b hb).1⟩⟩
  done := by
    intro X hP hw hK hc i pins s σ H E I hf st hg
    subst hP hw hK
    obtain ⟨xs, hq, hx⟩ := hg
    obtain ⟨its, rv, p, hz⟩ := I.tuple hq
    obtain ⟨f0, f1, f2, f3, f4, f5⟩ := hf it (by simp)
    have hl := rv.length
    exact wpAny_pyNext_tuple_end (I.ok.hd hc) st (show s.heap.IsTuple a its.toArray from p) (by simp; omega) fun h' eb => ⟨rfl, I.turned (t' := s.toks) (fun b o hb e => eb b o hb e) f0 f1 f3 f4 f5⟩
  self := fun _ _ _ _ _ st h => wpAny_pyIter_tupleiter st h
theorem turn_range {P : Program} {w : World} {K : PySem.W.Frag} {tg : Expr} (it : Addr) (lo : Int) (n : Nat) : Turn P w K tg (Itr lo n) [it] it (fun i h => IsRangeIter h it (lo + (i : Nat) * 1) ((n : Int) - (i : Nat)) 1) where
  mem := by simp
  obj := fun i h st b hb => by
    have e : b = it := by simpa using hb
    subst e
    exact ⟨_, st, fun v z => by
      have z' : Data.fields _ = Data.cell v := z
      cases z'⟩
  keep := fun i h h' st k => k it (by simp) _ st
  item := by
    intro X hP hw hK hc i pins s σ H E I hf st hg
    subst hP hw hK
    obtain ⟨f0, f1, f2, f3, f4, f5⟩ := hf it (by simp)
    have W := Walks.range (prog := X.prog) (w := X.w) (I.ok.hd hc) it lo 1 n
    refine W.item i s _ _ hg st fun v h' tk hv st' kk => ?_
    obtain ⟨t, rfl⟩ := hv
    have I1 : Inv X pins σ H { s with heap := h', toks := tk } := I.turned (fun b o hb e => kk b o (by simpa using hb) e) f0 f1 f3 f4 f5
    refine ⟨_, rfl, go_of (s := { s with heap := h', toks := tk }) (n := "range_iterator") st' rfl rfl (by decide) ⟨.int (lo + i), H, I1, ⟨t, ?_⟩, ⟨rfl, rfl⟩, st', fun b hb => (hf b hb).1⟩⟩
    rw [Int.mul_one]
  done := by
    intro X hP hw hK hc i pins s σ H E I hf st hg
    subst hP hw hK
    obtain ⟨f0, f1, f2, f3, f4, f5⟩ := hf it (by simp)
    exact wpAny_pyNext_range_end (I.ok.hd hc) st (by have : n ≤ i := hg; omega) fun h' eb => ⟨rfl, I.turned (t' := s.toks) (fun b o hb e => eb b o hb e) f0 f1 f3 f4 f5⟩
  self := fun _ _ _ _ _ st h => wpAny_pyIter_rangeiter st h
end L2

namespace L2
open PySem PySem.Spec PyProof.Rows
section
variable {X : Cx} {tg : Expr}
theorem range_it {pins : List (Addr × Obj)} {σ : St} {H : Hp} {s : Shared} {R : It → Hp → Prop} {E : Value → Shared → Prop} {lo hi : Int} {t u v : Tok} {tk : Nat} (I : Inv X pins σ H s) (h1 : -(2 ^ 62) ≤ lo) (h2 : lo < 2 ^ 62) (h3 : -(2 ^ 62) ≤ hi) (h4 : hi < 2 ^ 62)
    (q : R (Itr lo (hi - lo).toNat) H) : wpAny (model X.prog X.w) X.A (pyIter (.ref s.heap.objs.size)) (PIE X pins σ tg R) E { s with heap := s.heap.push { cls := .type "range", data := .fields #[.int lo t, .int hi u, .int 1 v] }, toks := tk } := by
  refine wpAny_pyIter_range (IsRange.new ..) (small_one h1 h2 h3 h4) ?_
  have I1 : Inv X pins σ H { s with heap := s.heap.push { cls := .type "range", data := .fields #[.int lo t, .int hi u, .int 1 v] }, toks := tk } := I.kept fun b o e => Heap.get?_push_of_some _ e
  refine ⟨(s.heap.push { cls := .type "range", data := .fields #[.int lo t, .int hi u, .int 1 v] }).objs.size, [(s.heap.push { cls := .type "range", data := .fields #[.int lo t, .int hi u, .int 1 v] }).objs.size], _, _, H, rfl,
    I1.kept (t' := tk) fun b o e => Heap.get?_push_of_some _ e, turn_range _ lo (hi - lo).toNat, ?_, fun b hb => ?_, q⟩
  · have e1 : lo + ((0 : Nat) : Int) * 1 = lo := by simp
    have e2 : (((hi - lo).toNat : Nat) : Int) - ((0 : Nat) : Int) = Builtin.Range.rangeSize lo hi 1 := by rw [rangeSize_one]; split <;> omega
    show IsRangeIter _ _ (lo + ((0 : Nat) : Int) * 1) ((((hi - lo).toNat : Nat) : Int) - ((0 : Nat) : Int)) 1
    rw [e1, e2]
    exact Heap.get?_push_size _ rfl
  · have e : b = (s.heap.push { cls := .type "range", data := .fields #[.int lo t, .int hi u, .int 1 v] }).objs.size := by simpa using hb
    subst e
    exact I1.fpOk (Nat.le_refl _) (I1.hok.fresh (Nat.le_refl _))
noncomputable def iRng1 (ta : TA) : TI := fun σ H R => ta σ H fun vs H1 => ∃ j : Int, vs = [.int j] ∧ -(2 ^ 62) ≤ j ∧ j < 2 ^ 62 ∧ R (Itr 0 j.toNat) H1
theorem pi_range1 {a : Expr} {ta : TA} {p pos : Pos} (hg : Gl X "range") (hm : X.mg "range" = none) (ha : PA X [a] ta) (hs : starEach [a] X.env = [(false, eval a X.env)] := by rfl) : PI X tg (.Call (.Name "range" p) [a] [] pos) (iRng1 ta) := by
  intro pins s σ H R I h
  refine Call_ (ld_blt I hg hm boot_range (PyProof.Rows.callWith_type1 (thn (ha pos pins s σ H _ I h) fun us s1 ⟨vs, H1, I1, r1, q1⟩ => ?_) hs rfl))
  obtain ⟨j, e, q1, q2, q⟩ := q1
  subst e
  cases r1 with
  | cons r rr =>
    cases rr
    obtain ⟨t, rfl⟩ := r
    exact call_range_1 (range_it I1 (by omega) (by omega) q1 q2 (by simpa using q))
noncomputable def tFor (wi : TI) (g : TG) (tb : TS) : TS := fun D σ H => wi σ H fun J H1 => ∃ W : Nat → Nat → St → Hp → Prop, (∃ m, W 0 m σ H1) ∧ ∀ i m σ H, W i m σ H →
  (J.stop i H ∧ D.nx σ H) ∨ (J.go i H ∧ ∃ N : St → Hp → Prop, (∀ σ' H', N σ' H' → ∃ m', m' < m ∧ W (i + 1) m' σ' H') ∧ ∀ x H', J.yld i H x H' → g x σ H' fun σ2 H2 => tb { D with nx := N, ct := N, bk := D.nx } σ2 H2)
noncomputable def pinsAt (fp : List Addr) (h : Heap) : List (Addr × Obj) := fp.filterMap fun b => (h.get? b).map fun o => (b, o)
theorem mem_pinsAt {fp : List Addr} {h : Heap} {b : Addr} {o : Obj} (hb : b ∈ fp) (e : h.get? b = some o) : (b, o) ∈ pinsAt fp h := List.mem_filterMap.mpr ⟨b, hb, by rw [e]; rfl⟩
theorem of_pinsAt {fp : List Addr} {h : Heap} {p : Addr × Obj} (hp : p ∈ pinsAt fp h) : p.1 ∈ fp ∧ h.get? p.1 = some p.2 := by
  obtain ⟨b, hb, e⟩ := List.mem_filterMap.mp hp
  cases q : h.get? b with
  | none => rw [q] at e; cases e
  | some o =>
    rw [q] at e
    have e' : (b, o) = p := Option.some.inj e
    subst e'
    exact ⟨hb, q⟩
theorem Inv.pinned {pins : List (Addr × Obj)} {σ : St} {H : Hp} {s : Shared} {fp : List Addr} (I : Inv X pins σ H s) (hf : ∀ b ∈ fp, FpOk X pins H b) (ho : ∀ b ∈ fp, ∃ o, s.heap.get? b = some o ∧ ∀ v, o.data ≠ .cell v) : Inv X (pins ++ pinsAt fp s.heap) σ H s :=
  I.pins_of fun p hp => (List.mem_append.mp hp).elim (fun z => I.pin p (List.mem_append_right _ z)) fun z => by
    obtain ⟨hb, e⟩ := of_pinsAt z
    obtain ⟨f0, f1, f2, _⟩ := hf p.1 hb
    obtain ⟨o, e', d⟩ := ho p.1 hb
    rw [e] at e'; cases e'
    exact ⟨e, f0, f1, f2, d⟩
theorem Inv.unpinned {pins pl : List (Addr × Obj)} {σ : St} {H : Hp} {s : Shared} (I : Inv X (pins ++ pl) σ H s) : Inv X pins σ H s := I.pins_of fun p hp => I.pin p (List.mem_append_right _ (List.mem_append_left _ hp))
theorem ps_for {iter : Expr} {body : List Stmt} {wi : TI} {g : TG} {tb : TS} {pos : Pos} (hp : PassesOwn (model X.prog X.w) X.A X.env X.xe) (hc : X.calm = true) (hi : PI X tg iter wi) (hg : PG X tg g) (hb : PSs X body tb)
    (hs : ∀ x, foldedSetIterable iter X.env x = pure x := by intro _; rfl) : PS X (.For tg iter body [] pos) (tFor wi g tb) := by
  intro pins s σ H D I h
  refine wpAny_For (thn (hi pins s σ H _ I h) fun v s1 h1 => thn h1 fun itv s2 h2 => ?_) hs
  obtain ⟨it, fp, tn, J, H2, e, I2, T, st2, f2, W, ⟨m0, w0⟩, turn⟩ := h2
  subst e
  -- what stays true of the iterator's objects through the loop
  have stat : ∀ {H' : Hp}, (∀ b ∈ fp, H' b = none) → ∀ b ∈ fp, FpOk X pins H' b := fun hn b hb => ⟨hn b hb, (f2 b hb).2⟩
  refine codeAny_forLoop_any (fun n s' => ∃ i σ' H', Inv X pins σ' H' s' ∧ tn i s'.heap ∧ (∀ b ∈ fp, H' b = none) ∧ W i n σ' H') ?_ m0 ⟨0, σ, H2, I2, st2, fun b hb => (f2 b hb).1, w0⟩
  rintro n s3 ⟨i, σ3, H3, I3, st3, fr3, w3⟩
  rcases turn i n σ3 H3 w3 with ⟨stop, qn⟩ | ⟨go, N, hN, step⟩
  · refine wpAny_passesOwn hp (thn (T.done X rfl rfl rfl hc i pins s3 σ3 H3 X.xe I3 (stat fr3) st3 stop) fun r s4 ⟨hr, I4⟩ => ?_)
    subst hr
    exact wpAny_execs_nil ⟨σ3, H3, I4, qn⟩
  · refine wpAny_passesOwn hp (thn (T.item X rfl rfl rfl hc i pins s3 σ3 H3 X.xe I3 (stat fr3) st3 go) fun r s4 ⟨u, hr, h4⟩ => ?_)
    subst hr
    refine wpAny_passesOwn hp (thn h4 fun _ s5 ⟨x, H5, I5, r5, y5, st5, fr5⟩ => ?_)
    have I5' := I5.pinned (stat fr5) (T.obj _ _ st5)
    refine wpAny_passesOwn hp (thn (hg _ s5 σ3 H5 x u _ I5' r5 (step x H5 y5)) fun _ s6 ⟨σ6, H6, I6, q6⟩ => ?_)
    refine wpAny_passesOwn hp (thn (hb _ s6 σ6 H6 _ I6 q6) fun f s7 q7 => ?_)
    have again : ∀ {σ7 : St} {H7 : Hp}, Inv X (pins ++ pinsAt fp s5.heap) σ7 H7 s7 → N σ7 H7 → ∃ m, m < n ∧ ∃ i σ' H', Inv X pins σ' H' s7 ∧ tn i s7.heap ∧ (∀ b ∈ fp, H' b = none) ∧ W i m σ' H' := fun {σ7 H7} I7 n7 => by
      obtain ⟨m', hm, w7⟩ := hN σ7 H7 n7
      refine ⟨m', hm, i + 1, σ7, H7, I7.unpinned, T.keep _ _ _ st5 fun b hb o e => (I7.pin (b, o) (List.mem_append_right _ (List.mem_append_right _ (mem_pinsAt hb e)))).1, fun b hb => ?_, w7⟩
      obtain ⟨o, e, d⟩ := T.obj _ _ st5 b hb
      exact (I7.pin (b, o) (List.mem_append_right _ (List.mem_append_right _ (mem_pinsAt hb e)))).2.1
    cases f with
    | next => obtain ⟨σ7, H7, I7, n7⟩ := q7; exact again I7 n7
    | cont => obtain ⟨σ7, H7, I7, n7⟩ := q7; exact again I7 n7
    | brk => obtain ⟨σ7, H7, I7, q7⟩ := q7; exact ⟨σ7, H7, I7.unpinned, q7⟩
    | ret v => obtain ⟨x7, σ7, H7, I7, r7, q7⟩ := q7; exact ⟨x7, σ7, H7, I7.unpinned, r7, q7⟩
end

end L2

namespace L2
open PySem PySem.Spec PyProof.Rows

noncomputable abbrev R2 := V → V → Hp → VK → Prop
noncomputable def OpR (X : Cx) (f : Value → Value → Sem Value) (r : R2) : Prop :=
  ∀ (pins : List (Addr × Obj)) (s : Shared) (σ : St) (H : Hp) (x y : V) (v u : Value) (Q : VK), Inv X pins σ H s → RelV x v → RelV y u → r x y H Q →
    wpAny (model X.prog X.w) X.A (f v u) (EP X pins σ Q) X.xe s
noncomputable def CallR (X : Cx) (f : Value) (r : List V → Hp → VK → Prop) : Prop :=
  ∀ (pins : List (Addr × Obj)) (s : Shared) (σ : St) (H : Hp) (xs : List V) (us : List Value) (Q : VK), Inv X pins σ H s → Vals xs us → r xs H Q →
    wpAny (model X.prog X.w) X.A (call f us) (EP X pins σ Q) X.xe s
noncomputable def tOp (r : R2) (ta tb : TE) : TE := fun σ H Q => ta σ H fun x H1 => tb σ H1 fun y H2 => r x y H2 Q
noncomputable def rI (C : Int → Int → Prop) (g : Int → Int → V) : R2 := fun x y H Q => ∃ i j, x = .int i ∧ y = .int j ∧ C i j ∧ Q (g i j) H
noncomputable def rI0 (g : Int → Int → V) : R2 := fun x y H Q => ∃ i j, x = .int i ∧ y = .int j ∧ Q (g i j) H
section
variable {X : Cx} {a b c : Expr} {ta tb tc : TE} {pos : Pos}

theorem binT (ha : PE X a ta) (hb : PE X b tb) {pins : List (Addr × Obj)} {s : Shared} {σ : St} {H : Hp} {R : V → V → Hp → Prop} (I : Inv X pins σ H s)
    (h : ta σ H fun x H1 => tb σ H1 fun y H2 => R x y H2) {Q : Value → Shared → Prop} {f : Value → Value → Sem Value}
    (hf : ∀ v u s2 x y H2, Inv X pins σ H2 s2 → RelV x v → RelV y u → R x y H2 → wpAny (model X.prog X.w) X.A (f v u) Q X.xe s2) :
    wpAny (model X.prog X.w) X.A (eval a X.env) (fun v s₁ => wpAny (model X.prog X.w) X.A (eval b X.env) (fun u s₂ => wpAny (model X.prog X.w) X.A (f v u) Q X.xe s₂) X.xe s₁) X.xe s := by
  refine thn (ha pins s σ H _ I h) fun v s1 ⟨x, H1, I1, r1, q1⟩ => ?_
  refine thn (hb pins s1 σ H1 _ I1 q1) fun u s2 ⟨y, H2, I2, r2, q2⟩ => ?_
  exact hf v u s2 x y H2 I2 r1 r2 q2

theorem pe_op {op : Operator} {r : R2} (ho : OpR X (binaryOp op) r) (ha : PE X a ta) (hb : PE X b tb) : PE X (.BinOp a op b pos) (tOp r ta tb) := by
  intro pins s σ H Q I h
  exact wpAny_BinOp (binT ha hb I h fun v u s2 x y H2 I2 rx ry q => ho pins s2 σ H2 x y v u Q I2 rx ry q)
theorem opI {f : Value → Value → Sem Value} {C : Int → Int → Prop} {g : Int → Int → Int}
    (rule : ∀ (i j : Int) (t u : Tok) (s : Shared) (Q : Value → Shared → Prop) (E : Value → Shared → Prop), C i j → Q (.int (g i j) s.toks) { s with toks := s.toks + 1 } → wpAny (model X.prog X.w) X.A (f (.int i t) (.int j u)) Q E s) :
    OpR X f (rI C fun i j => .int (g i j)) := by
  intro pins s σ H x y v u Q I rx ry h
  obtain ⟨i, j, rfl, rfl, hc, q⟩ := h
  obtain ⟨t, rfl⟩ := rx
  obtain ⟨t', rfl⟩ := ry
  exact rule i j t t' s _ _ hc ⟨.int (g i j), H, I.tok _, ⟨_, rfl⟩, q⟩
theorem opI0 {f : Value → Value → Sem Value} {g : Int → Int → Int}
    (rule : ∀ (i j : Int) (t u : Tok) (s : Shared) (Q : Value → Shared → Prop) (E : Value → Shared → Prop), Q (.int (g i j) s.toks) { s with toks := s.toks + 1 } → wpAny (model X.prog X.w) X.A (f (.int i t) (.int j u)) Q E s) :
    OpR X f (rI0 fun i j => .int (g i j)) := by
  intro pins s σ H x y v u Q I rx ry h
  obtain ⟨i, j, rfl, rfl, q⟩ := h
  obtain ⟨t, rfl⟩ := rx
  obtain ⟨t', rfl⟩ := ry
  exact rule i j t t' s _ _ ⟨.int (g i j), H, I.tok _, ⟨_, rfl⟩, q⟩
theorem opB0 {f : Value → Value → Sem Value} {g : Int → Int → Bool}
    (rule : ∀ (i j : Int) (t u : Tok) (s : Shared) (Q : Value → Shared → Prop) (E : Value → Shared → Prop), Q (.bool (g i j)) s → wpAny (model X.prog X.w) X.A (f (.int i t) (.int j u)) Q E s) :
    OpR X f (rI0 fun i j => .bl (g i j)) := by
  intro pins s σ H x y v u Q I rx ry h
  obtain ⟨i, j, rfl, rfl, q⟩ := h
  obtain ⟨t, rfl⟩ := rx
  obtain ⟨t', rfl⟩ := ry
  exact rule i j t t' s _ _ ⟨.bl (g i j), H, I, rfl, q⟩

noncomputable def CDiv (i j : Int) : Prop := 0 < j ∧ j < 1073741824
noncomputable def CPow (i j : Int) : Prop := 0 ≤ j ∧ j ≤ 1000000 ∧ i.natAbs < 2 ^ 64
noncomputable def CMul (i j : Int) : Prop := (-(2 ^ 64) < i ∧ i < 2 ^ 64) ∨ (-(2 ^ 64) < j ∧ j < 2 ^ 64)
theorem CMul.ok {i j : Int} (h : CMul i j) : IntMulOk i j := by
  rcases h with ⟨h1, h2⟩ | ⟨h1, h2⟩
  · exact .of_left (intBits_le_64 h1 h2)
  · exact .of_right (intBits_le_64 h1 h2)
theorem op_add : OpR X (binaryOp .Add) (rI0 fun i j => .int (i + j)) := opI0 fun _ _ _ _ _ _ _ q => add_int q
theorem op_sub : OpR X (binaryOp .Sub) (rI0 fun i j => .int (i - j)) := opI0 fun _ _ _ _ _ _ _ q => sub_int q
theorem op_mul : OpR X (binaryOp .Mult) (rI CMul fun i j => .int (i * j)) := opI fun _ _ _ _ _ _ _ hc q => mul_int q hc.ok
theorem op_fdiv : OpR X (binaryOp .FloorDiv) (rI CDiv fun i j => .int (i / j)) := opI fun i j _ _ _ _ _ hc q => by
  have h1 : (0 : Int) < j := hc.1
  have h2 : j < 1073741824 := hc.2
  exact floordiv_int (by omega) (by rw [Int.fdiv_eq_ediv_of_nonneg i (by omega)]; exact q) (.inl (PyProof.noPylong_small (by omega)))
theorem op_mod : OpR X (binaryOp .Mod) (rI (fun _ j => 0 < j) fun i j => .int (i % j)) := opI fun i j _ _ _ _ _ hc q => by
  have h1 : (0 : Int) < j := hc
  exact mod_int' (by omega) (by rw [Int.fmod_eq_emod_of_nonneg i (by omega)]; exact q)
theorem op_pow : OpR X (binaryOp .Pow) (rI CPow fun i j => .int (i ^ j.toNat)) := opI fun _ _ _ _ _ _ _ hc q => pow_int_small hc.1 hc.2.1 hc.2.2 q
end

noncomputable def scal : V → V → Bool
  | .non, .non => true | .non, .int _ => true | .int _, .non => true | .non, .bl _ => true | .bl _, .non => true | .non, .str _ => true | .str _, .non => true
  | .int _, .int _ => true | .bl _, .bl _ => true | .str _, .str _ => true | .byt _, .byt _ => true
  | .int _, .str _ => true | .str _, .int _ => true | .bl _, .str _ => true | .str _, .bl _ => true
  | _, _ => false
noncomputable def rEq : R2 := fun x y H Q => scal x y = true ∧ Q (.bl (decide (x = y))) H
noncomputable def rNe : R2 := fun x y H Q => scal x y = true ∧ Q (.bl (!decide (x = y))) H

theorem dec_int {i j : Int} : decide (V.int i = V.int j) = (i == j) := by
  rw [Bool.eq_iff_iff]
  simp
theorem dec_bl {i j : Bool} : decide (V.bl i = V.bl j) = (i == j) := by
  rw [Bool.eq_iff_iff]
  simp
theorem dec_str {i j : Str} : decide (V.str i = V.str j) = (i == j) := by
  rw [Bool.eq_iff_iff]
  simp
theorem dec_byt {i j : Array UInt8} : decide (V.byt i = V.byt j) = (i.toList == j.toList) := by
  rw [Bool.eq_iff_iff]
  cases i
  cases j
  simp

section
variable {X : Cx} {a b c : Expr} {ta tb tc : TE} {pos : Pos}
theorem fin_bl {pins : List (Addr × Obj)} {σ : St} {H : Hp} {s : Shared} {Q : VK} {k k' : Bool} (I : Inv X pins σ H s) (q : Q (.bl k) H) (e : k = k') : EP X pins σ Q (.bool k') s := by
  subst e
  exact ⟨.bl k, H, I, rfl, q⟩
theorem op_eq : OpR X (compareOp .Eq) rEq := by
  intro pins s σ H x y v u Q I rx ry h
  obtain ⟨hs, q⟩ := h
  cases x with
  | non =>
    cases rx
    cases y with
    | non => cases ry; exact PySem.EqNone.eq_none_none (fin_bl I q (by simp))
    | bl j => cases ry; exact PySem.EqNone.eq_none_bool (fin_bl I q (by simp))
    | int j => obtain ⟨t', rfl⟩ := ry; exact PySem.EqNone.eq_none_int (fin_bl I q (by simp))
    | str j => obtain ⟨t', rfl⟩ := ry; exact PySem.EqNone.eq_none_str (fin_bl I q (by simp))
    | _ => exact absurd (show false = true from hs) Bool.false_ne_true
  | bl i =>
    cases rx
    cases y with
    | non => cases ry; exact PySem.EqNone.eq_bool_none (fin_bl I q (by simp))
    | bl j => cases ry; exact eq_bool (fin_bl I q dec_bl)
    | str j => obtain ⟨t', rfl⟩ := ry; exact PySem.EqMixed.eq_bool_str (fin_bl I q (by simp))
    | _ => exact absurd (show false = true from hs) Bool.false_ne_true
  | int i =>
    obtain ⟨t, rfl⟩ := rx
    cases y with
    | non => cases ry; exact PySem.EqNone.eq_int_none (fin_bl I q (by simp))
    | int j => obtain ⟨t', rfl⟩ := ry; exact eq_int (fin_bl I q dec_int)
    | str j => obtain ⟨t', rfl⟩ := ry; exact PySem.EqMixed.eq_int_str (fin_bl I q (by simp))
    | _ => exact absurd (show false = true from hs) Bool.false_ne_true
  | str i =>
    obtain ⟨t, rfl⟩ := rx
    cases y with
    | non => cases ry; exact PySem.EqNone.eq_str_none (fin_bl I q (by simp))
    | bl j => cases ry; exact PySem.EqMixed.eq_str_bool (fin_bl I q (by simp))
    | int j => obtain ⟨t', rfl⟩ := ry; exact PySem.EqMixed.eq_str_int (fin_bl I q (by simp))
    | str j => obtain ⟨t', rfl⟩ := ry; exact eq_str (fin_bl I q dec_str)
    | _ => exact absurd (show false = true from hs) Bool.false_ne_true
  | byt i =>
    obtain ⟨t, rfl⟩ := rx
    cases y with
    | byt j => obtain ⟨t', rfl⟩ := ry; exact PySem.W.eq_bytes (fin_bl I q dec_byt)
    | _ => exact absurd (show false = true from hs) Bool.false_ne_true
  | _ => cases y <;> exact absurd (show false = true from hs) Bool.false_ne_true
theorem op_ne : OpR X (compareOp .NotEq) rNe := by
  intro pins s σ H x y v u Q I rx ry h
  obtain ⟨hs, q⟩ := h
  cases x with
  | non =>
    cases rx
    cases y with
    | non => cases ry; exact PySem.EqNone.ne_none_none (fin_bl I q (by simp))
    | bl j => cases ry; exact PySem.EqNone.ne_none_bool (fin_bl I q (by simp))
    | int j => obtain ⟨t', rfl⟩ := ry; exact PySem.EqNone.ne_none_int (fin_bl I q (by simp))
    | str j => obtain ⟨t', rfl⟩ := ry; exact PySem.EqNone.ne_none_str (fin_bl I q (by simp))
    | _ => exact absurd (show false = true from hs) Bool.false_ne_true
  | bl i =>
    cases rx
    cases y with
    | non => cases ry; exact PySem.EqNone.ne_bool_none (fin_bl I q (by simp))
    | bl j => cases ry; exact ne_bool (fin_bl I q (congrArg not dec_bl))
    | str j => obtain ⟨t', rfl⟩ := ry; exact PySem.EqMixed.ne_bool_str (fin_bl I q (by simp))
    | _ => exact absurd (show false = true from hs) Bool.false_ne_true
  | int i =>
    obtain ⟨t, rfl⟩ := rx
    cases y with
    | non => cases ry; exact PySem.EqNone.ne_int_none (fin_bl I q (by simp))
    | int j => obtain ⟨t', rfl⟩ := ry; exact ne_int (fin_bl I q (congrArg not dec_int))
    | str j => obtain ⟨t', rfl⟩ := ry; exact PySem.EqMixed.ne_int_str (fin_bl I q (by simp))
    | _ => exact absurd (show false = true from hs) Bool.false_ne_true
  | str i =>
    obtain ⟨t, rfl⟩ := rx
    cases y with
    | non => cases ry; exact PySem.EqNone.ne_str_none (fin_bl I q (by simp))
    | bl j => cases ry; exact PySem.EqMixed.ne_str_bool (fin_bl I q (by simp))
    | int j => obtain ⟨t', rfl⟩ := ry; exact PySem.EqMixed.ne_str_int (fin_bl I q (by simp))
    | str j => obtain ⟨t', rfl⟩ := ry; exact ne_str (fin_bl I q (congrArg not dec_str))
    | _ => exact absurd (show false = true from hs) Bool.false_ne_true
  | byt i =>
    obtain ⟨t, rfl⟩ := rx
    cases y with
    | byt j => obtain ⟨t', rfl⟩ := ry; exact PySem.W.ne_bytes (fin_bl I q (congrArg not dec_byt))
    | _ => exact absurd (show false = true from hs) Bool.false_ne_true
  | _ => cases y <;> exact absurd (show false = true from hs) Bool.false_ne_true

theorem op_gt : OpR X (compareOp .Gt) (rI0 fun i j => .bl (decide (j < i))) := opB0 fun _ _ _ _ _ _ _ q => gt_int q
theorem OpR.or {f : Value → Value → Sem Value} {r r' : R2} (h : OpR X f r) (h' : OpR X f r') : OpR X f (fun x y H Q => r x y H Q ∨ r' x y H Q) := by
  intro pins s σ H x y v u Q I rx ry q
  rcases q with q | q
  · exact h pins s σ H x y v u Q I rx ry q
  · exact h' pins s σ H x y v u Q I rx ry q

theorem nomark (b : Expr) {op : CmpOp} (h : op ≠ .In := by decide) (h2 : op ≠ .NotIn := by decide) : behindInMarks op b = false := by
  have e1 : (op == CmpOp.In) = false := by cases op <;> first | rfl | exact absurd rfl h
  have e2 : (op == CmpOp.NotIn) = false := by cases op <;> first | rfl | exact absurd rfl h2
  cases b <;> simp [behindInMarks, e1, e2]
noncomputable def tTest (t : TE) : TT := fun σ H Q => t σ H fun x H' => ∃ k, x = .bl k ∧ Q k H'
theorem pt_cmpR {op : CmpOp} {r : R2} (ho : OpR X (compareOp op) r) (ha : PE X a ta) (hb : PE X b tb) (hm : behindInMarks op b = false) : PT X (.Compare a [op] [b] pos) (tTest (tOp r ta tb)) := by
  intro pins s σ H Q I h
  refine wpAny_isTrue_Compare1 (thn (ha pins s σ H _ I h) fun v s1 ⟨x, H1, I1, r1, q1⟩ => thn (hb pins s1 σ H1 _ I1 q1) fun u s2 ⟨y, H2, I2, r2, q2⟩ =>
    thn (ho pins s2 σ H2 x y v u _ I2 r1 r2 q2) fun c s3 ⟨z, H3, I3, r3, k, e, q3⟩ => ?_) hm
  subst e
  cases r3
  exact wpAny_truthy_bool ⟨H3, I3, q3⟩
theorem line63 : (sizeLine : Nat) < 2 ^ 63 := by rw [sizeLine_eq]; decide
theorem op_add_str : OpR X (binaryOp .Add) (fun x y H Q => ∃ i j, x = .str i ∧ y = .str j ∧ i.length + j.length ≤ sizeLine ∧ Q (.str (i ++ j)) H) := by
  intro pins s σ H x y v u Q I rx ry h
  obtain ⟨i, j, rfl, rfl, hz, q⟩ := h
  obtain ⟨t, rfl⟩ := rx
  obtain ⟨t', rfl⟩ := ry
  exact add_str (fun t' tk => ⟨.str (i ++ j), H, I.tok _, ⟨_, rfl⟩, q⟩) hz
theorem vals1 {x : V} {us : List Value} (r : Vals [x] us) : ∃ u, us = [u] ∧ RelV x u := by
  cases r with
  | cons r1 r2 => cases r2; exact ⟨_, rfl, r1⟩
theorem call_str_int : CallR X (.type "str") (fun xs H Q => ∃ i, xs = [.int i] ∧ i.natAbs.log2 < 1920 ∧ Q (.str (toString i)) H) := by
  intro pins s σ H xs us Q I r h
  obtain ⟨i, rfl, hz, q⟩ := h
  obtain ⟨u, rfl, t, rfl⟩ := vals1 r
  exact PySem.P.str_of_int hz ⟨.str _, H, I.tok _, ⟨_, rfl⟩, q⟩
end
end L2

namespace L2
open PySem PySem.Spec PyProof.Rows

structure ObjM (h : Heap) (x dx C : Addr) (mA : Str → Option Value) : Prop where
  obj : h.get? x = some (PySem.W.instObj C dx)
  ns : h.Ns1 dx mA
  ne : dx ≠ x

theorem lookIn_ns {h : Heap} {dx : Addr} {mA : Str → Option Value} (n : h.Ns1 dx mA) : ∃ od, h.get? dx = some od ∧ ∀ name, PySem.W.lookIn name od = some (mA name) := by
  obtain ⟨o, es, ep, ho, hd, hk, _, hm⟩ := n
  refine ⟨o, ho, fun name => ?_⟩
  have e := hm name
  unfold nsFind findBy at e
  rw [← Array.find?_toList] at e
  unfold PySem.W.lookIn
  rw [hd]
  dsimp only
  split
  · rename_i y q
    rw [q] at e
    exact congrArg some e
  · rename_i q
    rw [q] at e
    have a : es.toList.any (·.refKey) = false := by
      rw [List.any_eq_false]
      intro y hy
      obtain ⟨z, t, hkey⟩ := hk y (Array.mem_toList_iff.mp hy)
      simp [DictEntry.refKey, hkey]
    have a' : ¬ es.toList.any (·.refKey) = true := by rw [a]; exact Bool.false_ne_true
    rw [if_neg a']
    exact congrArg some e

theorem ObjM.look {h : Heap} {x dx C : Addr} {mA : Str → Option Value} (I : ObjM h x dx C mA) : ∃ od, PySem.W.InstAt h x (PySem.W.instObj C dx) C (some od) ∧ ∀ name, PySem.W.lookIn name od = some (mA name) :=
  let ⟨od, ho, hl⟩ := lookIn_ns I.ns
  ⟨od, ⟨I.obj, rfl, rfl, ho⟩, hl⟩

section
variable {prog : Program} {w : World} {A : Around} {E : Value → Shared → Prop} {s : Shared} {K : PySem.W.Frag} {x dx C f : Addr} {mA : Str → Option Value} {name : Str} {v : Value}

end

noncomputable def putF (f : Str) (v : V) : List (Str × V) → List (Str × V)
  | [] => [(f, v)]
  | (g, x) :: r => if g = f then (g, v) :: r else (g, x) :: putF f v r
section
variable {P : Program} {w : World} {H H' : Hp} {h h' : Heap} {a C dx : Addr} {fs fs' : List (Str × V)}
theorem ins_get (hok : HOk P w H h) (e : H a = some (.ins C dx fs)) : ∃ mA, ObjM h a dx C mA ∧ (∀ f, RelO (fs.lookup f) (mA f)) ∧ PySem.Within mA (fs.map (·.1)) ∧ fs.length ≤ 1000 ∧ H dx = some (.own a) := by
  obtain ⟨d, z, ne, ob, mA, n, r, q⟩ := (show ObjOk P w H h a (.ins C dx fs) from hok a _ e)
  exact ⟨mA, ⟨ob, n, ne⟩, r, q, z, d⟩
end

structure Cls (K : PySem.W.Frag) (C : Addr) : Prop where
  pg : PySem.W.plainGet K C Str.empty = true
  hd : PySem.W.hasDictIn K C = true
  po : PySem.W.plainOver K C = true
  sa : PySem.W.findIn K (.ref C) "__setattr__" = some (some (.builtin "object.__setattr__"))
theorem Cls.get {K : PySem.W.Frag} {C : Addr} (c : Cls K C) (f : Str) : PySem.W.plainGet K C f = true := c.pg
section
variable {X : Cx} {pins : List (Addr × Obj)} {σ : St} {H : Hp} {s : Shared} {a C dx : Addr} {fs : List (Str × V)} {f : Str} {v : V} {A : Around} {E : Value → Shared → Prop}

theorem Inv.made (I : Inv X pins σ H s) : Inv X pins σ (upd (upd H s.heap.objs.size (.own (s.heap.objs.size + 1))) (s.heap.objs.size + 1) (.ins C s.heap.objs.size []))
    { s with heap := (s.heap.push PySem.W.emptyDict).push (PySem.W.instObj C s.heap.objs.size) } := by
  have e1 : (s.heap.push PySem.W.emptyDict).get? s.heap.objs.size = some PySem.W.emptyDict := Heap.get?_push_size s.heap rfl
  have e2 : ((s.heap.push PySem.W.emptyDict).push (PySem.W.instObj C s.heap.objs.size)).get? (s.heap.objs.size + 1) = some (PySem.W.instObj C s.heap.objs.size) := by
    have := Heap.get?_push_size (s.heap.push PySem.W.emptyDict) (o := PySem.W.instObj C s.heap.objs.size) rfl
    rwa [Heap.size_push] at this
  have e3 : (s.heap.push PySem.W.emptyDict).Ns s.heap.objs.size (fun _ => none) := ⟨PySem.W.emptyDict, #[], _, e1, rfl, (fun e he => absurd he (by simp)), fun _ => rfl⟩
  have I1 := I.laid (a := s.heap.objs.size) (o := .own (s.heap.objs.size + 1)) (h' := s.heap.push PySem.W.emptyDict) (t' := s.toks) (fun b u q => Heap.get?_push_of_some _ q) (Nat.le_refl _) ⟨_, e1⟩
  refine I1.laid (a := s.heap.objs.size + 1) (o := .ins C s.heap.objs.size []) (t' := s.toks) (fun b u q => Heap.get?_push_of_some _ q) (Nat.le_of_eq (Heap.size_push _ _)) ?_
  have ne : s.heap.objs.size ≠ s.heap.objs.size + 1 := Nat.ne_of_lt (Nat.lt_succ_self _)
  refine ⟨by rw [upd_ne ne, upd_same], Nat.zero_le _, ne, e2, fun _ => none, (Heap.Ns1.of_empty e3).at fun o q => Heap.get?_push_of_some _ q, fun _ => True.intro, fun y hy => absurd rfl hy⟩

end

section
variable {X : Cx} {o e value : Expr} {f : Str} {pos pos' tpos : Pos} {ta tv : TE}
end

section
variable {X : Cx} {pins : List (Addr × Obj)} {σ : St} {H : Hp} {s : Shared} {A : Around} {E : Value → Shared → Prop} {Q : Value → Shared → Prop} {c : Value} {b : Bool}
inductive TyOf (K : PySem.W.Frag) (H : Hp) : V → Value → Prop where
  | non : TyOf K H .non (.type "NoneType")
  | bl (x : Bool) : TyOf K H (.bl x) (.type "bool")
  | int (i : Int) : TyOf K H (.int i) (.type "int")
  | str (x : Str) : TyOf K H (.str x) (.type "str")
  | flt (x : UInt64) : TyOf K H (.flt x) (.type "float")
  | lst {a : Addr} {xs : List V} (e : H a = some (.lst xs)) : TyOf K H (.ref a) (.type "list")
  | frz {a : Addr} {o : Obj} {xs : List V} (e : H a = some (.frz o (.lst xs))) : TyOf K H (.ref a) (.type "list")
  | tup {a : Addr} {xs : List V} (e : H a = some (.tup xs)) : TyOf K H (.ref a) (.type "tuple")
  | dK {a : Addr} {kvs : List (Key × V)} (e : H a = some (.dK kvs)) : TyOf K H (.ref a) (.type "dict")
  | dT {a : Addr} {kvs : List (List Key × V)} (e : H a = some (.dT kvs)) : TyOf K H (.ref a) (.type "dict")
  | ins {a C dx : Addr} {fs : List (Str × V)} (e : H a = some (.ins C dx fs)) (cl : Cls K C) (ha : PySem.W.findIn K (.ref C) "__class__" = some (some (.builtin "object.__class__")))
      (hn : PySem.W.specialIn K (.builtin "object.__class__") "__get__" = some (some (.builtin "getset_descriptor.__get__"))) (htk : PySem.W.takesIn K (.builtin "object.__class__") = some true)
      (hm : PySem.W.mroIn K C (.type "object") = some true) : TyOf K H (.ref a) (.ref C)
theorem isinst_ok {x : V} {u t : Value} (I : Inv X pins σ H s) (rx : RelV x u) (ty : TyOf X.K H x t) (e : PySem.W.kitOne X.K t c = some b) (h : ∀ tk, Q (.bool b) { s with toks := tk }) :
    wpAny (model X.prog X.w) A (call (.builtin "isinstance") [u, c]) Q E s := by
  cases ty with
  | non => cases (show u = Value.none from rx); exact PySem.W.kia_one PySem.W.kitx_none I.kIn True.intro e (fun z => nomatch z) h
  | bl y => cases (show u = Value.bool y from rx); exact PySem.W.kia_one PySem.W.kitx_bool I.kIn True.intro e (fun z => nomatch z) h
  | int i => obtain ⟨t, q⟩ := (show ∃ t, u = Value.int i t from rx); cases q; exact PySem.W.kia_one PySem.W.kitx_int I.kIn True.intro e (fun z => nomatch z) h
  | str y => obtain ⟨t, q⟩ := (show ∃ t, u = Value.str y t from rx); cases q; exact PySem.W.kia_one PySem.W.kitx_str I.kIn True.intro e (fun z => nomatch z) h
  | flt y => obtain ⟨t, q⟩ := (show ∃ t, u = Value.float y t from rx); cases q; exact PySem.W.kia_one PySem.W.kitx_float I.kIn True.intro e (fun z => nomatch z) h
  | @lst a xs ea =>
    cases (show u = Value.ref a from rx)
    obtain ⟨_, _, n, _, h1⟩ := (show ObjOk X.prog X.w H s.heap a (.lst xs) from I.hok a _ ea)
    exact PySem.W.kia_one PySem.W.kitx_list I.kIn ⟨_, h1, rfl⟩ e (fun z => nomatch z) h
  | @frz a ob xs ea =>
    cases (show u = Value.ref a from rx)
    obtain ⟨_, _, _, n, _, h1⟩ := (show ObjOk X.prog X.w H s.heap a (.frz ob (.lst xs)) from I.hok a _ ea)
    exact PySem.W.kia_one PySem.W.kitx_list I.kIn ⟨_, h1, rfl⟩ e (fun z => nomatch z) h
  | @tup a xs ea =>
    cases (show u = Value.ref a from rx)
    obtain ⟨_, _, _, p⟩ := (show ObjOk X.prog X.w H s.heap a (.tup xs) from I.hok a _ ea)
    obtain ⟨o, h1, h2, _⟩ := p
    exact PySem.W.kia_one PySem.W.kitx_tuple I.kIn ⟨o, h1, h2⟩ e (fun z => nomatch z) h
  | @dK a kvs ea =>
    cases (show u = Value.ref a from rx)
    obtain ⟨_, _, vs, _, p⟩ := (show ObjOk X.prog X.w H s.heap a (.dK kvs) from I.hok a _ ea)
    obtain ⟨o, es, ep, h1, h2, _⟩ := p
    exact PySem.W.kia_one PySem.W.kitx_dict I.kIn ⟨o, h1, h2.1⟩ e (fun z => nomatch z) h
  | @dT a kvs ea =>
    cases (show u = Value.ref a from rx)
    obtain ⟨_, _, xs, _, o, es, ep, h1, h2, _⟩ := (show ObjOk X.prog X.w H s.heap a (.dT kvs) from I.hok a _ ea)
    exact PySem.W.kia_one PySem.W.kitx_dict I.kIn ⟨o, h1, h2.1⟩ e (fun z => nomatch z) h
  | @ins a C dx fs ea cl ha hn htk hm =>
    cases (show u = Value.ref a from rx)
    obtain ⟨mA, O, _⟩ := ins_get I.hok ea
    obtain ⟨od, J, _⟩ := O.look
    exact PySem.W.kia_one (PySem.W.kitx_own (cl.get _) cl.hd ha hn htk hm) I.kIn J e (fun z => nomatch z) h
end
end L2

namespace L2
open PySem PySem.Spec PyProof.Rows

structure Room (k : Nat) (A : Around) : Prop where
  hd : A.handled = none
  dp : A.depth + 3 * k + 5 < recursionLimit
  un : A.units + 16 * k + 200 < cLine
theorem Room.mono {j k : Nat} {A : Around} (r : Room k A) (h : j ≤ k) : Room j A := ⟨r.hd, by have := r.dp; omega, by have := r.un; omega⟩
theorem Room.deeper {k : Nat} {A : Around} (r : Room (k + 1) A) (env : Env) : Room k (A.deeper env) :=
  ⟨r.hd, by have := r.dp; show A.depth + 1 + 3 * k + 5 < _; omega, by have := r.un; show A.units + 3 + 16 * k + 200 < _; omega⟩
theorem Room.in1 {k : Nat} {A : Around} (r : Room (k + 1) A) : Room k A.in1 :=
  ⟨r.hd, by have := r.dp; show A.depth + 3 * k + 5 < _; omega, by have := r.un; show A.units + 1 + 16 * k + 200 < _; omega⟩
theorem Room.depth {k : Nat} {A : Around} (r : Room k A) : A.depth < recursionLimit := by have := r.dp; omega
theorem Room.units {k : Nat} {A : Around} (r : Room k A) : A.units + 64 < cLine := by have := r.un; omega
noncomputable def tNil : TA := fun _ H Q => Q [] H
noncomputable def tCons (ta : TE) (tr : TA) : TA := fun σ H Q => ta σ H fun x H1 => tr σ H1 fun xs H2 => Q (x :: xs) H2
section
variable {X : Cx} {e : Expr} {es : List Expr} {te : TE} {t : TA} {pos : Pos}
theorem pa_nil : PA X [] tNil := fun _ _ _ _ H Q I h => Calls.spliced_nil ⟨[], H, I, .nil, h⟩
theorem pa_cons (ha : PE X e te) (hr : PA X es t) (hs : starEach (e :: es) X.env = (false, eval e X.env) :: starEach es X.env := by rfl) : PA X (e :: es) (tCons te t) := by
  intro pos pins s σ H Q I h
  rw [hs]
  show wpAny _ _ (spliced ((false, eval e X.env) :: backTo pos (starEach es X.env))) _ _ s
  refine Calls.spliced_cons (thn (ha pins s σ H _ I h) fun u s1 ⟨x, H1, I1, r1, q1⟩ => ?_)
  exact thn (hr pos pins s1 σ H1 _ I1 q1) fun us s2 ⟨xs, H2, I2, r2, q2⟩ => ⟨x :: xs, H2, I2, .cons r1 r2, q2⟩

noncomputable def tTup (t : TA) : TE := fun σ H Q => t σ H fun xs H1 => xs.length ≤ sizeLine ∧ ∀ p, H1 p = none → Q (.ref p) (upd H1 p (.tup xs))
noncomputable def tLst (t : TA) : TE := fun σ H Q => t σ H fun xs H1 => xs.length ≤ sizeLine ∧ ∀ p, H1 p = none → Q (.ref p) (upd H1 p (.lst xs))
theorem pe_tup {x1} (h : PA X es t) : PE X (.Tuple es x1 pos) (tTup t) := by
  intro pins s σ H Q I hq
  refine wpAny_Tuple_spliced (thn (h pos pins s σ H _ I hq) fun us s1 ⟨xs, H1, I1, r, z, q⟩ => ⟨by rw [← r.length]; exact z, ?_⟩)
  have hf : H1 s1.heap.objs.size = none := I1.hok.fresh (Nat.le_refl _)
  refine ⟨.ref s1.heap.objs.size, upd H1 s1.heap.objs.size (.tup xs), I1.laid (t' := s1.toks) (fun b u e => Heap.get?_push_of_some _ e) (Nat.le_refl _) ?_, rfl, q _ hf⟩
  exact ⟨z, us, r, ⟨_, Heap.get?_push_size _ rfl, rfl, rfl, _, rfl⟩⟩
theorem pe_lst (h : PA X es t) : PE X (.List es pos) (tLst t) := by
  intro pins s σ H Q I hq
  refine wpAny_List_spliced (thn (h pos pins s σ H _ I hq) fun us s1 ⟨xs, H1, I1, r, z, q⟩ => ⟨by rw [← r.length]; exact z, ?_⟩)
  have hf : H1 s1.heap.objs.size = none := I1.hok.fresh (Nat.le_refl _)
  refine ⟨.ref s1.heap.objs.size, upd H1 s1.heap.objs.size (.lst xs), I1.laid (t' := s1.toks) (fun b u e => Heap.get?_push_of_some _ e) (Nat.le_refl _) ?_, rfl, q _ hf⟩
  exact ⟨z, us, 0, r, Heap.get?_push_size _ rfl⟩
end

noncomputable abbrev Sp := List V → Hp → VK → XK → Prop
noncomputable abbrev CXT := List Env → Hp → Shared → XK → Value → Shared → Prop

structure Env0 (P : Program) (w : World) (K : PySem.W.Frag) (mg : Str → Option Value) (base : Heap) (A : Around) (outer : List Env) (s : Shared) (H : Hp) : Prop where
  frames : A.frames = some outer
  mod : Mod K mg base
  bs : ∀ b o, base.get? b = some o → s.heap.get? b = some o ∧ H b = none
  bsz : base.objs.size ≤ s.heap.objs.size
  funs : s.heap.FunFrames base outer
  frf : ∀ b ∈ frs outer, H b = none
  hok : HOk P w H s.heap
  bare : AllBare s.gens
noncomputable def CE (outer : List Env) (P : Program) (w : World) (H : Hp) (s : Shared) (Q : VK) (u : Value) (s' : Shared) : Prop :=
  ∃ v H', s'.os = s.os ∧ AllBare s'.gens ∧ Un (frs outer) [] H H' s.heap s'.heap ∧ HOk P w H' s'.heap ∧ RelV v u ∧ Q v H'
noncomputable def CR (CX : CXT) (outer : List Env) (P : Program) (w : World) (H : Hp) (s : Shared) (Q : VK) (E : XK) (r : Result) (s' : Shared) : Prop :=
  match r with
  | .ok (.ret u) => CE outer P w H s Q u s'
  | .ok _ => False
  | .error e => CX outer H s E e s'
structure FnOk (P : Program) (w : World) (K : PySem.W.Frag) (mg : Str → Option Value) (base : Heap) (CX : CXT) (k : Nat) (f : Addr) (fd : FuncData) (ps : List Str) (sp : Sp) : Prop where
  len : ∀ vs H Q E, sp vs H Q E → vs.length = ps.length
  run : ∀ (A : Around) (outer : List Env) (s : Shared) (H : Hp) (args : Args) (us : List Value) (vs : List V) (Q : VK) (E : XK), Room k A → Env0 P w K mg base A outer s H → BindsTo s fd args (ps.zip us) → Vals vs us → sp vs H Q E →
    codeAny (model P w) A (.call (.ref f) args) (CR CX outer P w H s Q E) s
theorem FnOk.mono {P : Program} {w : World} {K : PySem.W.Frag} {mg : Str → Option Value} {base : Heap} {CX : CXT} {j k : Nat} {f : Addr} {fd : FuncData} {ps : List Str} {sp : Sp} (F : FnOk P w K mg base CX j f fd ps sp) (h : j ≤ k) :
    FnOk P w K mg base CX k f fd ps sp := ⟨F.len, fun A outer s H args us vs Q E hr => F.run A outer s H args us vs Q E (hr.mono h)⟩
theorem Env0.in1 {P : Program} {w : World} {K : PySem.W.Frag} {mg : Str → Option Value} {base : Heap} {A : Around} {outer : List Env} {s : Shared} {H : Hp} (e : Env0 P w K mg base A outer s H) :
    Env0 P w K mg base A.in1 outer s H := ⟨e.frames, e.mod, e.bs, e.bsz, e.funs, e.frf, e.hok, e.bare⟩

section
variable {X : Cx} {pins : List (Addr × Obj)} {σ : St} {H : Hp} {s s' : Shared}
theorem Inv.env0 (I : Inv X pins σ H s) : Env0 X.prog X.w X.K X.mg X.base X.A X.stack s H :=
  ⟨I.ok.frames, I.ok.mod, I.bs, Nat.le_trans I.ok.bsz I.sz, I.stack, I.stkFree, I.hok, I.bare⟩
theorem Inv.after {Q : VK} {u : Value} (I : Inv X pins σ H s) (h : CE X.stack X.prog X.w H s Q u s') : EP X pins σ Q u s' := by
  obtain ⟨v, H', os, bare, un, hok, r, q⟩ := h
  obtain ⟨hh, g, d, t, os'⟩ := s'
  obtain rfl : os' = s.os := os
  exact ⟨v, H', I.call (h' := hh) (g' := g) (d' := d) (t' := t) (ch := []) un hok bare (fun b z => absurd z (by simp)), r, q⟩
end

noncomputable def Binds (K : PySem.W.Frag) (fd : FuncData) (ps : List Str) (ds : List Value) : Prop :=
  ∀ (s : Shared) (us : List Value), K.In s.heap → (us ++ ds).length = ps.length → BindsTo s fd ⟨us, []⟩ (ps.zip (us ++ ds))
theorem Binds.all {K : PySem.W.Frag} {fd : FuncData} {ps : List Str} (h : ∀ us : List Value, us.length = ps.length → bindArgs fd ⟨us, []⟩ = pure (ps.zip us)) : Binds K fd ps [] := fun s us _ hl => by
  rw [List.append_nil] at hl ⊢
  exact .of_eq (h us hl)

section
variable {X : Cx} {CX : CXT} {k : Nat} {f C : Addr} {fd : FuncData} {ps : List Str} {sp : Sp} {dvs : List V} {ds : List Value} {E : XK} {x m : Str} {p pos apos : Pos} {e o : Expr} {es : List Expr} {ta : TE} {t : TA}

structure Mk (K : PySem.W.Frag) (C f : Addr) : Prop where
  makes : PySem.W.makesIn K C = true
  init : PySem.W.findIn K (.ref C) "__init__" = some (some (.ref f))
  fn : PySem.W.isFn K (.ref f) = true
  kp : PySem.W.keepIn K (.ref C) = true

end

section
variable {X : Cx} {CX : CXT} {k : Nat} {f C : Addr} {fd : FuncData} {ps ks : List Str} {sp : Sp} {E : XK} {x m : Str} {p pos apos kpos : Pos} {e o : Expr} {es : List Expr} {kws : List Keyword} {te ta : TE} {t tk : TA} {nm : Option Str}
variable {g : List Value → List Value → List Value} {gV : List V → List V → List V}
end

structure FnScope (N P : List Str) (sc : Scope) : Prop where
  kind : sc.kind = .function
  co : sc.isCoroutine = false
  gen : sc.isGenerator = false
  nd : N.Nodup
  pre : N.take P.length = P
  par : ∀ x ∈ P, sc.names.lookup x = some .local ∨ sc.names.lookup x = some .cell
  nofree : ∀ y ∈ sc.names, y.2 ≠ .free

theorem bindL_out {kindOf : Str → Option NameKind} {x : Str} : ∀ {binds : List (Str × Value)} {m : Str → Option Value}, (∀ v, (x, v) ∉ binds) → bindL kindOf binds m x = m x
  | [], _, _ => rfl
  | (n, v) :: r, m, h => by
    unfold bindL
    rw [bindL_out fun w hw => h w (List.mem_cons_of_mem _ hw)]
    split
    · have : x ≠ n := by rintro rfl; exact h v List.mem_cons_self
      simp [this]
    · rfl
theorem bindC_out {kindOf : Str → Option NameKind} {x : Str} : ∀ {binds : List (Str × Value)} {m : Str → Option Value}, (∀ v, (x, v) ∉ binds) → bindC kindOf binds m x = m x
  | [], _, _ => rfl
  | (n, v) :: r, m, h => by
    unfold bindC
    rw [bindC_out fun w hw => h w (List.mem_cons_of_mem _ hw)]
    split
    · rfl
    · have : x ≠ n := by rintro rfl; exact h v List.mem_cons_self
      simp [this]
theorem bindL_get {kindOf : Str → Option NameKind} {x : Str} {v : Value} : ∀ {P : List Str} {vs : List Value} {i : Nat} {m : Str → Option Value}, P.Nodup → P[i]? = some x → vs[i]? = some v → kindOf x = some .local →
    bindL kindOf (P.zip vs) m x = some v
  | [], _, _, _, _, h, _, _ => by simp at h
  | _ :: _, [], _, _, _, _, h, _ => by simp at h
  | p :: P, w :: vs, 0, m, nd, h1, h2, hk => by
    simp at h1 h2; subst h1; subst h2
    show bindL kindOf ((p, w) :: P.zip vs) m p = _
    unfold bindL
    rw [bindL_out fun v hv => (List.nodup_cons.mp nd).1 (List.of_mem_zip hv).1, if_pos hk]
    simp
  | p :: P, w :: vs, i + 1, m, nd, h1, h2, hk => by
    show bindL kindOf ((p, w) :: P.zip vs) m x = _
    unfold bindL
    exact bindL_get (i := i) (List.nodup_cons.mp nd).2 (by simpa using h1) (by simpa using h2) hk
theorem bindC_get {kindOf : Str → Option NameKind} {x : Str} {v : Value} : ∀ {P : List Str} {vs : List Value} {i : Nat} {m : Str → Option Value}, P.Nodup → P[i]? = some x → vs[i]? = some v → kindOf x ≠ some .local →
    bindC kindOf (P.zip vs) m x = some v
  | [], _, _, _, _, h, _, _ => by simp at h
  | _ :: _, [], _, _, _, _, h, _ => by simp at h
  | p :: P, w :: vs, 0, m, nd, h1, h2, hk => by
    simp at h1 h2; subst h1; subst h2
    show bindC kindOf ((p, w) :: P.zip vs) m p = _
    unfold bindC
    rw [bindC_out fun v hv => (List.nodup_cons.mp nd).1 (List.of_mem_zip hv).1, if_neg hk]
    simp
  | p :: P, w :: vs, i + 1, m, nd, h1, h2, hk => by
    show bindC kindOf ((p, w) :: P.zip vs) m x = _
    unfold bindC
    exact bindC_get (i := i) (List.nodup_cons.mp nd).2 (by simpa using h1) (by simpa using h2) hk

noncomputable def start (N : List Str) (vs : List V) : St := vs.map some ++ List.replicate (N.length - vs.length) none

noncomputable def cxOf (CX : CXT) (P : Program) (w : World) (K : PySem.W.Frag) (mg : Str → Option Value) (base : Heap) (N : List Str) (qual : Str) (scope : Scope) (f : Addr) (cd : Value) (A : Around) (outer : List Env) (s : Shared) (H : Hp) (E : XK) : Cx where
  prog := P
  w := w
  K := K
  mg := mg
  base := base
  A := A.deeper (envOfC qual scope s.heap.objs.size f cd)
  N := N
  s₀ := s
  H₀ := H
  env := envOfC qual scope s.heap.objs.size f cd
  outer := outer
  stack := envOfC qual scope s.heap.objs.size f cd :: outer
  ex := []
  calm := true
  fn := fun _ => true
  pn := []
  xe := fun e s' => wpAny (model P w) (A.deeper (envOfC qual scope s.heap.objs.size f cd)) (leaving (envOfC qual scope s.heap.objs.size f cd) e) (fun _ s'' => CX outer H s E e s'') (fun e' s'' => CX outer H s E e' s'') s'

theorem cell_has {sc : Scope} {n : Nat} {x : Str} (h : sc.names.lookup x = some .cell) : ∃ c, (cellsFrom n sc.names []).lookup x = some c := by
  have q := PySem.W.cellsFrom_some sc.names n [] (.inl h)
  exact Option.isSome_iff_exists.mp q

theorem inv_start {CX : CXT} {P : Program} {w : World} {K : PySem.W.Frag} {mg : Str → Option Value} {base : Heap} {N ps : List Str} {qual : Str} {scope : Scope} {f : Addr} {cd : Value} {A : Around} {outer : List Env} {s s1 : Shared} {H : Hp} {E : XK} {us : List Value} {vs : List V}
    (S : FnScope N ps scope) (hd : A.handled = none) (e0 : Env0 P w K mg base A outer s H) (hl : vs.length = ps.length) (r : Vals vs us)
    (x : InCallC s s.heap.objs.size (bindL (envOfC qual scope s.heap.objs.size f cd).kindOf (ps.zip us) fun _ => none) (cellsFrom (s.heap.objs.size + 1) scope.names []) (bindC (envOfC qual scope s.heap.objs.size f cd).kindOf (ps.zip us) fun _ => none) s1) :
    Inv (cxOf CX P w K mg base N qual scope f cd A outer s H E) [] (start N vs) H s1 := by
  have hpl : ps.length ≤ N.length := by have := congrArg List.length S.pre; rw [List.length_take] at this; omega
  obtain ⟨h1, tk, rfl, hk⟩ := x.done
  have noA : ∀ b : Addr, b ∉ (cxOf CX P w K mg base N qual scope f cd A outer s H E).ex := fun b z => absurd (show b ∈ ([] : List Addr) from z) (by simp)
  refine ⟨⟨e0.mod, S.kind, rfl, rfl, Nat.le_refl _, fun y z c h1 h2 => ?_, fun y hy => ?_, fun y c _ h => ?_, fun _ => hd, Around.frames_deeper e0.frames, .inr ⟨rfl, rfl⟩, fun b z => absurd z (noA b), e0.bs, e0.bsz, fun b _ _ => noA b, fun b z => absurd z (noA b), e0.funs, e0.frf⟩,
    rfl, e0.bare, Un.kept hk, ⟨_, x.toInCall.ns, fun i y v h1 h2 h3 => ?_⟩, fun y c h => ⟨_, x.cell y c h⟩, e0.hok.fresh (Nat.le_refl _), fun y c h => ?_, fun p hp => absurd (show p ∈ ([] : List (Addr × Obj)) from hp) (by simp), e0.hok.kept hk, ?_⟩
  · exact name_of_addr x.apart (PySem.mem_of_lookup h1) (PySem.mem_of_lookup h2)
  · have hy : scope.names.lookup y = some .cell ∨ scope.names.lookup y = some .free := hy
    rcases hy with hy | hy
    · exact cell_has hy
    · exact absurd rfl (S.nofree _ (PySem.mem_of_lookup hy))
  · exact Nat.le_of_lt (x.above y c (PySem.mem_of_lookup h))
  · have hi : i < vs.length := by
      unfold start at h2
      by_cases hi : i < vs.length
      · exact hi
      · rw [List.getElem?_append_right (by simpa using hi)] at h2
        rw [List.getElem?_replicate] at h2
        split at h2 <;> cases h2
    have ha : vs[i]? = some v := by
      unfold start at h2
      rw [List.getElem?_append_left (by simpa using hi), List.getElem?_map] at h2
      cases e : vs[i]? with
      | none => rw [e] at h2; cases h2
      | some a => rw [e] at h2; cases h2; rfl
    obtain ⟨u, hu, rv⟩ := r.get ha
    have hp : ps[i]? = some y := by
      rw [← S.pre, List.getElem?_take_of_lt (by omega)]; exact h1
    have ndP : ps.Nodup := by rw [← S.pre]; exact S.nd.sublist (List.take_sublist _ _)
    refine ⟨u, rv, ?_⟩
    rcases S.par y (List.mem_of_getElem? hp) with k | k
    · exact .inl ⟨k, bindL_get ndP hp hu k⟩
    · obtain ⟨c, e⟩ := cell_has (n := s.heap.objs.size + 1) k
      refine .inr ⟨.inl k, c, e, ?_⟩
      have q := x.cell y c e
      rw [bindC_get ndP hp hu (by show scope.names.lookup y ≠ _; rw [k]; decide)] at q
      exact q
  · exact e0.hok.fresh (Nat.le_of_lt (x.above y c (PySem.mem_of_lookup h)))
  · unfold start
    show _ = N.length
    rw [List.length_append, List.length_map, List.length_replicate]
    omega

theorem fn_of {CX : CXT} {P : Program} {w : World} {K : PySem.W.Frag} {mg : Str → Option Value} {base : Heap} {k : Nat} {f : Addr} {name qual : Str} {params : Arguments} {body : List Stmt} {scope : Scope} {dV kV doc pm cdv ct oc : Value} {an od : Option Addr}
    {osl : Array (Option Value)} {N ps : List Str} {sp : Sp} (lk : K.lookup f = some ⟨oc, od, .func (PySem.W.fnOf name qual params body scope dV kV doc pm an cdv ct), osl⟩) (hcd : PySem.W.codeIn K cdv qual = true) (S : FnScope N ps scope)
    (len : ∀ vs H Q E, sp vs H Q E → vs.length = ps.length)
    (hbody : ∀ (A : Around) (outer : List Env) (s : Shared) (H : Hp) (vs : List V) (Q : VK) (E : XK), Room k (A.deeper (envOfC qual scope s.heap.objs.size f cdv)) → sp vs H Q E →
      ∃ t, PSs (cxOf CX P w K mg base N qual scope f cdv A outer s H E) body t ∧ t { nx := fun _ H' => Q .non H', rt := Q } (start N vs) H) :
    FnOk P w K mg base CX (k + 1) f (PySem.W.fnOf name qual params body scope dV kV doc pm an cdv ct) ps sp := by
  refine ⟨len, fun A outer s H args us vs Q E hr e0 hb r hsp => ?_⟩
  have hl := len _ _ _ _ hsp
  have KX : K.In s.heap := e0.mod.kin.keeps fun b o e => (e0.bs b o e).1
  have lim : s.heap.NoLimit := e0.mod.nolimit.keeps fun b o e => (e0.bs b o e).1
  have hkind : ∀ y ∈ ps.zip us, scope.names.lookup y.1 = some .local ∨ (scope.names.lookup y.1 = some .cell ∧ ((cellsFrom (s.heap.objs.size + 1) scope.names []).lookup y.1).isSome = true) := fun ⟨n, v⟩ hy => by
    rcases S.par n (List.of_mem_zip hy).1 with q | q
    · exact .inl q
    · exact .inr ⟨q, PySem.W.cellsFrom_some _ _ _ (.inl q)⟩
  refine codeAny_call_function hr.depth (KX _ _ lk) rfl S.co S.gen rfl (PySem.W.codeRec_of KX hcd) (hb _ _ _ _ ?_)
  refine wpAny_newFunctionEnv_cells S.kind hkind fun env he s1 x => ?_
  subst he
  refine ⟨lim.keeps x.toInCall.keep, codeAny_func ?_⟩
  obtain ⟨t, ht, hq⟩ := hbody A outer s H vs Q E (hr.deeper _) hsp
  have I : Inv (cxOf CX P w K mg base N qual scope f cdv A outer s H E) [] (start N vs) H s1 := inv_start S hr.hd e0 hl r x
  refine wpAny_mono (ht [] s1 (start N vs) H _ I hq) (fun fl s' hs => ?_) fun e s' hs => hs
  have fin : ∀ {σ' : St} {H' : Hp} {v : V} {u : Value}, Inv (cxOf CX P w K mg base N qual scope f cdv A outer s H E) [] σ' H' s' → RelV v u → Q v H' → CE outer P w H s Q u s' :=
    fun {σ' H' v u} J rv q => ⟨v, H', J.os, J.bare, J.base, J.hok, rv, q⟩
  cases fl with
  | ret u =>
    obtain ⟨v, σ', H', J, rv, q⟩ := hs
    exact fin J rv q
  | next =>
    obtain ⟨σ', H', J, q⟩ := hs
    exact fin (v := V.non) (u := Value.none) J rfl q
  | brk =>
    obtain ⟨_, _, _, q⟩ := hs
    exact False.elim q
  | cont =>
    obtain ⟨_, _, _, q⟩ := hs
    exact False.elim q
end L2

namespace L2
open PySem PySem.Spec PyProof.Rows
section
variable {X : Cx} {x : Str} {p pos : Pos} {e : Expr} {es : List Expr} {t : TA} {id T : String} {r : List V → Hp → VK → Prop}

noncomputable def tCB (r : List V → Hp → VK → Prop) (t : TA) : TE := fun σ H Q => t σ H fun vs H1 => r vs H1 Q
theorem pe_callB (hc : CallR X (.builtin id) r) (hg : Gl X x) (hm : X.mg x = none) (hv : bootBuiltins x = some (.builtin id)) (ha : PA X (e :: es) t) (hn : x ≠ "__name__" := by decide) (hdb : (x == ("__debug__" : Str)) = false := by decide)
    (he : starEach (e :: es) X.env = (false, eval e X.env) :: starEach es X.env := by rfl) (hpl : (backTo pos (starEach es X.env)).any (·.1) = false := by rfl) : PE X (.Call (.Name x p) (e :: es) [] pos) (tCB r t) := by
  intro pins s σ H Q I h
  refine wpAny_Call_Name_kw (ld_blt I hg hm hv ?_ hn hdb)
  exact PyProof.Rows.callWith_builtin1 (thn (ha pos pins s σ H _ I h) fun us s1 ⟨vs, H1, I1, r1, q1⟩ => hc pins s1 σ H1 vs us Q I1 r1 q1) he hpl
theorem pe_callTy (hc : CallR X (.type T) r) (hg : Gl X x) (hm : X.mg x = none) (hv : bootBuiltins x = some (.type T)) (ha : PA X (e :: es) t) (hn : x ≠ "__name__" := by decide) (hdb : (x == ("__debug__" : Str)) = false := by decide)
    (he : starEach (e :: es) X.env = (false, eval e X.env) :: starEach es X.env := by rfl) (hpl : (backTo pos (starEach es X.env)).any (·.1) = false := by rfl) : PE X (.Call (.Name x p) (e :: es) [] pos) (tCB r t) := by
  intro pins s σ H Q I h
  refine wpAny_Call_Name_kw (ld_blt I hg hm hv ?_ hn hdb)
  exact PyProof.Rows.callWith_type1 (thn (ha pos pins s σ H _ I h) fun us s1 ⟨vs, H1, I1, r1, q1⟩ => hc pins s1 σ H1 vs us Q I1 r1 q1) he hpl
end
end L2

namespace HT
open PySem PyProof.Rows

section
open PySem.SeqAt
open PySem.AutoSeq1 (wpAny_loadPart')
open PySem.MeetsSeq PySem.MeetsSeq2 PySem.MeetsSeq3

end

section
variable {prog : Program} {w : World} {A : Around} {E : Value → Shared → Prop} {s : Shared}

theorem cat_tup {t b : Addr} {vs ws : List Value} {Q : Value → Shared → Prop} (ht : IsTup s.heap t vs.toArray) (hb : IsTup s.heap b ws.toArray) (hv : vs ≠ [])
    (h1 : ws = [] → Q (.ref t) s) (h2 : ws ≠ [] → Q (.ref s.heap.objs.size) { s with heap := s.heap.push { cls := .type "tuple", data := .seq (vs ++ ws).toArray } })
    (hsz : vs.length + ws.length ≤ sizeLine) : wpAny (model prog w) A (binaryOp .Add (.ref t) (.ref b)) Q E s := by
  obtain ⟨⟨cls, dd, data, sl⟩, ho, hc, n, hd⟩ := id ht
  obtain ⟨⟨cls2, dd2, data2, sl2⟩, ho2, hc2, n2, hd2⟩ := id hb
  simp only at hc hd hc2 hd2
  subst hc hd hc2 hd2
  have e : vs.toArray ++ ws.toArray = (vs ++ ws).toArray := by simp
  by_cases hw : ws = []
  · exact concat_meets ⟨_, ho, rfl⟩ ⟨_, ho2, rfl⟩ noFill_tuple_add seq_tuple_add PySem.F.slot_tuple_add PySem.F.entry_tuple_add (PySem.F.args_tuple_add_2 _ _)
      (tuple_addW1 t b vs.toArray ws.toArray n n2 dd dd2 sl sl2 (by simpa using hv) (by simp [hw])) ⟨ho, ho2, h1 hw⟩
  · refine concat_meets ⟨_, ho, rfl⟩ ⟨_, ho2, rfl⟩ noFill_tuple_add seq_tuple_add PySem.F.slot_tuple_add PySem.F.entry_tuple_add (PySem.F.args_tuple_add_2 _ _)
      (tuple_addW2 t b vs.toArray ws.toArray n n2 dd dd2 sl sl2 (by simpa using hv) (by simpa using hw) (by rw [List.size_toArray, List.size_toArray]; exact hsz)) ⟨ho, ho2, ?_⟩
    rw [e]
    exact h2 hw

noncomputable def sIx (n d : Nat) : Option Int → Nat
  | none => d
  | some v => if v < 0 then (v + (n : Int)).toNat else min v.toNat n
theorem clip_eq (v : Int) (n d : Nat) : (if v < 0 then max (v + (n : Int)) 0 else min v (n : Int)) = ((sIx n d (some v) : Nat) : Int) := by
  show (if v < 0 then max (v + (n : Int)) 0 else min v (n : Int)) = (((if v < 0 then (v + (n : Int)).toNat else min v.toNat n) : Nat) : Int)
  by_cases hv : v < 0
  · simp only [if_pos hv]; omega
  · simp only [if_neg hv]; omega
theorem adjust_gen (lo hi : Option Int) (n : Nat) : Builtin.Slice.sliceAdjust lo hi 1 (n : Int) = (((sIx n 0 lo : Nat) : Int), ((sIx n n hi : Nat) : Int)) := by
  have h1 : ¬ ((1 : Int) < 0) := by omega
  unfold Builtin.Slice.sliceAdjust
  simp only [h1, if_false]
  refine Prod.ext ?_ ?_
  · cases lo with
    | none => rfl
    | some v => exact clip_eq v n 0
  · cases hi with
    | none => rfl
    | some v => exact clip_eq v n n
theorem places_gen (i j : Nat) : Builtin.Slice.slicePlaces (i : Int) (j : Int) 1 = j - i := by
  unfold Builtin.Slice.slicePlaces
  have h1 : (1 : Int) > 0 := by omega
  simp only [h1, if_true, Int.ediv_one]
  split <;> omega
theorem slicePart_ {v : Value} {o : Option Int} {Q : Option Int → Shared → Prop} (p : IsPart v o) (h : Q o s) : wpAny (model prog w) A (Builtin.Slice.slicePartIndex v) Q E s := by
  cases p with
  | none => exact slicePart_none h
  | int i t => exact slicePart_int h
theorem sliceApplied_gen {sl : Addr} {vl vu : Value} {lo hi : Option Int} {n : Nat} {Q : Int × Int × Nat → Shared → Prop} (hs : s.heap.IsSliceOf sl vl vu .none) (pl : IsPart vl lo) (pu : IsPart vu hi)
    (h : Q (((sIx n 0 lo : Nat) : Int), 1, sIx n n hi - sIx n 0 lo) s) : wpAny (model prog w) A (Builtin.Slice.sliceApplied (.ref sl) (pure (n : Int))) Q E s := by
  obtain ⟨os, hos, hcs, hds⟩ := id hs
  unfold Builtin.Slice.sliceApplied Builtin.Slice.sliceFields
  refine wpAny_bind (wpAny_bind (wpAny_field hos hds (x := vl) rfl (wpAny_bind (wpAny_field hos hds (x := vu) rfl (wpAny_bind (wpAny_field hos hds (x := .none) rfl (wpAny_pure ?_)))))))
  refine wpAny_bind (slicePart_none ?_)
  show wpAny _ _ (if ((1 : Int) == 0) = true then _ else _) _ _ s
  rw [if_neg (by decide)]
  refine wpAny_bind (slicePart_ pl (wpAny_bind (slicePart_ pu (wpAny_bind (wpAny_pure ?_)))))
  show wpAny _ _ (match Builtin.Slice.sliceAdjust lo hi 1 (n : Int) with | (lo, hi) => pure (lo, (1 : Int), Builtin.Slice.slicePlaces lo hi 1)) _ _ s
  rw [adjust_gen lo hi n]
  show wpAny _ _ (pure (((sIx n 0 lo : Nat) : Int), (1 : Int), Builtin.Slice.slicePlaces ((sIx n 0 lo : Nat) : Int) ((sIx n n hi : Nat) : Int) 1)) _ _ s
  rw [places_gen]
  exact wpAny_pure h
end
end HT

namespace L2
open PySem PySem.Spec PyProof.Rows

noncomputable abbrev TO := St → Hp → (Option Int → Hp → Prop) → Prop
noncomputable def PO (X : Cx) (e : Option Expr) (t : TO) : Prop :=
  ∀ (pins : List (Addr × Obj)) (s : Shared) (σ : St) (H : Hp) (Q : Option Int → Hp → Prop), Inv X pins σ H s → t σ H Q →
    wpAny (model X.prog X.w) X.A (evalPart e X.env) (fun u s' => ∃ o H', Inv X pins σ H' s' ∧ IsPart u o ∧ Q o H') X.xe s
noncomputable def tNoPart : TO := fun _ H Q => Q none H
noncomputable def tPart (t : TE) : TO := fun σ H Q => t σ H fun x H1 => ∃ i, x = .int i ∧ Q (some i) H1

theorem intsAre_of {ns : List Int} : ∀ {us : List Value}, Vals (ns.map V.int) us → IntsAre us ns := by
  induction ns with
  | nil => intro us r; rw [List.map_nil] at r; cases r; exact .nil
  | cons n ns ih =>
    intro us r
    rw [List.map_cons] at r
    cases r with
    | cons r1 r2 =>
      obtain ⟨t, e⟩ := r1
      subst e
      exact .cons n t (ih r2)

section
variable {X : Cx} {e : Expr} {te : TE} {lo hi : Option Expr} {tl th : TO} {pos p2 : Pos}

theorem po_none : PO X none tNoPart := by
  intro pins s σ H Q I h
  rw [evalPart_none]
  exact wpAny_pure ⟨none, H, I, .none, h⟩
theorem po_some (h : PE X e te) : PO X (some e) (tPart te) := by
  intro pins s σ H Q I hw
  rw [evalPart_some]
  refine thn (h pins s σ H _ I hw) fun u s1 ⟨x, H1, I1, r1, q1⟩ => ?_
  obtain ⟨i, rfl, q⟩ := q1
  obtain ⟨t, rfl⟩ := r1
  exact ⟨some i, H1, I1, .int i t, q⟩

noncomputable def SlR (X : Cx) (r : V → Option Int → Option Int → Hp → VK → Prop) : Prop :=
  ∀ (pins : List (Addr × Obj)) (s : Shared) (σ : St) (H : Hp) (x : V) (v vl vu : Value) (lo hi : Option Int) (sl : Addr) (Q : VK), Inv X pins σ H s → RelV x v → s.heap.IsSliceOf sl vl vu .none → IsPart vl lo → IsPart vu hi → r x lo hi H Q →
    ∃ T id, typeLookup (.type T) "__getitem__" = pure (some (.builtin id)) ∧ s.TypeIs v T ∧ wpAny (model X.prog X.w) X.A (getItem v (.ref sl)) (EP X pins σ Q) X.xe s
theorem SlR.or {r r' : V → Option Int → Option Int → Hp → VK → Prop} (h : SlR X r) (h' : SlR X r') : SlR X (fun x lo hi H Q => r x lo hi H Q ∨ r' x lo hi H Q) := by
  intro pins s σ H x v vl vu lo hi sl Q I rx hs pl pu q
  rcases q with q | q
  · exact h pins s σ H x v vl vu lo hi sl Q I rx hs pl pu q
  · exact h' pins s σ H x v vl vu lo hi sl Q I rx hs pl pu q
noncomputable def tSl (r : V → Option Int → Option Int → Hp → VK → Prop) (te : TE) (tl th : TO) : TE := fun σ H Q => te σ H fun x H1 => tl σ H1 fun l H2 => th σ H2 fun u H3 => r x l u H3 Q
theorem pe_slice {r : V → Option Int → Option Int → Hp → VK → Prop} (hr : SlR X r) (he : PE X e te) (hl : PO X lo tl) (hu : PO X hi th) : PE X (.Subscript e (.Slice lo hi none p2) pos) (tSl r te tl th) := by
  intro pins s σ H Q I h
  refine Subscript_ (thn (he pins s σ H _ I h) fun v s1 ⟨x, H1, I1, r1, q1⟩ => ?_)
  refine wpAny_Slice (thn (hl pins s1 σ H1 _ I1 q1) fun vl s2 ⟨l, H2, I2, pl, q2⟩ => thn (hu pins s2 σ H2 _ I2 q2) fun vu s3 ⟨u, H3, I3, pu, q3⟩ => ?_)
  rw [evalPart_none]
  refine wpAny_pure ?_
  have I4 : Inv X pins σ H3 { s3 with heap := s3.heap.push { cls := .type "slice", data := .fields #[vl, vu, .none] } } := I3.kept (t' := s3.toks) fun b ob q => Heap.get?_push_of_some _ q
  obtain ⟨T, id, hT, ht, hg⟩ := hr pins { s3 with heap := s3.heap.push { cls := .type "slice", data := .fields #[vl, vu, .none] } } σ H3 x v vl vu l u s3.heap.objs.size Q I4 r1 (Heap.IsSliceOf.new ..) pl pu q3
  show wpAny (model X.prog X.w) X.A (subscriptTail e (.Slice lo hi none p2) v (.ref s3.heap.objs.size)) (EP X pins σ Q) X.xe { s3 with heap := s3.heap.push { cls := .type "slice", data := .fields #[vl, vu, .none] } }
  exact tail_any (ops := [.ref s3.heap.objs.size, v]) ht hT hg (by with_unfolding_all rfl)

noncomputable def cutV (xs : List V) (lo hi : Option Int) : List V := (xs.drop (HT.sIx xs.length 0 lo)).take (HT.sIx xs.length xs.length hi - HT.sIx xs.length 0 lo)
theorem cutV_length (xs : List V) (lo hi : Option Int) : (cutV xs lo hi).length ≤ xs.length := by
  unfold cutV
  rw [List.length_take, List.length_drop]
  omega
noncomputable def rCatT (K : PySem.W.Frag) : R2 := fun x y H Q => ∃ a b xs ys, x = .ref a ∧ y = .ref b ∧ SqT K H a xs ∧ SqT K H b ys ∧ xs ≠ [] ∧ xs.length + ys.length ≤ sizeLine ∧
  (ys = [] → Q (.ref a) H) ∧ (ys ≠ [] → ∀ p, H p = none → Q (.ref p) (upd H p (.tup (xs ++ ys))))
theorem Vals.nil_iff {xs : List V} {us : List Value} (r : Vals xs us) : us = [] ↔ xs = [] := by
  cases r with
  | nil => simp
  | cons _ _ => simp
theorem op_catT : OpR X (binaryOp .Add) (rCatT X.K) := by
  intro pins s σ H x y v u Q I rx ry h
  obtain ⟨a, b, xs, ys, rfl, rfl, ha, hb, hx, hz, q1, q2⟩ := h
  cases rx
  cases ry
  obtain ⟨its, r1, p1, _⟩ := I.tuple ha
  obtain ⟨its2, r2, p2, _⟩ := I.tuple hb
  refine HT.cat_tup p1 p2 (fun z => hx (r1.nil_iff.mp z)) (fun z => ⟨.ref a, H, I, rfl, q1 (r2.nil_iff.mp z)⟩) (fun z => ?_) (by rw [← r1.length, ← r2.length]; exact hz)
  refine ⟨.ref s.heap.objs.size, _, I.laid (t' := s.toks) (o := .tup (xs ++ ys)) (fun b ob q => Heap.get?_push_of_some _ q) (Nat.le_refl _) ?_, rfl, q2 (fun w => z (r2.nil_iff.mpr w)) _ (I.hok.fresh (Nat.le_refl _))⟩
  exact ⟨by rw [List.length_append]; exact hz, _, r1.append r2, IsTupD.new _ _⟩
end
end L2

namespace L2
open PySem PySem.Spec PyProof.Rows

noncomputable def ixN (n : Nat) (i : Int) : Option Nat := if 0 ≤ i then (if i < n then some i.toNat else none) else if -(n : Int) ≤ i then some (i + n).toNat else none
noncomputable def atI {α : Type} (xs : List α) (i : Int) : Option α := (ixN xs.length i).bind fun j => xs[j]?
theorem ixN_seq {n : Nat} {i : Int} {j : Nat} (h : ixN n i = some j) : seqIndex? i n = some j ∧ j < n ∧ -(n : Int) ≤ i ∧ i < n := by
  unfold ixN at h
  by_cases h0 : 0 ≤ i
  · rw [if_pos h0] at h
    by_cases h1 : i < n
    · rw [if_pos h1] at h
      have e : i.toNat = j := Option.some.inj h
      exact ⟨by rw [seqIndex_of h0 h1, e], by omega, by omega, h1⟩
    · rw [if_neg h1] at h; cases h
  · rw [if_neg h0] at h
    by_cases h1 : -(n : Int) ≤ i
    · rw [if_pos h1] at h
      have e : (i + n).toNat = j := Option.some.inj h
      exact ⟨by rw [seqIndex_neg (by omega) h1, e], by omega, h1, by omega⟩
    · rw [if_neg h1] at h; cases h
theorem atI_get {α : Type} {xs : List α} {i : Int} {v : α} (h : atI xs i = some v) : ∃ j, seqIndex? i xs.length = some j ∧ xs[j]? = some v ∧ j < xs.length ∧ -(xs.length : Int) ≤ i ∧ i < xs.length := by
  unfold atI at h
  cases e : ixN xs.length i with
  | none => rw [e] at h; cases h
  | some j =>
    rw [e] at h
    obtain ⟨h1, h2, h3, h4⟩ := ixN_seq e
    exact ⟨j, h1, h, h2, h3, h4⟩
noncomputable def PlainIx (b : Expr) : Prop := ∀ o i, subscripted b false o i = operate [o, i] (getItem o i)
noncomputable def IxR (X : Cx) (r : R2) : Prop :=
  ∀ (value slice : Expr) (pins : List (Addr × Obj)) (s : Shared) (σ : St) (H : Hp) (x y : V) (v u : Value) (Q : VK), Inv X pins σ H s → RelV x v → RelV y u → r x y H Q →
    subscripted slice false v u = operate [v, u] (getItem v u) → wpAny (model X.prog X.w) X.A (subscriptTail value slice v u) (EP X pins σ Q) X.xe s
noncomputable def MtR (X : Cx) (id : String) (r : V → List V → Hp → VK → Prop) : Prop :=
  ∀ (pins : List (Addr × Obj)) (s : Shared) (σ : St) (H : Hp) (x : V) (xs : List V) (v : Value) (us : List Value) (Q : VK), Inv X pins σ H s → RelV x v → Vals xs us → r x xs H Q →
    wpAny (model X.prog X.w) X.A (call (.builtin id) (v :: us)) (EP X pins σ Q) X.xe s
section
variable {X : Cx} {a b : Expr} {ta tb : TE} {pos : Pos}
theorem IxR.or {r r' : R2} (h : IxR X r) (h' : IxR X r') : IxR X (fun x y H Q => r x y H Q ∨ r' x y H Q) := by
  intro value slice pins s σ H x y v u Q I rx ry q hs
  rcases q with q | q
  · exact h value slice pins s σ H x y v u Q I rx ry q hs
  · exact h' value slice pins s σ H x y v u Q I rx ry q hs
theorem MtR.or {id : String} {r r' : V → List V → Hp → VK → Prop} (h : MtR X id r) (h' : MtR X id r') : MtR X id (fun x xs H Q => r x xs H Q ∨ r' x xs H Q) := by
  intro pins s σ H x xs v us Q I rx rs q
  rcases q with q | q
  · exact h pins s σ H x xs v us Q I rx rs q
  · exact h' pins s σ H x xs v us Q I rx rs q
theorem pe_ix {r : R2} (hr : IxR X r) (ha : PE X a ta) (hb : PE X b tb) (hs : PlainIx b) : PE X (.Subscript a b pos) (tOp r ta tb) := by
  intro pins s σ H Q I h
  exact Subscript_ (binT ha hb I h fun v u s2 x y H2 I2 rx ry q => hr a b pins s2 σ H2 x y v u Q I2 rx ry q (hs _ _))

noncomputable def rIxL (K : PySem.W.Frag) : R2 := fun x y H Q => ∃ p xs i v, x = .ref p ∧ y = .int i ∧ SqL K H p xs ∧ atI xs i = some v ∧ Q v H
noncomputable def rIxT (K : PySem.W.Frag) : R2 := fun x y H Q => ∃ p xs i v, x = .ref p ∧ y = .int i ∧ SqT K H p xs ∧ atI xs i = some v ∧ Q v H
noncomputable def rIxS : R2 := fun x y H Q => ∃ z i c, x = .str z ∧ y = .int i ∧ z.length ≤ sizeLine ∧ atI z.cps.toList i = some c ∧ Q (.str ⟨#[c]⟩) H
theorem ix_list : IxR X (rIxL X.K) := by
  intro value slice pins s σ H x y v u Q I rx ry h hs
  obtain ⟨p, xs, i, z, rfl, rfl, hq, he, q⟩ := h
  cases rx
  obtain ⟨t, rfl⟩ := ry
  obtain ⟨its, r, pl, hz⟩ := I.list hq
  obtain ⟨j, h1, h2, h3, h4, h5⟩ := atI_get he
  obtain ⟨w, ew, rw'⟩ := r.get h2
  have hl := r.length
  have hn := line63
  have fin : EP X pins σ Q w s := ⟨z, H, I, rw', q⟩
  by_cases h0 : 0 ≤ i
  · have hj : i.toNat = j := by
      rw [seqIndex_of h0 h5] at h1
      exact Option.some.inj h1
    exact item_listR pl.isList h0 (by omega) (by rw [hj]; simpa using ew) fin hs
  · have hj : (i + (its.toArray.size : Int)).toNat = j := by
      rw [seqIndex_neg (by omega) h4] at h1
      rw [List.size_toArray, ← hl]
      exact Option.some.inj h1
    exact subscriptTail_builtinR (x := w) pl.isList.typeIs slot_list_getitem.lookup
      (wpAny_getItem_list_neg (Q := fun r s' => r = w ∧ EP X pins σ Q r s') pl.isList (by omega) (by rw [List.size_toArray] <;> omega) (by omega) (by rw [hj]; simpa using ew) ⟨rfl, fin⟩) hs
theorem ix_tup : IxR X (rIxT X.K) := by
  intro value slice pins s σ H x y v u Q I rx ry h hs
  obtain ⟨p, xs, i, z, rfl, rfl, hq, he, q⟩ := h
  cases rx
  obtain ⟨t, rfl⟩ := ry
  obtain ⟨its, r, pl, hz⟩ := I.tuple hq
  obtain ⟨j, h1, h2, h3, h4, h5⟩ := atI_get he
  obtain ⟨w, ew, rw'⟩ := r.get h2
  have hl := r.length
  have hn := line63
  have fin : EP X pins σ Q w s := ⟨z, H, I, rw', q⟩
  exact subscriptTail_builtinR (x := w) pl.typeIs slot_tuple_getitem.lookup
    (getItem_tuple (j := j) (Q := fun r s' => r = w ∧ EP X pins σ Q r s') pl (by omega) (by omega) (by rw [List.size_toArray, ← hl]; exact h1) (by simpa using ew) ⟨rfl, fin⟩) hs
theorem ix_str : IxR X rIxS := by
  intro value slice pins s σ H x y v u Q I rx ry h hs
  obtain ⟨z, i, c, rfl, rfl, hz, he, q⟩ := h
  obtain ⟨t, rfl⟩ := rx
  obtain ⟨t', rfl⟩ := ry
  obtain ⟨j, h1, h2, h3, h4, h5⟩ := atI_get he
  have hl : z.cps.toList.length = z.length := by simp [Str.length]
  rw [hl] at h1 h4 h5
  have hn := line63
  exact tail_any (typeIs_str s z t) slot_str_getitem.lookup (getItem_str (c := c) (by
    have e1 : decide (i < -(2 ^ 63 : Int)) = false := decide_eq_false (by omega)
    have e2 : decide (i ≥ 2 ^ 63) = false := decide_eq_false (by omega)
    rw [e1, e2, Bool.or_false]) (by rw [h1]; simpa using h2) ⟨.str ⟨#[c]⟩, H, I.tok _, ⟨_, rfl⟩, q⟩) hs
noncomputable def rIx (K : PySem.W.Frag) : R2 := fun x y H Q => rIxL K x y H Q ∨ rIxT K x y H Q ∨ rIxS x y H Q
theorem ix_seq : IxR X (rIx X.K) := ix_list.or (ix_tup.or ix_str)

theorem mapSeq_set (its : List Value) (n j : Nat) (u : Value) : Obj.mapSeq (·.setIfInBounds j u) { cls := .type "list", data := .seq its.toArray n } = { cls := .type "list", data := .seq (its.set j u).toArray n } := by
  simp [Obj.mapSeq]
theorem Inv.lst {pins : List (Addr × Obj)} {σ : St} {H : Hp} {s : Shared} {p : Addr} {xs : List V} (I : Inv X pins σ H s) (h : H p = some (.lst xs)) :
    ∃ (its : List Value) (n : Nat), Vals xs its ∧ s.heap.get? p = some { cls := .type "list", data := .seq its.toArray n } ∧ xs.length ≤ sizeLine := by
  obtain ⟨z, its, n, r, e⟩ := I.hok p _ h
  exact ⟨its, n, r, e, z⟩
theorem Inv.lstUpd {pins : List (Addr × Obj)} {σ : St} {H : Hp} {s : Shared} {p : Addr} {xs ys : List V} {its its' : List Value} {n n' : Nat} {f : Obj → Obj} (I : Inv X pins σ H s) (h : H p = some (.lst xs))
    (ho : s.heap.get? p = some { cls := .type "list", data := .seq its.toArray n }) (hf : f { cls := .type "list", data := .seq its.toArray n } = { cls := .type "list", data := .seq its'.toArray n' }) (r : Vals ys its') (hz : ys.length ≤ sizeLine) (t : Nat) :
    Inv X pins σ (upd H p (.lst ys)) { s with heap := s.heap.update p f, toks := t } := by
  have e : (s.heap.update p f).get? p = some { cls := .type "list", data := .seq its'.toArray n' } := by
    rw [Heap.get?_update_self f ho (by rw [hf] <;> rfl), hf]
  refine I.write (x := p) (e := p) (by rw [h]; trivial) (.inl rfl) (fun b u hb q => (Heap.get?_update_other _ _ (Ne.symm hb)).trans q) ⟨_, e⟩ ?_
  exact ⟨hz, its', n', r, e⟩
noncomputable def rSetL : V → V → V → Hp → (Hp → Prop) → Prop := fun o i v H Q => ∃ p xs k j, o = .ref p ∧ i = .int k ∧ H p = some (.lst xs) ∧ ixN xs.length k = some j ∧ Q (upd H p (.lst (xs.set j v)))
theorem set_list : PSet X rSetL := by
  intro pins s σ H o i v ov iv u Q I ro ri rv h
  obtain ⟨p, xs, k, j, rfl, rfl, hp, hj, q⟩ := h
  cases ro
  obtain ⟨t, rfl⟩ := ri
  obtain ⟨its, n, r, ho, hz⟩ := I.lst hp
  obtain ⟨h1, h2, h3, h4⟩ := ixN_seq hj
  have hl := r.length
  have hn := line63
  have I' : Inv X pins σ (upd H p (.lst (xs.set j v))) { s with heap := s.heap.update p (Obj.mapSeq (·.setIfInBounds j u)) } :=
    I.lstUpd hp ho (mapSeq_set its n j u) (r.set rv j) (by rw [List.length_set]; exact hz) s.toks
  by_cases h0 : 0 ≤ k
  · have hk : k.toNat = j := by
      rw [seqIndex_of h0 h4] at h1
      exact Option.some.inj h1
    exact PySem.W.ki_setAt ho h0 (by omega) (by rw [List.size_toArray, ← hl]; exact h4) (by rw [hk]; exact ⟨_, I', q⟩)
  · have hk : (k + (its.toArray.size : Int)).toNat = j := by
      rw [seqIndex_neg (by omega) h3] at h1
      rw [List.size_toArray, ← hl]
      exact Option.some.inj h1
    exact PySem.W.ki_setBack ho (by omega) (by rw [List.size_toArray, ← hl]; exact h3) (by omega) (by rw [hk]; exact ⟨_, I', q⟩)

theorem slice_bounds (lo hi : Option Int) (n : Nat) : (sliceBounds lo hi none n).1 = ((HT.sIx n 0 lo : Nat) : Int) ∧ (sliceBounds lo hi none n).2.1 = ((HT.sIx n n hi : Nat) : Int) ∧ (sliceBounds lo hi none n).2.2 = 1 := by
  refine ⟨?_, ?_, rfl⟩
  · cases lo with
    | none => simp [sliceBounds, HT.sIx]
    | some i =>
      simp only [sliceBounds, HT.sIx, Option.getD_none, show (1 : Int) > 0 by decide, if_true]
      by_cases h : i < 0
      · simp only [h, if_true] <;> omega
      · simp only [h, if_false] <;> omega
  · cases hi with
    | none => simp [sliceBounds, HT.sIx]
    | some i =>
      simp only [sliceBounds, HT.sIx, Option.getD_none, show (1 : Int) > 0 by decide, if_true]
      by_cases h : i < 0
      · simp only [h, if_true] <;> omega
      · simp only [h, if_false] <;> omega
theorem slicePick_cut (its : List Value) (lo hi : Option Int) : slicePick its.toArray lo hi none = ((its.drop (HT.sIx its.length 0 lo)).take (HT.sIx its.length its.length hi - HT.sIx its.length 0 lo)).toArray := by
  obtain ⟨h1, h2, h3⟩ := slice_bounds lo hi its.toArray.size
  unfold slicePick
  rw [h1, h2, h3]
  simp only [sliceRange_one, pick_run, List.size_toArray] <;> rfl
noncomputable def rSlL (K : PySem.W.Frag) : V → Option Int → Option Int → Hp → VK → Prop := fun x lo hi H Q => ∃ a xs, x = .ref a ∧ SqL K H a xs ∧ ∀ p, H p = none → Q (.ref p) (upd H p (.lst (cutV xs lo hi)))
theorem sl_list : SlR X (rSlL X.K) := by
  intro pins s σ H x v vl vu lo hi sl Q I rx hs pl pu h
  obtain ⟨a, xs, rfl, hx, q⟩ := h
  cases rx
  obtain ⟨its, r, ht, hz⟩ := I.list hx
  have hlen := r.length
  refine ⟨"list", _, slot_list_getitem.lookup, ht.isList.typeIs, ?_⟩
  refine wpAny_getItem_list_slice ht.isList hs pl pu .none (by simp) ?_ (by rw [List.size_toArray] <;> omega)
  rw [slicePick_cut, ← hlen]
  refine ⟨.ref s.heap.objs.size, _, I.laid (t' := s.toks) (o := .lst (cutV xs lo hi)) (fun b ob q => Heap.get?_push_of_some _ q) (Nat.le_refl _) ?_, rfl, q _ (I.hok.fresh (Nat.le_refl _))⟩
  exact ⟨Nat.le_trans (cutV_length xs lo hi) hz, _, 0, (r.drop (HT.sIx xs.length 0 lo)).take (HT.sIx xs.length xs.length hi - HT.sIx xs.length 0 lo), Heap.get?_push_size _ rfl⟩

theorem call_len_seq : CallR X (.builtin "len") (fun xs H Q => ∃ p ys, xs = [.ref p] ∧ (SqL X.K H p ys ∨ SqT X.K H p ys) ∧ Q (.int ys.length) H) := by
  intro pins s σ H xs us Q I r h
  obtain ⟨p, ys, rfl, hq, q⟩ := h
  obtain ⟨u, rfl, rx⟩ := vals1 r
  cases rx
  have hn := line63
  rcases hq with hq | hq
  · obtain ⟨its, r', pl, hz⟩ := I.list hq
    have hlen := r'.length
    exact Calls.call_len_list pl.isList (by simp only [List.size_toArray] <;> omega) ⟨.int ys.length, H, I.tok _, ⟨s.toks + 1, by rw [List.size_toArray, hlen]⟩, q⟩
  · obtain ⟨its, r', pl, hz⟩ := I.tuple hq
    have hlen := r'.length
    exact len_tuple pl (by simp only [List.size_toArray] <;> omega) ⟨.int ys.length, H, I.tok _, ⟨s.toks + 1, by rw [List.size_toArray, hlen]⟩, q⟩
theorem call_len_str : CallR X (.builtin "len") (fun xs H Q => ∃ z, xs = [.str z] ∧ z.length ≤ sizeLine ∧ Q (.int z.length) H) := by
  intro pins s σ H xs us Q I r h
  obtain ⟨z, rfl, hz, q⟩ := h
  obtain ⟨u, rfl, t, rfl⟩ := vals1 r
  have hn := line63
  exact len_str (by omega) ⟨.int z.length, H, I.tok _, ⟨_, rfl⟩, q⟩
theorem CallR.or {f : Value} {r r' : List V → Hp → VK → Prop} (h : CallR X f r) (h' : CallR X f r') : CallR X f (fun xs H Q => r xs H Q ∨ r' xs H Q) := by
  intro pins s σ H xs us Q I rs q
  rcases q with q | q
  · exact h pins s σ H xs us Q I rs q
  · exact h' pins s σ H xs us Q I rs q
theorem call_tuple_of : CallR X (.type "tuple") (fun xs H Q => ∃ p ys, xs = [.ref p] ∧ ((SqL X.K H p ys ∧ ∀ l, H l = none → Q (.ref l) (upd H l (.tup ys))) ∨ (SqT X.K H p ys ∧ Q (.ref p) H))) := by
  intro pins s σ H xs us Q I r h
  obtain ⟨p, ys, rfl, h⟩ := h
  obtain ⟨u, rfl, rx⟩ := vals1 r
  cases rx
  rcases h with ⟨hq, q⟩ | ⟨hq, q⟩
  · obtain ⟨its, r', pl, hz⟩ := I.list hq
    have hlen := r'.length
    refine call_tuple_list pl.isList (fun h' kp => ?_) (by simp only [List.size_toArray] <;> omega)
    have I1 : Inv X pins σ H { s with heap := h' } := I.kept (t' := s.toks) kp
    have I2 : Inv X pins σ (upd H h'.objs.size (.tup ys)) { s with heap := h'.push { cls := .type "tuple", data := .seq its.toArray } } :=
      I1.laid (t' := s.toks) (fun b o e => Heap.get?_push_of_some _ e) (Nat.le_refl _) (show ObjOk X.prog X.w _ _ _ (.tup ys) from ⟨hz, its, r', IsTupD.new _ _⟩)
    exact ⟨.ref h'.objs.size, _, I2, rfl, q _ (I1.hok.fresh (Nat.le_refl _))⟩
  · obtain ⟨its, r', pl, hz⟩ := I.tuple hq
    exact call_tuple_same pl ⟨.ref p, H, I, rfl, q⟩

noncomputable def tyV (K : PySem.W.Frag) (T : String) (x : V) (H : Hp) : Prop := match x with
  | .str _ => T = "str"
  | .int _ => T = "int"
  | .ref p => (T = "list" ∧ ∃ xs, SqL K H p xs) ∨ (T = "tuple" ∧ ∃ o, K.lookup p = some o ∧ o.cls = .type "tuple" ∧ o.dict = none) ∨
      (T = "dict" ∧ ((∃ kvs, H p = some (.dK kvs)) ∨ ∃ kvs, H p = some (.dT kvs))) ∨ (T = "set" ∧ ∃ S n, H p = some (.set S n))
  | _ => False
theorem tyV_is {pins : List (Addr × Obj)} {σ : St} {H : Hp} {s : Shared} {T : String} {x : V} {v : Value} (I : Inv X pins σ H s) (r : RelV x v) (ty : tyV X.K T x H) :
    s.TypeIs v T ∧ ∀ a, v = .ref a → ∃ ob, s.heap.get? a = some ob ∧ ob.dict = none := by
  cases x with
  | str z =>
    obtain ⟨t, rfl⟩ := r
    cases (show T = "str" from ty)
    exact ⟨typeIs_str s z t, fun _ e => nomatch e⟩
  | int i =>
    obtain ⟨t, rfl⟩ := r
    cases (show T = "int" from ty)
    exact ⟨typeIs_int s i t, fun _ e => nomatch e⟩
  | ref p =>
    cases r
    rcases ty with ⟨rfl, xs, hq⟩ | ⟨rfl, o, hk, hc, hd⟩ | ⟨rfl, hk⟩ | ⟨rfl, S, n, hk⟩
    · obtain ⟨its, _, pl, _⟩ := I.list hq
      refine ⟨pl.isList.typeIs, fun a e => ?_⟩
      cases e
      obtain ⟨o, n, e, c, hd, _⟩ := pl
      exact ⟨o, e, hd⟩
    · refine ⟨⟨o, I.kIn p o hk, hc⟩, fun a e => ?_⟩
      cases e
      exact ⟨o, I.kIn _ o hk, hd⟩
    · have z : ∃ o, s.heap.get? p = some o ∧ o.ExactDict := by
        rcases hk with ⟨kvs, hk⟩ | ⟨kvs, hk⟩
        · obtain ⟨_, _, _, _, o, _, _, e, ex, _⟩ := I.hok p _ hk
          exact ⟨o, e, ex⟩
        · obtain ⟨_, _, _, _, o, _, _, e, ex, _⟩ := I.hok p _ hk
          exact ⟨o, e, ex⟩
      obtain ⟨o, e, ex⟩ := z
      refine ⟨⟨o, e, ex.1⟩, fun a e2 => ?_⟩
      cases e2
      exact ⟨o, e, ex.2.1⟩
    · obtain ⟨o, _, _, _, e, ex, _⟩ := I.hok p _ hk
      refine ⟨⟨o, e, ex.1⟩, fun a e2 => ?_⟩
      cases e2
      exact ⟨o, e, ex.2.1⟩
  | _ => exact False.elim ty
noncomputable def tBM (K : PySem.W.Frag) (T : String) (r : V → List V → Hp → VK → Prop) (to : TE) (t : TA) : TE := fun σ H Q => to σ H fun x H1 => tyV K T x H1 ∧ t σ H1 fun xs H2 => r x xs H2 Q
variable {o e : Expr} {es : List Expr} {to : TE} {t : TA} {name : Str} {apos cpos : Pos} {T id : String} {r : V → List V → Hp → VK → Prop}
theorem pe_bm (pa : PlainAttrs T) (slot : Slot T name id) (hty : typeOf (.builtin id) = pure (.type "method_descriptor")) (hm : MtR X id r) (ho : PE X o to) (ha : PA X (e :: es) t)
    (hbase : attributeBase o name X.env (eval o X.env) = eval o X.env := by rfl)
    (hfew : ((backTo cpos (starEach (e :: es) X.env)).all (fun x => !x.1) && (backToKw cpos (keywordEach [] X.env)).all (fun x => x.1.isSome)
      && decide ((e :: es).length + ([] : List Keyword).length + (if ([] : List Keyword).isEmpty then 0 else 1) < 30)) = true := by rfl)
    (hline : (apos.endLine == cpos.line) = true := by rfl) (hs : starEach (e :: es) X.env = (false, eval e X.env) :: starEach es X.env := by rfl) (hplain : (backTo cpos (starEach es X.env)).any (·.1) = false := by rfl) :
    PE X (.Call (.Attribute o name apos) (e :: es) [] cpos) (tBM X.K T r to t) := by
  intro pins s σ H Q I h
  refine wpAny_Call_method_late hbase hfew hline rfl (thn (ho pins s σ H _ I h) fun v s1 ⟨x, H1, I1, r1, ty, q1⟩ => ?_)
  obtain ⟨h1, h2⟩ := tyV_is I1 r1 ty
  refine ⟨T, id, pa, slot, hty, h1, h2, ?_⟩
  have hA := ha cpos pins s1 σ H1 _ I1 q1
  rw [hs] at hA ⊢
  refine Calls.callWith_builtin (by show (false || (backTo cpos (starEach es X.env)).any (·.1)) = false; rw [hplain] <;> rfl) (Calls.evalArgs_plain ?_)
  exact thn hA fun us s2 ⟨vs, H2, I2, r2, q2⟩ => hm pins s2 σ H2 x vs v us Q I2 r1 r2 q2
end
end L2

namespace L2
open PySem PySem.Spec PyProof.Rows

noncomputable def MtM (X : Cx) (id : String) (r : V → List V → Hp → VK → Prop) : Prop :=
  ∀ (pins : List (Addr × Obj)) (s : Shared) (σ : St) (H : Hp) (x : V) (xs : List V) (v : Value) (us : List Value) (Q : VK), Inv X pins σ H s → RelV x v → Vals xs us → r x xs H Q →
    wpAny (model X.prog X.w) X.A (call (.builtin id) (v :: us)) (EP X pins σ Q) X.xe s

theorem Vals.one : ∀ {x : V} {us : List Value}, Vals [x] us → ∃ u, us = [u] ∧ RelV x u
  | _, _, .cons r .nil => ⟨_, rfl, r⟩
theorem Vals.two : ∀ {x y : V} {us : List Value}, Vals [x, y] us → ∃ u v, us = [u, v] ∧ RelV x u ∧ RelV y v
  | _, _, _, .cons r (.cons q .nil) => ⟨_, _, rfl, r, q⟩
theorem Vals.zero : ∀ {us : List Value}, Vals [] us → us = []
  | _, .nil => rfl
theorem Vals.reverse {xs : List V} {us : List Value} (h : Vals xs us) : Vals xs.reverse us.reverse := by
  induction h with
  | nil => exact .nil
  | cons r t ih => rw [List.reverse_cons, List.reverse_cons]; exact Vals.append ih (.cons r .nil)
section
variable {X : Cx} {pins : List (Addr × Obj)} {σ : St} {H : Hp} {s : Shared} {l b : Addr} {xs ys zs : List V}

theorem Inv.lset {its its' : List Value} {n : Nat} {f : Array Value → Array Value} {t' : Nat} (I : Inv X pins σ H s) (hH : H l = some (.lst xs))
    (e : s.heap.get? l = some { cls := .type "list", data := .seq its.toArray n }) (hf : f its.toArray = its'.toArray) (hv : Vals ys its') (hz : ys.length ≤ sizeLine) :
    Inv X pins σ (upd H l (.lst ys)) { s with heap := s.heap.update l (Obj.mapSeq f), toks := t' } := by
  have q := PySem.IsL.update e f
  rw [hf] at q
  refine I.write (x := l) (e := l) (by rw [hH]; exact trivial) (.inl rfl) (fun b' u hb hu => (Heap.get?_update_other s.heap (Obj.mapSeq f) (Ne.symm hb)).trans hu) ⟨_, q⟩ ?_
  exact ⟨hz, its', _, hv, q⟩
theorem Inv.lnew {its : List Value} {t' : Nat} (I : Inv X pins σ H s) (hv : Vals ys its) (hz : ys.length ≤ sizeLine) :
    Inv X pins σ (upd H s.heap.objs.size (.lst ys)) { s with heap := s.heap.push { cls := .type "list", data := .seq its.toArray }, toks := t' } :=
  I.laid (fun _ _ q => Heap.get?_push_of_some _ q) (Nat.le_refl _) ⟨hz, its, 0, hv, Heap.get?_push_size _ rfl⟩
theorem Inv.fresh (I : Inv X pins σ H s) : H s.heap.objs.size = none := I.hok.fresh (Nat.le_refl _)
theorem Inv.lstM (I : Inv X pins σ H s) (hH : H l = some (.lst xs)) : xs.length ≤ sizeLine ∧ ∃ (its : List Value) (n : Nat), Vals xs its ∧ xs.length = its.length ∧ s.heap.get? l = some { cls := .type "list", data := .seq its.toArray n } := by
  obtain ⟨z, its, n, r, e⟩ := I.hok l _ hH
  exact ⟨z, its, n, r, r.length, e⟩

end

section
variable {X : Cx}

noncomputable def rAppend : V → List V → Hp → VK → Prop := fun x vs H Q => ∃ l xs y, x = .ref l ∧ vs = [y] ∧ H l = some (.lst xs) ∧ xs.length < sizeLine ∧ Q .non (upd H l (.lst (xs ++ [y])))
theorem mt_append : MtM X "list.append" rAppend := by
  intro pins s σ H x vs v us Q I rx rv h
  obtain ⟨l, xs, y, rfl, rfl, hH, hz, q⟩ := h
  cases rx
  obtain ⟨u, rfl, ru⟩ := rv.one
  obtain ⟨z, its, n, r, hl, e⟩ := I.lstM hH
  refine call_meets F.slot_list_append ⟨_, e, rfl⟩ F.entry_list_append (F.args_list_append_2 _ _) (PySem.list_append l its.toArray n u (by rw [List.size_toArray]; omega)) ⟨e, ?_⟩
  refine ⟨.non, _, I.lset (its' := its ++ [u]) hH e (by simp) (r.append (.cons ru .nil)) ?_, rfl, q⟩
  rw [List.length_append, List.length_singleton]
  omega

noncomputable def rCat : R2 := fun x y H Q => ∃ l b xs zs, x = .ref l ∧ y = .ref b ∧ H l = some (.lst xs) ∧ H b = some (.lst zs) ∧ xs.length + zs.length ≤ sizeLine ∧ ∀ p, H p = none → Q (.ref p) (upd H p (.lst (xs ++ zs)))
theorem op_cat : OpR X (binaryOp .Add) rCat := by
  intro pins s σ H x y v u Q I rx ry h
  obtain ⟨l, b, xs, zs, rfl, rfl, hH, hB, hz, q⟩ := h
  cases rx
  cases ry
  obtain ⟨z, its, n, r, hl, e⟩ := I.lstM hH
  obtain ⟨z2, its2, n2, r2, hl2, e2⟩ := I.lstM hB
  refine PySem.P.add_list e e2 ?_ (by rw [List.size_toArray, List.size_toArray]; omega)
  have ea : its.toArray ++ its2.toArray = (its ++ its2).toArray := by simp
  rw [ea]
  exact ⟨.ref _, _, I.lnew (t' := s.toks) (r.append r2) (by rw [List.length_append]; omega), rfl, q _ I.fresh⟩
end

section
variable {prog : Program} {w : World} {A : Around} {E : Value → Shared → Prop} {s : Shared}
end

section
variable {X : Cx}
end
end L2

namespace Att
open PySem PySem.W PySem.Calls PyProof.Rows

theorem ints_of_wellAll {P : Params} {h : Heap} : ∀ (ns : List Int) (vs : List Value), WellAll P h vs (ns.map WData.int) → IntsAre vs ns := by
  intro ns
  induction ns with
  | nil =>
    intro vs w
    rw [List.map_nil] at w
    cases w
    exact .nil
  | cons n ns ih =>
    intro vs w
    rw [List.map_cons] at w
    cases w with
    | cons a b =>
      cases a
      exact .cons _ _ (ih _ b)

theorem script_of {l : OpenLaw} {n : Nat} (hn : l.most = some n) {P : Params} {h : Heap} {args : List WData} {vals : List Value}
    (hpre : l.row.toRowW.claim.pre args = true) (hwl : WellAll P h vals args) :
    ∃ a vs ns, vals = [Value.ref a] ∧ args = [WData.list (ns.map WData.int)] ∧ h.get? a = some { cls := .type "list", data := .seq vs.toArray } ∧ IntsAre vs ns ∧ ns.length ≤ n := by
  have hsh : WShape.hasAll [] args [.list .int] = true := (pre_splitW hpre).1
  have hc : l.pre.holds [] { args := args } = true := (pre_splitW hpre).2
  obtain ⟨d, r, rfl, h1, h2⟩ := hasAllW_cons hsh
  obtain rfl := hasAllW_nil h2
  obtain ⟨xs, rfl, h3⟩ := hasW_list h1
  obtain ⟨ns, rfl⟩ := items_int h3
  have hlen : ns.length ≤ n := by
    unfold OpenLaw.pre at hc
    have h4 : (WTm.not (.lt (.lit (.int (n : Int))) (.len (.arg 0)))).holds [] { args := [.list (ns.map .int)] } = true := by
      have h4 := (holds_andW hc).1
      rw [hn] at h4
      exact h4
    have h5 := condW_of h4 (w_not (w_lt w_lit (w_len_list (w_arg rfl))))
    rw [List.length_map] at h5
    refine Nat.le_of_not_lt fun q => ?_
    have q' : (n : Int) < ((ns.length : Nat) : Int) := by omega
    first
      | (rw [decide_eq_true q'] at h5; exact absurd h5 (by decide))
      | (simp at h5; omega)
  cases hwl with
  | cons w1 w2 =>
    cases w2
    cases w1 with
    | list ho hall => exact ⟨_, _, ns, rfl, rfl, ho, ints_of_wellAll ns _ hall, hlen⟩

theorem post_true (l : OpenLaw) (args : List WData) : l.row.toRowW.claim.post args (.bool true) args = true :=
  postW_of (r := l.row.toRowW) (X := (true == true))
    (show WShape.has [] (.bool true) .bool = true by first | rfl | decide | simp [WShape.has, WShape.arms, WShape.armsAll])
    (show (WTm.eq .res (.lit (.bool true))).value [] { args := args, res := some (.bool true), after := args } = some (.bool (true == true)) from w_eq_bool (w_res rfl) w_lit) rfl

theorem attach_call {l : OpenLaw} {n : Nat} {q : Program} {loose : List Str} {XP : (Str → Option Value) → Heap → Prop} {YP : World → Heap → Prop} {d : DefRec}
    (hn : l.most = some n) (hdf : d.params.defaults = [])
    (call : ∀ (w : World) (s₀ s₁ : Shared) (mg mb : Str → Option Value) (fa : Addr) (o : Obj) (pm cd doc : Value) (a : Addr) (vs : List Value) (ns : List Int),
      Ground q loose [] XP w s₀ mg mb s₁.heap → YP w s₁.heap →
      s₁.heap.get? fa = some o → o.data = .func (docDef d.name d.params d.body d.scope pm cd doc) → s₁.heap.CodeRec cd d.name → mg d.name = some (.ref fa) →
      s₁.heap.get? a = some { cls := .type "list", data := .seq vs.toArray } → IntsAre vs ns → ns.length ≤ n → s₁.gens = #[] →
      codeAny (model l.prog w) callerA (.call (.ref fa) ⟨[.ref a], []⟩) (fun r s' => r = .ok (.ret (.bool true)) ∧ OldK s₁.heap s'.heap ∧ s'.os = s₁.os ∧ AllBare s'.gens) s₁) :
    WalkO q loose XP YP l.row.toRowW d [] (fun f vs => PySem.call f vs) := by
  intro w s₀ s₁ mg mb G Y fa o pm cd doc dV kV ho hd hcd hD hmg hg args vals as hpre hlay hrd hwl hlo
  obtain rfl : dV = .none := Dflts.none hD hdf
  obtain rfl : kV = .none := Dflts.noKw hD
  obtain ⟨a, vs, ns, rfl, rfl, hobj, hints, hlen⟩ := script_of hn hpre hwl
  refine enter_call (codeAny_mono (call w s₀ s₁ mg mb fa o pm cd doc a vs ns G Y ho (fd_plain hd) hcd hmg hobj hints hlen hg) fun r s' hq => ?_)
  obtain ⟨rfl, h2, h3, h4⟩ := hq
  exact ⟨.inl ⟨.bool true, .bool true, [], rfl, fun _ => rfl, .bool true, post_true l _, fun _ => ⟨List.Pairwise.nil, fun _ hm => (nomatch hm)⟩⟩, h2, h3, h4⟩

section
variable {prog : Program} {w : World} {A : Around} {E : Value → Shared → Prop} {s : Shared} {K : Frag}

end
end Att

namespace L2
open PySem PySem.Spec PyProof.Rows

theorem vals_ints : ∀ {vs : List Value} {ns : List Int}, IntsAre vs ns → Vals (ns.map V.int) vs
  | _, _, .nil => .nil
  | _, _, .cons n t h => .cons ⟨t, rfl⟩ (vals_ints h)

noncomputable def Only (H : Hp) : Prop := ∀ b, H b = none ∨ ∃ o xs, H b = some (.frz o (.lst xs))

theorem law_call {P : Program} {w : World} {K : PySem.W.Frag} {mg mb : Str → Option Value} {CX : CXT} {k : Nat} {fa a : Addr} {fd : FuncData} {x : Str} {sp : Sp} {s₁ : Shared} {vs : List Value} {ns : List Int}
    (KX : K.In s₁.heap) (hns : s₁.heap.Ns mainGlobals mg) (hb : s₁.heap.Ns builtinsNs mb) (hbb : ∀ x : Str, x ≠ "__name__" → mb x = bootBuiltins x) (hlim : s₁.heap.NoLimit) (hg : s₁.gens = #[])
    (ha : s₁.heap.get? a = some { cls := .type "list", data := .seq vs.toArray }) (hi : IntsAre vs ns) (hl : ns.length ≤ sizeLine) (hr : Room k callerA)
    (F : ∀ base : Heap, K.In base → base.Ns mainGlobals mg → FnOk P w K mg base CX k fa fd [x] sp) (hbind : ∀ (s : Shared) (u : Value), BindsTo s fd ⟨[u], []⟩ [(x, u)])
    (hsp : ∀ H : Hp, Only H → SqL K H a (ns.map V.int) → sp [.ref a] H (fun v _ => v = .bl true) fun _ _ _ => False)
    (hCX : ∀ H e s', CX [] H s₁ (fun _ _ _ => False) e s' → False) :
    codeAny (model P w) callerA (.call (.ref fa) ⟨[.ref a], []⟩) (fun r s' => r = .ok (.ret (.bool true)) ∧ OldK s₁.heap s'.heap ∧ s'.os = s₁.os ∧ AllBare s'.gens) s₁ := by
  have rv := vals_ints hi
  have lenV := hi.length
  -- from an abstract heap in which nothing but the script may be tracked
  have core : ∀ H : Hp, Only H → SqL K H a (ns.map V.int) → HOk P w H s₁.heap → (∀ b, H b ≠ none → b = a) → (H a ≠ none → K.lookup a = none) →
      codeAny (model P w) callerA (.call (.ref fa) ⟨[.ref a], []⟩) (fun r s' => r = .ok (.ret (.bool true)) ∧ OldK s₁.heap s'.heap ∧ s'.os = s₁.os ∧ AllBare s'.gens) s₁ := by
    intro H hO hS hok hA hK
    have base_of : ∀ {b : Addr} {o : Obj}, s₁.heap.get? b = some o → H b = none → (hidT s₁.heap H).get? b = some o := fun e n => hidT_get e n
    have noA : ∀ {b : Addr} {o : Obj} {es : Array DictEntry} {ep : Nat}, s₁.heap.get? b = some o → o.data = .dict es ep → H b = none := fun {b o es ep} e d => by
      cases q : H b with
      | none => rfl
      | some u =>
        have e' : b = a := hA b (by rw [q]; simp)
        subst e'
        rw [ha] at e; cases e
        have d' : Data.seq vs.toArray _ = Data.dict es ep := d
        cases d'
    have nsK : ∀ {b : Addr} {m : Str → Option Value}, s₁.heap.Ns b m → (hidT s₁.heap H).Ns b m := fun {b m} ⟨o, es, ep, e, d, r⟩ => ⟨o, es, ep, base_of e (noA e d), d, r⟩
    have hKb : K.In (hidT s₁.heap H) := fun b o e => base_of (KX b o e) (by
      cases q : H b with
      | none => rfl
      | some u =>
        have e' : b = a := hA b (by rw [q]; simp)
        subst e'
        rw [hK (by rw [q]; simp)] at e; cases e)
    have hM : Mod K mg (hidT s₁.heap H) := ⟨hKb, nsK hns, ⟨mb, nsK hb, hbb⟩, let ⟨mc, h1, h2⟩ := hlim; ⟨mc, nsK h1, h2⟩⟩
    have e0 : Env0 P w K mg (hidT s₁.heap H) callerA [] s₁ H := ⟨rfl, hM, fun b o e => of_hidT e, Nat.le_of_eq (hidT_size _ _), trivial, fun b hb => absurd (show b ∈ ([] : List Addr) from hb) (by simp), hok, .of_eq hg⟩
    refine codeAny_mono ((F _ hKb (nsK hns)).run callerA [] s₁ H ⟨[.ref a], []⟩ [.ref a] [.ref a] _ _ hr e0 (hbind s₁ (.ref a)) (.cons rfl .nil) (hsp H hO hS)) fun r s' h => ?_
    cases r with
    | error e => exact (hCX H e s' h).elim
    | ok fl =>
      cases fl with
      | next => exact False.elim h
      | brk => exact False.elim h
      | cont => exact False.elim h
      | ret u =>
        obtain ⟨v, H', os, bare, un, hok', r', q⟩ := h
        have q' : v = .bl true := q
        subst q'
        obtain rfl : u = Value.bool true := r'
        refine ⟨rfl, OldK.of_keep fun b o e => ?_, os, bare⟩
        cases q : H b with
        | none => exact un.keep b o e q (by intro z; exact absurd (show b ∈ ([] : List Addr) from z) (by simp)) (by simp)
        | some u =>
          rcases hO b with z | ⟨ob, xs, z⟩
          · rw [q] at z; cases z
          · have z2 := un.frzs b ob _ z
            obtain ⟨e1, _⟩ := hok b _ z
            obtain ⟨e2, _⟩ := hok' b _ z2
            rw [e] at e1; cases e1
            exact e2
  cases hk : K.lookup a with
  | some o =>
    -- the script is one of the module's own objects
    have e := KX a o hk
    rw [ha] at e
    cases e
    refine core (fun _ => none) (fun _ => .inl rfl) (.inr ⟨_, vs.toArray, _, hk, rfl, rfl, rfl, by rw [List.size_toArray, lenV]; exact hl, by simpa using rv⟩) (fun b u z => by have z' : (none : Option HO) = some u := z; cases z') (fun b z => absurd rfl z) fun z => absurd rfl z
  | none =>
    refine core (fun b => if b = a then some (.frz { cls := .type "list", data := .seq vs.toArray } (.lst (ns.map V.int))) else none) (fun b => ?_) (.inl (.inr ⟨{ cls := .type "list", data := .seq vs.toArray }, if_pos rfl⟩)) (fun b u z => ?_) (fun b z => ?_) fun _ => hk
    · by_cases hb : b = a
      · exact .inr ⟨_, _, if_pos hb⟩
      · exact .inl (if_neg hb)
    · by_cases hb : b = a
      · have z' := (if_pos hb).symm.trans z
        cases z'
        subst hb
        exact ⟨ha, by rw [List.length_map]; exact hl, vs, _, rv, ha⟩
      · have z' := (if_neg hb).symm.trans z
        cases z'
    · by_cases hb : b = a
      · exact hb
      · exact absurd (if_neg hb) z
end L2

namespace L2
open PySem PySem.Spec PyProof.Rows

theorem walk_of {l : PySem.W.OpenLaw} {n k : Nat} {q : Program} {loose : List Str} {XP : (Str → Option Value) → Heap → Prop} {YP : World → Heap → Prop} {d : DefRec} {K : Params → PySem.W.Frag} {CX : World → CXT} {sp : World → Sp} {x : Str}
    (hn : l.most = some n) (hn2 : n ≤ sizeLine) (hdf : d.params.defaults = []) (hr : Room k callerA)
    (hY : ∀ (w : World) (h : Heap), YP w h → (K w.params).In h)
    (F : ∀ (w : World) (mg : Str → Option Value) (fa : Addr) (h : Heap), (K w.params).In h → h.Ns mainGlobals mg → mg d.name = some (.ref fa) →
      ∃ fd : FuncData, (∀ (s : Shared) (u : Value), BindsTo s fd ⟨[u], []⟩ [(x, u)]) ∧
        ∀ base : Heap, (K w.params).In base → base.Ns mainGlobals mg → FnOk l.prog w (K w.params) mg base (CX w) k fa fd [x] (sp w))
    (hsp : ∀ (w : World) (H : Hp) (a : Addr) (ns : List Int), ns.length ≤ n → Only H → SqL (K w.params) H a (ns.map V.int) → sp w [.ref a] H (fun v _ => v = .bl true) fun _ _ _ => False)
    (hCX : ∀ (w : World) (H : Hp) (s : Shared) (e : Value) (s' : Shared), CX w [] H s (fun _ _ _ => False) e s' → False) :
    PySem.W.WalkO q loose XP YP l.row.toRowW d [] (fun f vs => PySem.call f vs) := by
  refine Att.attach_call hn hdf fun w s₀ s₁ mg mb fa o pm cd doc a vs ns G Y ho hd hcd hmg hobj hints hlen hg => ?_
  have KX := hY w _ Y
  obtain ⟨fd, hb, hF⟩ := F w mg fa _ KX G.T.g hmg
  exact law_call KX G.T.g G.T.b G.T.builtins G.T.nolimit hg hobj hints (Nat.le_trans hlen hn2) hr hF hb (fun H hO hS => hsp w H a ns hlen hO hS) fun H e s' => hCX w H s₁ e s'
end L2



namespace L2
open PySem PySem.Spec PyProof.Rows

noncomputable def defArgs (s : Stmt) : Arguments := match s with
  | .FunctionDef _ a _ _ _ _ _ _ _ _ => a
  | _ => { posonlyargs := [], args := [], vararg := none, kwonlyargs := [], kw_defaults := [], kwarg := none, defaults := [] }
noncomputable def defBody (s : Stmt) : List Stmt := match s with
  | .FunctionDef _ _ b _ _ _ _ _ _ _ => b
  | _ => []
noncomputable def defScope (s : Stmt) : Scope := match s with
  | .FunctionDef _ _ _ _ _ _ sc _ _ _ => sc
  | _ => { kind := .function, names := [], isGenerator := false, isCoroutine := false }

noncomputable abbrev CX0 : CXT := fun _ _ _ _ _ _ => False
structure Fun (K : PySem.W.Frag) (x qual : Str) (st : Stmt) (f : Addr) (fd : FuncData) : Prop where
  ex : ∃ (oc : Value) (od : Option Addr) (kV doc pm : Value) (an : Option Addr) (cdv ct : Value) (osl : Array (Option Value)),
    fd = PySem.W.fnOf x qual (defArgs st) (defBody st) (defScope st) .none kV doc pm an cdv ct ∧ K.lookup f = some ⟨oc, od, .func fd, osl⟩ ∧ PySem.W.codeIn K cdv qual = true
  kp : PySem.W.keepIn K (.ref f) = true
section
variable {P : Program} {w : World} {K : PySem.W.Frag} {mg : Str → Option Value} {base : Heap}
theorem Fun.ok {x qual : Str} {st : Stmt} {f : Addr} {fd : FuncData} {N ps : List Str} {k : Nat} {sp : Sp} (F : Fun K x qual st f fd) (S : FnScope N ps (defScope st)) (len : ∀ vs H Q E, sp vs H Q E → vs.length = ps.length)
    (hbody : ∀ (cdv : Value) (A : Around) (outer : List Env) (s : Shared) (H : Hp) (vs : List V) (Q : VK) (E : XK), Room k (A.deeper (envOfC qual (defScope st) s.heap.objs.size f cdv)) → sp vs H Q E →
      ∃ t, PSs (cxOf CX0 P w K mg base N qual (defScope st) f cdv A outer s H E).nox (defBody st) t ∧ t { nx := fun _ H' => Q .non H', rt := Q } (start N vs) H) : FnOk P w K mg base CX0 (k + 1) f fd ps sp := by
  obtain ⟨oc, od, kV, doc, pm, an, cdv, ct, osl, rfl, lk, hcd⟩ := F.ex
  refine fn_of lk hcd S len fun A outer s H vs Q E hr hsp => ?_
  obtain ⟨t, h, q⟩ := hbody cdv A outer s H vs Q E hr hsp
  exact ⟨t, h.nox, q⟩
theorem Fun.binds {x qual : Str} {st : Stmt} {f : Addr} {fd : FuncData} {ps : List Str} (F : Fun K x qual st f fd)
    (h : ∀ (kV doc pm : Value) (an : Option Addr) (cdv ct : Value) (us : List Value), us.length = ps.length → bindArgs (PySem.W.fnOf x qual (defArgs st) (defBody st) (defScope st) .none kV doc pm an cdv ct) ⟨us, []⟩ = pure (ps.zip us)) : Binds K fd ps [] := by
  obtain ⟨oc, od, kV, doc, pm, an, cdv, ct, osl, rfl, lk, hcd⟩ := F.ex
  exact .all (h kV doc pm an cdv ct)
theorem fun_mk {x qual : Str} {st : Stmt} {f : Addr} {oc : Value} {od an : Option Addr} {osl : Array (Option Value)} {kV doc pm cdv ct : Value} (l : K.lookup f = some ⟨oc, od, .func (PySem.W.fnOf x qual (defArgs st) (defBody st) (defScope st) .none kV doc pm an cdv ct), osl⟩)
    (c : PySem.W.codeIn K cdv qual = true) (k : PySem.W.keepIn K (.ref f) = true) : Fun K x qual st f (PySem.W.fnOf x qual (defArgs st) (defBody st) (defScope st) .none kV doc pm an cdv ct) := ⟨⟨oc, od, kV, doc, pm, an, cdv, ct, osl, rfl, l, c⟩, k⟩
end
section
variable {X : Cx}
end

noncomputable def Same (H H' : Hp) : Prop := ∀ b o, H b = some o → H' b = some o
theorem Same.refl (H : Hp) : Same H H := fun _ _ h => h
theorem Same.trans {H H1 H2 : Hp} (a : Same H H1) (b : Same H1 H2) : Same H H2 := fun c o h => b c o (a c o h)
theorem Same.free {H H' : Hp} (e : Same H H') {l : Addr} (h : H' l = Option.none) : H l = Option.none := by
  cases q : H l with
  | none => rfl
  | some o =>
    rw [e l o q] at h
    cases h
theorem Same.seq {K : PySem.W.Frag} {H H' : Hp} {a : Addr} {xs : List V} (e : Same H H') (h : SqL K H a xs) : SqL K H' a xs := by
  rcases h with (h | ⟨o, h⟩) | h
  · exact .inl (.inl (e _ _ h))
  · exact .inl (.inr ⟨o, e _ _ h⟩)
  · exact .inr h

end L2

set_option maxHeartbeats 4000000
section
namespace L3
open PySem

noncomputable abbrev Xc := Nat × Option Nat
inductive D where
  | non | bl (b : Bool) | int (i : Int) | str (s : Str) | ref (n : Nat) | tup (ds : List D) | fl (ds : List D)
inductive GO where
  | lst (ds : List D) | ins (c : Nat) (fs : List (Str × D)) | dct (kvs : List (Sum Int Str × D)) | exc (x : Xc)
noncomputable abbrev G := List GO
noncomputable abbrev S3 := List (Option D)
inductive Res (α : Type) where
  | ok (a : α) (g : G) | raise (x : Xc) (g : G) | stuck
noncomputable def Res.bind {α β : Type} : Res α → (α → G → Res β) → Res β
  | .ok a g, k => k a g
  | .raise e g, _ => .raise e g
  | .stuck, _ => .stuck
inductive Out where
  | nx (σ : S3) (g : G) | rt (d : D) (g : G) | bk (σ : S3) (g : G) | ct (σ : S3) (g : G) | raise (x : Xc) (σ : S3) (g : G) | stuck
noncomputable abbrev ME := S3 → G → Res D
noncomputable abbrev MT := S3 → G → Res Bool
noncomputable abbrev MA := S3 → G → Res (List D)
noncomputable abbrev MS := S3 → G → Out
noncomputable abbrev MF := List D → G → Res D
theorem Res.bind_ok {α β : Type} (a : α) (g : G) (k : α → G → Res β) : (Res.ok a g).bind k = k a g := rfl
noncomputable def SZ : Nat := 1000000
noncomputable def mVar (i : Nat) : ME := fun σ g => match σ[i]? with
  | some (some d) => .ok d g
  | _ => .stuck
noncomputable def mLit (d : D) : ME := fun _ g => .ok d g
noncomputable def mOp1 (f : D → G → Res D) (a : ME) : ME := fun σ g => (a σ g).bind f
noncomputable def mOp2 (f : D → D → G → Res D) (a b : ME) : ME := fun σ g => (a σ g).bind fun x g1 => (b σ g1).bind fun y g2 => f x y g2
noncomputable def mNil : MA := fun _ g => .ok [] g
noncomputable def mCons (a : ME) (r : MA) : MA := fun σ g => (a σ g).bind fun x g1 => (r σ g1).bind fun xs g2 => .ok (x :: xs) g2
noncomputable def mOpA (f : List D → G → Res D) (a : MA) : ME := fun σ g => (a σ g).bind f
noncomputable def mTest (a : ME) : MT := fun σ g => (a σ g).bind fun d g1 => match d with
  | .bl b => .ok b g1
  | _ => .stuck
noncomputable def mNotT (a : MT) : MT := fun σ g => (a σ g).bind fun b g1 => .ok (!b) g1
noncomputable def mOrT (a b : MT) : MT := fun σ g => (a σ g).bind fun c g1 => if c = true then .ok true g1 else b σ g1
noncomputable def mIfE (c : MT) (a b : ME) : ME := fun σ g => (c σ g).bind fun t g1 => if t = true then a σ g1 else b σ g1
noncomputable def mSkip : MS := fun σ g => .nx σ g
noncomputable def mSeq (a b : MS) : MS := fun σ g => match a σ g with
  | .nx σ' g' => b σ' g'
  | o => o
noncomputable def mExpr (a : ME) : MS := fun σ g => match a σ g with
  | .ok _ g' => .nx σ g'
  | .raise e g' => .raise e σ g'
  | .stuck => .stuck
noncomputable def mRet (a : ME) : MS := fun σ g => match a σ g with
  | .ok d g' => .rt d g'
  | .raise e g' => .raise e σ g'
  | .stuck => .stuck
noncomputable def mIf (c : MT) (a b : MS) : MS := fun σ g => match c σ g with
  | .ok t g' => if t = true then a σ g' else b σ g'
  | .raise e g' => .raise e σ g'
  | .stuck => .stuck
noncomputable abbrev MG := D → S3 → Option S3
noncomputable def gSet (i : Nat) : MG := fun d σ => some (σ.set i (some d))
noncomputable def gSets : List MG → List D → S3 → Option S3
  | [], [], σ => some σ
  | t :: ts, d :: ds, σ => (t d σ).bind fun σ' => gSets ts ds σ'
  | _, _, _ => none
noncomputable def gTup3 (ts : List MG) : MG := fun d σ => match d with
  | .tup ds => gSets ts ds σ
  | _ => none
noncomputable def mAsg (t : MG) (a : ME) : MS := fun σ g => match a σ g with
  | .ok d g' => (match t d σ with
    | some σ' => .nx σ' g'
    | none => .stuck)
  | .raise e g' => .raise e σ g'
  | .stuck => .stuck
structure Src where
  at' : G → Nat → Option (Option D)
  top : Nat
noncomputable abbrev MI := S3 → G → Res Src
noncomputable def forL (src : Src) (t : MG) (body : MS) : Nat → Nat → S3 → G → Out
  | 0, _, _, _ => .stuck
  | f + 1, i, σ, g => match src.at' g i with
    | some (some d) => (match t d σ with
      | some σ1 => (match body σ1 g with
        | .nx σ2 g2 => forL src t body f (i + 1) σ2 g2
        | .ct σ2 g2 => forL src t body f (i + 1) σ2 g2
        | .bk σ2 g2 => .nx σ2 g2
        | o => o)
      | none => .stuck)
    | some none => .nx σ g
    | none => .stuck
noncomputable def mFor (it : MI) (t : MG) (body : MS) : MS := fun σ g => match it σ g with
  | .ok src g' => forL src t body (src.top + 1) 0 σ g'
  | .raise e g' => .raise e σ g'
  | .stuck => .stuck
noncomputable def compL (src : Src) (t : MG) (c : MT) (e : ME) : Nat → Nat → S3 → G → List D → Res (List D)
  | 0, _, _, _, _ => .stuck
  | f + 1, i, σ, g, acc => match src.at' g i with
    | some (some d) => (match t d σ with
      | some σ1 => (match c σ1 g with
        | .ok b g1 => if b = true then (match e σ1 g1 with
          | .ok y g2 => compL src t c e f (i + 1) σ1 g2 (acc ++ [y])
          | _ => .stuck) else compL src t c e f (i + 1) σ1 g1 acc
        | _ => .stuck)
      | none => .stuck)
    | some none => .ok acc g
    | none => .stuck
noncomputable def capt (n : Nat) (cap : List Nat) (σ : S3) : S3 := List.replicate n none ++ cap.map fun i => (σ[i]?).getD none
noncomputable def newL (ds : List D) (g : G) : Res D := if ds.length ≤ SZ then .ok (.ref g.length) (g ++ [.lst ds]) else .stuck
noncomputable def pTup (xs : List D) (g : G) : Res D := if xs.length ≤ SZ then .ok (.tup xs) g else .stuck
noncomputable def mComp (it : MI) (n : Nat) (cap : List Nat) (t : MG) (c : MT) (e : ME) : ME := fun σ g => match it σ g with
  | .ok src g1 => if src.top ≤ SZ then (match compL src t c e (src.top + 1) 0 (capt n cap σ) g1 [] with
    | .ok ds g2 => .ok (.ref g2.length) (g2 ++ [.lst ds])
    | _ => .stuck) else .stuck
  | _ => .stuck
noncomputable def mTrue : MT := fun _ g => .ok true g
noncomputable def mDef (k n : Nat) (body : MS) : MF := fun ds g => if ds.length = k then (match body (ds.map some ++ List.replicate n none) g with
  | .nx _ g' => .ok .non g'
  | .rt d g' => .ok d g'
  | .raise e _ g' => .raise e g'
  | _ => .stuck) else .stuck
noncomputable def mCall (f : MF) (a : MA) : ME := fun σ g => (a σ g).bind f
noncomputable def putG (f : Str) (v : D) : List (Str × D) → List (Str × D)
  | [] => [(f, v)]
  | (g, x) :: r => if g = f then (g, v) :: r else (g, x) :: putG f v r
noncomputable def ixD (n : Nat) (i : Int) : Option Nat := if 0 ≤ i then (if i < n then some i.toNat else none) else if -(n : Int) ≤ i then some (i + n).toNat else none
noncomputable def mSetIx (o i v : ME) : MS := fun σ g => match v σ g with
  | .ok y g1 => (match o σ g1 with
    | .ok (.ref n) g2 => (match i σ g2 with
      | .ok (.int k) g3 => (match g3[n]? with
        | some (.lst ds) => (match ixD ds.length k with
          | some j => .nx σ (g3.set n (.lst (ds.set j y)))
          | none => .stuck)
        | _ => .stuck)
      | .raise e g' => .raise e σ g'
      | _ => .stuck)
    | .raise e g' => .raise e σ g'
    | _ => .stuck)
  | .raise e g' => .raise e σ g'
  | .stuck => .stuck

noncomputable def srcSeq (d : D) (g : G) : Res Src := match d with
  | .tup ds => .ok ⟨fun _ i => some ds[i]?, ds.length⟩ g
  | .fl ds => .ok ⟨fun _ i => some ds[i]?, ds.length⟩ g
  | .ref n => (match g[n]? with
    | some (.lst ds) => .ok ⟨fun g i => (match g[n]? with | some (.lst es) => some es[i]? | _ => none), ds.length⟩ g
    | _ => .stuck)
  | _ => .stuck
noncomputable def mItSeq (a : ME) : MI := fun σ g => (a σ g).bind srcSeq
noncomputable def srcRange (lo : Int) (n : Nat) : Src := ⟨fun _ i => some (if i < n then some (.int (lo + i)) else none), n⟩
noncomputable def inR (j : Int) : Prop := -(2 ^ 62) ≤ j ∧ j < 2 ^ 62
noncomputable instance (j : Int) : Decidable (inR j) := inferInstanceAs (Decidable (_ ∧ _))
noncomputable def mItRange1 (a : ME) : MI := fun σ g => (a σ g).bind fun d g1 => match d with
  | .int j => if inR j then .ok (srcRange 0 j.toNat) g1 else .stuck
  | _ => .stuck
noncomputable def seqOf (g : G) : D → Option (Bool × List D)
  | .tup ds => some (false, ds)
  | .fl ds => some (true, ds)
  | .ref n => (match g[n]? with
    | some (.lst ds) => some (true, ds)
    | _ => none)
  | _ => none
noncomputable def pAdd (x y : D) (g : G) : Res D := match x, y with
  | .int i, .int j => .ok (.int (i + j)) g
  | .str s, .str t => if s.length + t.length ≤ SZ then .ok (.str (s ++ t)) g else .stuck
  | .tup xs, .tup ys => if xs.length + ys.length ≤ SZ then .ok (.tup (xs ++ ys)) g else .stuck
  | .ref n, .ref m => (match g[n]?, g[m]? with
    | some (.lst xs), some (.lst ys) => if xs.length + ys.length ≤ SZ then .ok (.ref g.length) (g ++ [.lst (xs ++ ys)]) else .stuck
    | _, _ => .stuck)
  | _, _ => .stuck
noncomputable def pSub (x y : D) (g : G) : Res D := match x, y with
  | .int i, .int j => .ok (.int (i - j)) g
  | _, _ => .stuck
noncomputable def cM (i : Int) : Prop := -(2 ^ 64) < i ∧ i < 2 ^ 64
noncomputable instance (j : Int) : Decidable (cM j) := inferInstanceAs (Decidable (_ ∧ _))
noncomputable def pMul (x y : D) (g : G) : Res D := match x, y with
  | .int i, .int j => if cM i ∨ cM j then .ok (.int (i * j)) g else .stuck
  | _, _ => .stuck
noncomputable def pFdiv (x y : D) (g : G) : Res D := match x, y with
  | .int i, .int j => if 0 < j ∧ j < 1073741824 then .ok (.int (i / j)) g else .stuck
  | _, _ => .stuck
noncomputable def pMod (x y : D) (g : G) : Res D := match x, y with
  | .int i, .int j => if 0 < j then .ok (.int (i % j)) g else .stuck
  | _, _ => .stuck
noncomputable def pCmp (r : Int → Int → Bool) (x y : D) (g : G) : Res D := match x, y with
  | .int i, .int j => .ok (.bl (r i j)) g
  | _, _ => .stuck
noncomputable def pGt := pCmp fun i j => decide (j < i)
noncomputable def eqT (_ : G) (x y : D) : Option Bool := match x, y with
  | .int i, .int j => some (i == j)
  | .str s, .str t => some (s == t)
  | .bl a, .bl b => some (a == b)
  | _, _ => none
noncomputable def pEq (x y : D) (g : G) : Res D := match eqT g x y with
  | some b => .ok (.bl b) g
  | none => .stuck
noncomputable def intsD : List D → Option (List Int)
  | [] => some []
  | .int i :: r => (intsD r).map (i :: ·)
  | _ :: _ => none
noncomputable def neT (g : G) (x y : D) : Option Bool := match x, y with
  | .non, .non => some true
  | .non, .int _ => some false
  | .int _, .non => some false
  | .ref n, .ref m => (match g[n]?, g[m]? with
    | some (.lst xs), some (.lst ys) => (match intsD xs, intsD ys with
      | some is, some js => some (decide (is = js))
      | _, _ => none)
    | _, _ => none)
  | x, y => eqT g x y
noncomputable def pNe (x y : D) (g : G) : Res D := match neT g x y with
  | some b => .ok (.bl (!b)) g
  | none => .stuck
noncomputable def atD {α : Type} (xs : List α) (i : Int) : Option α := (ixD xs.length i).bind fun j => xs[j]?
noncomputable def pIx (x y : D) (g : G) : Res D := match x, y with
  | .tup ds, .int i => (match atD ds i with
    | some d => .ok d g
    | none => .stuck)
  | .fl ds, .int i => (match atD ds i with
    | some d => .ok d g
    | none => .stuck)
  | .ref n, .int i => (match g[n]? with
    | some (.lst ds) => (match atD ds i with
      | some d => .ok d g
      | none => .stuck)
    | _ => .stuck)
  | .str s, .int i => if s.length ≤ SZ then (match atD s.cps.toList i with
    | some c => .ok (.str ⟨#[c]⟩) g
    | none => .stuck) else .stuck
  | _, _ => .stuck
noncomputable def sIxD (n d : Nat) : Option Int → Nat
  | none => d
  | some v => if v < 0 then (v + (n : Int)).toNat else min v.toNat n
noncomputable def cutD {α : Type} (xs : List α) (lo hi : Option Int) : List α := (xs.drop (sIxD xs.length 0 lo)).take (sIxD xs.length xs.length hi - sIxD xs.length 0 lo)
noncomputable def pSlice (x : D) (lo hi : Option Int) (g : G) : Res D := match x with
  | .tup [] => .ok (.tup []) g
  | .fl ds => .ok (.ref g.length) (g ++ [.lst (cutD ds lo hi)])
  | _ => .stuck
noncomputable abbrev MO := S3 → G → Res (Option Int)
noncomputable def mNoPart : MO := fun _ g => .ok none g
noncomputable def mPart (a : ME) : MO := fun σ g => (a σ g).bind fun d g1 => match d with
  | .int i => .ok (some i) g1
  | _ => .stuck
noncomputable def mSlice (a : ME) (lo hi : MO) : ME := fun σ g => (a σ g).bind fun x g1 => (lo σ g1).bind fun l g2 => (hi σ g2).bind fun h g3 => pSlice x l h g3
noncomputable def pLen (x : D) (g : G) : Res D := match x with
  | .tup ds => .ok (.int ds.length) g
  | .fl ds => .ok (.int ds.length) g
  | .ref n => (match g[n]? with
    | some (.lst ds) => .ok (.int ds.length) g
    | _ => .stuck)
  | .str s => if s.length ≤ SZ then .ok (.int s.length) g else .stuck
  | _ => .stuck
noncomputable def pTuple (x : D) (g : G) : Res D := match x with
  | .tup ds => .ok (.tup ds) g
  | .fl ds => .ok (.tup ds) g
  | .ref n => (match g[n]? with
    | some (.lst ds) => .ok (.tup ds) g
    | _ => .stuck)
  | _ => .stuck
noncomputable def mAppend (o e : ME) : ME := fun σ g => (o σ g).bind fun x g1 => match x with
  | .ref n => (match g1[n]? with
    | some (.lst _) => (e σ g1).bind fun y g2 => (match g2[n]? with
      | some (.lst ds) => if ds.length < SZ then .ok .non (g2.set n (.lst (ds ++ [y]))) else .stuck
      | _ => .stuck)
    | _ => .stuck)
  | _ => .stuck
inductive Ty where
  | non | bool | int | str | tuple | list | dict
  deriving DecidableEq
noncomputable def Ty.name : Ty → String
  | .non => "NoneType" | .bool => "bool" | .int => "int" | .str => "str" | .tuple => "tuple" | .list => "list" | .dict => "dict"
noncomputable def tyLe (t c : Ty) : Bool := t == c || (t == .bool && c == .int)
noncomputable def tyOf (g : G) : D → Option Ty
  | .non => some .non
  | .bl _ => some .bool
  | .int _ => some .int
  | .str _ => some .str
  | .tup _ => some .tuple
  | .fl _ => some .list
  | .ref n => (match g[n]? with
    | some (.lst _) => some .list
    | some (.dct _) => some .dict
    | _ => none)
noncomputable def pIsin (c : Ty) (x : D) (g : G) : Res D := match tyOf g x with
  | some t => .ok (.bl (tyLe t c)) g
  | none => .stuck
end L3

end
section
namespace L3
open PySem PySem.Spec PyProof.Rows L2

noncomputable def SqF (K : PySem.W.Frag) (H : Hp) (a : Addr) (xs : List V) : Prop := (∃ o, H a = some (.frz o (.lst xs))) ∨ SqL K (fun _ => none) a xs
theorem SqF.sq {K : PySem.W.Frag} {H : Hp} {a : Addr} {xs : List V} (h : SqF K H a xs) : SqL K H a xs := by
  rcases h with ⟨o, h⟩ | (h | ⟨o, h⟩) | h
  · exact .inl (.inr ⟨o, h⟩)
  · cases h
  · cases h
  · exact .inr h
mutual
inductive Den (K : PySem.W.Frag) (μ : List Addr) (H : Hp) : V → D → Prop where
  | non : Den K μ H .non .non
  | bl (b : Bool) : Den K μ H (.bl b) (.bl b)
  | int (i : Int) : Den K μ H (.int i) (.int i)
  | str (x : Str) : Den K μ H (.str x) (.str x)
  | ref {n : Nat} {a : Addr} (h : μ[n]? = some a) : Den K μ H (.ref a) (.ref n)
  | tup {a : Addr} {vs : List V} {ds : List D} (h : SqT K H a vs) (hs : Dens K μ H vs ds) : Den K μ H (.ref a) (.tup ds)
  | fl {a : Addr} {vs : List V} {ds : List D} (h : SqF K H a vs) (hs : Dens K μ H vs ds) : Den K μ H (.ref a) (.fl ds)
inductive Dens (K : PySem.W.Frag) (μ : List Addr) (H : Hp) : List V → List D → Prop where
  | nil : Dens K μ H [] []
  | cons {v : V} {d : D} {vs : List V} {ds : List D} (h : Den K μ H v d) (hs : Dens K μ H vs ds) : Dens K μ H (v :: vs) (d :: ds)
end

structure Ext (K : PySem.W.Frag) (μ : List Addr) (H : Hp) (μ' : List Addr) (H' : Hp) : Prop where
  pre : ∃ t, μ' = μ ++ t
  tup : ∀ a xs, SqT K H a xs → SqT K H' a xs
  fl : ∀ a xs, SqF K H a xs → SqF K H' a xs
section
variable {K : PySem.W.Frag} {ca : Nat → Addr} {μ μ' μ'' : List Addr} {H H' H'' : Hp}
theorem Ext.refl : Ext K μ H μ H := ⟨⟨[], by simp⟩, fun _ _ h => h, fun _ _ h => h⟩
theorem Ext.trans (a : Ext K μ H μ' H') (b : Ext K μ' H' μ'' H'') : Ext K μ H μ'' H'' := by
  obtain ⟨t, e⟩ := a.pre
  obtain ⟨u, f⟩ := b.pre
  exact ⟨⟨t ++ u, by rw [f, e, List.append_assoc]⟩, fun x xs h => b.tup x xs (a.tup x xs h), fun x xs h => b.fl x xs (a.fl x xs h)⟩
theorem Ext.at (e : Ext K μ H μ' H') {n : Nat} {a : Addr} (h : μ[n]? = some a) : μ'[n]? = some a := by
  obtain ⟨t, rfl⟩ := e.pre
  have hl : n < μ.length := (List.getElem?_eq_some_iff.mp h).1
  rw [List.getElem?_append_left hl]
  exact h
mutual
theorem Den.mono (e : Ext K μ H μ' H') : ∀ {v : V} {d : D}, Den K μ H v d → Den K μ' H' v d
  | _, _, .non => .non
  | _, _, .bl b => .bl b
  | _, _, .int i => .int i
  | _, _, .str x => .str x
  | _, _, .ref h => .ref (e.at h)
  | _, _, .tup h hs => .tup (e.tup _ _ h) (Dens.mono e hs)
  | _, _, .fl h hs => .fl (e.fl _ _ h) (Dens.mono e hs)
theorem Dens.mono (e : Ext K μ H μ' H') : ∀ {vs : List V} {ds : List D}, Dens K μ H vs ds → Dens K μ' H' vs ds
  | _, _, .nil => .nil
  | _, _, .cons h hs => .cons (Den.mono e h) (Dens.mono e hs)
end
theorem Dens.length : ∀ {vs : List V} {ds : List D}, Dens K μ H vs ds → vs.length = ds.length
  | _, _, .nil => rfl
  | _, _, .cons _ t => by rw [List.length_cons, List.length_cons, Dens.length t]
theorem Dens.get : ∀ {vs : List V} {ds : List D} {i : Nat} {d : D}, Dens K μ H vs ds → ds[i]? = some d → ∃ v, vs[i]? = some v ∧ Den K μ H v d
  | _, _, _, _, .nil, e => by simp at e
  | _, _, 0, _, .cons r _, e => by simp at e; subst e; exact ⟨_, rfl, r⟩
  | _, _, i + 1, x, .cons _ t, e => by
    obtain ⟨u, h1, h2⟩ := Dens.get (i := i) (d := x) t (by simpa using e)
    exact ⟨u, by simpa using h1, h2⟩
theorem Dens.append : ∀ {vs ws : List V} {ds es : List D}, Dens K μ H vs ds → Dens K μ H ws es → Dens K μ H (vs ++ ws) (ds ++ es)
  | _, _, _, _, .nil, h => h
  | _, _, _, _, .cons a b, h => .cons a (Dens.append b h)
theorem Dens.set {x : V} {u : D} (r : Den K μ H x u) : ∀ {xs : List V} {us : List D} (i : Nat), Dens K μ H xs us → Dens K μ H (xs.set i x) (us.set i u)
  | _, _, _, .nil => .nil
  | _, _, 0, .cons _ t => .cons r t
  | _, _, i + 1, .cons q t => .cons q (Dens.set r i t)
theorem Dens.take : ∀ {xs : List V} {us : List D} (n : Nat), Dens K μ H xs us → Dens K μ H (xs.take n) (us.take n)
  | _, _, 0, _ => .nil
  | _, _, _ + 1, .nil => .nil
  | _, _, n + 1, .cons r t => .cons r (Dens.take n t)
theorem Dens.drop : ∀ {xs : List V} {us : List D} (n : Nat), Dens K μ H xs us → Dens K μ H (xs.drop n) (us.drop n)
  | _, _, 0, r => r
  | _, _, _ + 1, .nil => .nil
  | _, _, n + 1, .cons _ t => Dens.drop n t
theorem Dens.ints (ns : List Int) : Dens K μ H (ns.map V.int) (ns.map D.int) := by
  induction ns with
  | nil => exact .nil
  | cons n r ih => exact .cons (.int n) ih

noncomputable def FRel (K : PySem.W.Frag) (μ : List Addr) (H : Hp) : List (Str × V) → List (Str × D) → Prop := Paired fun p q => p.1 = q.1 ∧ Den K μ H p.2 q.2
noncomputable def KRel (K : PySem.W.Frag) (μ : List Addr) (H : Hp) : List (Key × V) → List (Key × D) → Prop := Paired fun p q => p.1 = q.1 ∧ Den K μ H p.2 q.2
noncomputable def XOb (ca : Nat → Addr) (x : Xc) (o : Obj) : Prop := o.cls = .ref (ca x.1) ∧ o.dict = none
theorem XOb.map {ca : Nat → Addr} {x : Xc} {o : Obj} (h : XOb ca x o) (f : Array Value → Array Value) : XOb ca x (o.mapFields f) := by
  obtain ⟨c, d, dt, sl⟩ := o
  cases dt <;> exact h
noncomputable def XO (ca : Nat → Addr) (a : Addr) (x : Xc) : HO := .ext fun h => ∃ o vs, h.get? a = some o ∧ XOb ca x o ∧ o.data = .fields vs
noncomputable def ORep (K : PySem.W.Frag) (ca : Nat → Addr) (μ : List Addr) (H : Hp) (a : Addr) : GO → Prop
  | .dct ks => ∃ kv, H a = some (.dK kv) ∧ KRel K μ H kv ks
  | .exc x => H a = some (XO ca a x)
  | .lst ds => ∃ vs, H a = some (.lst vs) ∧ Dens K μ H vs ds
  | .ins c fs => ∃ dx fv, H a = some (.ins (ca c) dx fv) ∧ FRel K μ H fv fs
structure GRep (K : PySem.W.Frag) (ca : Nat → Addr) (μ : List Addr) (H : Hp) (g : G) : Prop where
  len : μ.length = g.length
  nd : μ.Nodup
  obj : ∀ (n : Nat) (a : Addr) (o : GO), μ[n]? = some a → g[n]? = some o → ORep K ca μ H a o
structure Rep (K : PySem.W.Frag) (ca : Nat → Addr) (μ : List Addr) (σ3 : S3) (g : G) (σ : L2.St) (H : Hp) : Prop where
  g : GRep K ca μ H g
  len : σ.length = σ3.length
  st : ∀ (i : Nat) (d : D), σ3[i]? = some (some d) → ∃ v, σ[i]? = some (some v) ∧ Den K μ H v d
theorem FRel.mono (e : Ext K μ H μ' H') {fv : List (Str × V)} {fs : List (Str × D)} (h : FRel K μ H fv fs) : FRel K μ' H' fv fs := Paired.imp' (fun _ _ q => ⟨q.1, q.2.mono e⟩) h
theorem KRel.mono (e : Ext K μ H μ' H') {fv : List (Key × V)} {fs : List (Key × D)} (h : KRel K μ H fv fs) : KRel K μ' H' fv fs := Paired.imp' (fun _ _ q => ⟨q.1, q.2.mono e⟩) h
theorem Rep.go {σ3 : S3} {g g' : G} {σ : L2.St} (r : Rep K ca μ σ3 g σ H) (e : Ext K μ H μ' H') (h : GRep K ca μ' H' g') : Rep K ca μ' σ3 g' σ H' :=
  ⟨h, r.len, fun i d z => by obtain ⟨v, h1, h2⟩ := r.st i d z; exact ⟨v, h1, h2.mono e⟩⟩
theorem GRep.addr {g : G} (r : GRep K ca μ H g) {n : Nat} {o : GO} (h : g[n]? = some o) : ∃ a, μ[n]? = some a ∧ ORep K ca μ H a o := by
  have hl : n < g.length := (List.getElem?_eq_some_iff.mp h).1
  have hm : n < μ.length := by rw [r.len]; exact hl
  exact ⟨μ[n], by simp [hm], r.obj n _ o (by simp [hm]) h⟩
theorem ORep.is {a : Addr} {o : GO} (h : ORep K ca μ H a o) : ∃ u, H a = some u := by
  cases o with
  | lst ds => obtain ⟨_, h, _⟩ := h; exact ⟨_, h⟩
  | ins c fs => obtain ⟨_, _, h, _⟩ := h; exact ⟨_, h⟩
  | dct ks => obtain ⟨_, h, _⟩ := h; exact ⟨_, h⟩
  | exc x => exact ⟨_, h⟩
theorem GRep.known {g : G} (r : GRep K ca μ H g) {a : Addr} (h : a ∈ μ) : ∃ u, H a = some u := by
  obtain ⟨n, hn⟩ := List.getElem?_of_mem h
  have hl : n < μ.length := (List.getElem?_eq_some_iff.mp hn).1
  have hg : n < g.length := by rw [← r.len]; exact hl
  exact (r.obj n a g[n] hn (by simp [hg])).is
theorem ext_new {p : Addr} {o : HO} (hp : H p = none) : Ext K μ H μ (upd H p o) := ⟨⟨[], by simp⟩, fun a xs h => by
  rcases h with (h | ⟨u, h⟩) | h
  · exact .inl (.inl (by rw [upd_ne (ne_of_none h hp)]; exact h))
  · exact .inl (.inr ⟨u, by rw [upd_ne (ne_of_none h hp)]; exact h⟩)
  · exact .inr h, fun a xs h => by
  rcases h with ⟨u, h⟩ | h
  · exact .inl ⟨u, by rw [upd_ne (ne_of_none h hp)]; exact h⟩
  · exact .inr h⟩
theorem ORep.mono {a : Addr} {o : GO} (e : Ext K μ H μ' H') (ha : ∀ u, H a = some u → H' a = some u) (h : ORep K ca μ H a o) : ORep K ca μ' H' a o := by
  cases o with
  | lst ds => obtain ⟨vs, h, q⟩ := h; exact ⟨vs, ha _ h, q.mono e⟩
  | ins c fs => obtain ⟨dx, fv, h, q⟩ := h; exact ⟨dx, fv, ha _ h, q.mono e⟩
  | dct ks => obtain ⟨kv, h, q⟩ := h; exact ⟨kv, ha _ h, q.mono e⟩
  | exc x => exact ha _ h
theorem GRep.new {g : G} {p : Addr} {o : HO} (r : GRep K ca μ H g) (hp : H p = none) : GRep K ca μ (upd H p o) g :=
  ⟨r.len, r.nd, fun n a u h1 h2 => (r.obj n a u h1 h2).mono (ext_new hp) fun z hz => by rw [upd_ne (ne_of_none hz hp)]; exact hz⟩
theorem ext_push {p : Addr} {o : HO} (hp : H p = none) : Ext K μ H (μ ++ [p]) (upd H p o) := ⟨⟨[p], rfl⟩, (ext_new (μ := μ) hp).tup, (ext_new (μ := μ) hp).fl⟩
theorem GRep.push {g : G} {p : Addr} {o : HO} {u : GO} (r : GRep K ca μ H g) (hp : H p = none) (ho : ORep K ca (μ ++ [p]) (upd H p o) p u) : GRep K ca (μ ++ [p]) (upd H p o) (g ++ [u]) := by
  have nm : p ∉ μ := fun h => by
    obtain ⟨z, hz⟩ := r.known h
    rw [hp] at hz; cases hz
  refine ⟨by rw [List.length_append, List.length_append, r.len]; rfl, ?_, fun n a w h1 h2 => ?_⟩
  · rw [List.nodup_append]
    exact ⟨r.nd, by simp, fun x hx y hy e => nm (by rw [List.mem_singleton.mp hy] at e; rw [← e]; exact hx)⟩
  · by_cases hn : n < g.length
    · rw [List.getElem?_append_left hn] at h2
      rw [List.getElem?_append_left (by rw [r.len]; exact hn)] at h1
      exact (r.obj n a w h1 h2).mono (ext_push hp) fun z hz => by rw [upd_ne (ne_of_none hz hp)]; exact hz
    · rw [List.getElem?_append_right (by omega)] at h2
      rw [List.getElem?_append_right (by rw [r.len]; omega)] at h1
      have e0 : n - g.length = 0 := by
        have := (List.getElem?_eq_some_iff.mp h2).1
        simp at this; omega
      rw [e0] at h2
      rw [r.len, e0] at h1
      simp at h1 h2
      subst h1 h2
      exact ho
theorem ext_set {a : Addr} {o o' : HO} (h : H a = some o) (no : ∀ xs, o ≠ .tup xs) (nf : ∀ b u, o ≠ .frz b u) : Ext K μ H μ (upd H a o') := ⟨⟨[], by simp⟩, fun b xs hb => by
  rcases hb with (z | ⟨u, z⟩) | z
  · exact .inl (.inl (by rw [upd_ne (ne_of z h (Ne.symm (no xs)))]; exact z))
  · exact .inl (.inr ⟨u, by rw [upd_ne (ne_of z h (Ne.symm (nf u _)))]; exact z⟩)
  · exact .inr z, fun b xs hb => by
  rcases hb with ⟨u, z⟩ | z
  · exact .inl ⟨u, by rw [upd_ne (ne_of z h (Ne.symm (nf u _)))]; exact z⟩
  · exact .inr z⟩
theorem GRep.set {g : G} {n : Nat} {a : Addr} {o o' : HO} {u : GO} (r : GRep K ca μ H g) (hn : μ[n]? = some a) (h : H a = some o) (no : ∀ xs, o ≠ .tup xs) (nf : ∀ b u, o ≠ .frz b u) (ho : ORep K ca μ (upd H a o') a u) :
    GRep K ca μ (upd H a o') (g.set n u) := by
  refine ⟨by rw [List.length_set, r.len], r.nd, fun m b w h1 h2 => ?_⟩
  by_cases e : m = n
  · subst e
    rw [hn] at h1; cases h1
    have hl : m < g.length := by
      rw [← r.len]; exact (List.getElem?_eq_some_iff.mp hn).1
    rw [List.getElem?_set_self hl] at h2; cases h2
    exact ho
  · rw [List.getElem?_set_ne (Ne.symm e)] at h2
    have nb : b ≠ a := fun z => by
      subst z
      have e1 := (List.getElem?_eq_some_iff.mp h1)
      have e2 := (List.getElem?_eq_some_iff.mp hn)
      obtain ⟨l1, q1⟩ := e1
      obtain ⟨l2, q2⟩ := e2
      exact e ((List.getElem_inj r.nd).mp (q1.trans q2.symm))
    exact (r.obj m b w h1 h2).mono (ext_set h no nf) fun z hz => by rw [upd_ne nb]; exact hz

noncomputable abbrev XS := Xc → L2.St → Hp → Prop
noncomputable def FpW (X : Cx) (pins : List (Addr × Obj)) (H : Hp) (b : Addr) : Prop :=
  H b = none ∧ b ≠ X.env.locals ∧ b ∉ X.fs ∧ (b ∈ X.ex ∨ X.s₀.heap.get? b = none) ∧ (∀ x c, X.env.cells.lookup x = some c → c ≠ b) ∧ ∀ p ∈ X.pn ++ pins, p.1 ≠ b
structure Fl (X : Cx) (ca : Nat → Addr) (a : Addr) (x : Xc) (H : Hp) (h : Heap) : Prop where
  fp : FpW X [] H a
  ln : x.2 = none
  ex : ∃ oe vs, h.get? a = some oe ∧ XOb ca x oe ∧ oe.data = .fields vs ∧ 1 < vs.size ∧
    (vs[1]? = some .none ∨ ∃ T oT ts, vs[1]? = some (.ref T) ∧ T ≠ a ∧ FpW X [] H T ∧ h.get? T = some oT ∧ oT.data = .fields ts ∧ 3 < ts.size ∧ (ts[3]? = some .none ∨ ts[3]? = some (rawInt X.env.locals)))
noncomputable def XE (X : Cx) (ca : Nat → Addr) (Φ : XS) : Value → Shared → Prop := fun v s => ∃ a x σ H, v = .ref a ∧ Inv X [] σ H s ∧ Fl X ca a x H s.heap ∧ Φ x σ H
noncomputable abbrev xon (X : Cx) (pn : List (Addr × Obj)) : Cx := { X with pn := pn, xe := fun _ _ => False }
noncomputable abbrev xat (X : Cx) (ca : Nat → Addr) (pn : List (Addr × Obj)) (Φ : XS) : Cx := { X with pn := pn, xe := XE (xon X pn) ca Φ }
noncomputable def RaP (K : PySem.W.Frag) (ca : Nat → Addr) (Φ : XS) (σ : L2.St) (H : Hp) (μ : List Addr) (x : Xc) (g' : G) : Prop := ∀ H' μ', Ext K μ H μ' H' → GRep K ca μ' H' g' → Φ x σ H'
noncomputable def Post (K : PySem.W.Frag) (ca : Nat → Addr) (Φ : XS) (σ : L2.St) (Q : VK) (H : Hp) (μ : List Addr) : Res D → Prop
  | .ok d g' => ∀ v H' μ', Ext K μ H μ' H' → GRep K ca μ' H' g' → Den K μ' H' v d → Q v H'
  | .raise x g' => RaP K ca Φ σ H μ x g'
  | .stuck => False
noncomputable def PostT (K : PySem.W.Frag) (ca : Nat → Addr) (Φ : XS) (σ : L2.St) (Q : Bool → Hp → Prop) (H : Hp) (μ : List Addr) : Res Bool → Prop
  | .ok b g' => ∀ H' μ', Ext K μ H μ' H' → GRep K ca μ' H' g' → Q b H'
  | .raise x g' => RaP K ca Φ σ H μ x g'
  | .stuck => False
noncomputable def PostA (K : PySem.W.Frag) (ca : Nat → Addr) (Φ : XS) (σ : L2.St) (Q : List V → Hp → Prop) (H : Hp) (μ : List Addr) : Res (List D) → Prop
  | .ok ds g' => ∀ vs H' μ', Ext K μ H μ' H' → GRep K ca μ' H' g' → Dens K μ' H' vs ds → Q vs H'
  | .raise x g' => RaP K ca Φ σ H μ x g'
  | .stuck => False
noncomputable def PostS (K : PySem.W.Frag) (ca : Nat → Addr) (Φ : XS) (E : Ends) (H : Hp) (μ : List Addr) : Out → Prop
  | .nx σ3 g' => ∀ σ' H' μ', Ext K μ H μ' H' → Rep K ca μ' σ3 g' σ' H' → E.nx σ' H'
  | .bk σ3 g' => ∀ σ' H' μ', Ext K μ H μ' H' → Rep K ca μ' σ3 g' σ' H' → E.bk σ' H'
  | .ct σ3 g' => ∀ σ' H' μ', Ext K μ H μ' H' → Rep K ca μ' σ3 g' σ' H' → E.ct σ' H'
  | .rt d g' => ∀ v H' μ', Ext K μ H μ' H' → GRep K ca μ' H' g' → Den K μ' H' v d → E.rt v H'
  | .raise x σ3 g' => ∀ σ' H' μ', Ext K μ H μ' H' → Rep K ca μ' σ3 g' σ' H' → Φ x σ' H'
  | .stuck => False
noncomputable def up (K : PySem.W.Frag) (ca : Nat → Addr) (Φ : XS) (m : ME) : TE := fun σ H Q => ∃ σ3 g μ, Rep K ca μ σ3 g σ H ∧ Post K ca Φ σ Q H μ (m σ3 g)
noncomputable def upT (K : PySem.W.Frag) (ca : Nat → Addr) (Φ : XS) (m : MT) : TT := fun σ H Q => ∃ σ3 g μ, Rep K ca μ σ3 g σ H ∧ PostT K ca Φ σ Q H μ (m σ3 g)
noncomputable def upA (K : PySem.W.Frag) (ca : Nat → Addr) (Φ : XS) (m : MA) : TA := fun σ H Q => ∃ σ3 g μ, Rep K ca μ σ3 g σ H ∧ PostA K ca Φ σ Q H μ (m σ3 g)
noncomputable def upS (K : PySem.W.Frag) (ca : Nat → Addr) (Φ : XS) (m : MS) : TS := fun E σ H => ∃ σ3 g μ, Rep K ca μ σ3 g σ H ∧ PostS K ca Φ E H μ (m σ3 g)
noncomputable def PE3 (ca : Nat → Addr) (X : Cx) (e : Expr) (m : ME) : Prop := ∀ pn Φ, PE (xat X ca pn Φ) e (up X.K ca Φ m)
noncomputable def PT3 (ca : Nat → Addr) (X : Cx) (e : Expr) (m : MT) : Prop := ∀ pn Φ, PT (xat X ca pn Φ) e (upT X.K ca Φ m)
noncomputable def PW3 (ca : Nat → Addr) (X : Cx) (e : Expr) (m : MT) : Prop := ∀ pn Φ, PW (xat X ca pn Φ) e (upT X.K ca Φ m)
noncomputable def PA3 (ca : Nat → Addr) (X : Cx) (es : List Expr) (m : MA) : Prop := ∀ pn Φ, PA (xat X ca pn Φ) es (upA X.K ca Φ m)
noncomputable def PS3 (ca : Nat → Addr) (X : Cx) (st : Stmt) (m : MS) : Prop := ∀ pn Φ, PS (xat X ca pn Φ) st (upS X.K ca Φ m)
noncomputable def PSs3 (ca : Nat → Addr) (X : Cx) (sts : List Stmt) (m : MS) : Prop := ∀ pn Φ, PSs (xat X ca pn Φ) sts (upS X.K ca Φ m)
variable {Φ : XS} {σ : L2.St}
theorem RaP.go {x : Xc} {g' : G} (e : Ext K μ H μ' H') (h : RaP K ca Φ σ H μ x g') : RaP K ca Φ σ H' μ' x g' := fun H2 μ2 e2 => h H2 μ2 (e.trans e2)
theorem Post.go {Q : VK} {r : Res D} (e : Ext K μ H μ' H') (h : Post K ca Φ σ Q H μ r) : Post K ca Φ σ Q H' μ' r := by
  cases r with
  | ok d g' => exact fun v H2 μ2 e2 => h v H2 μ2 (e.trans e2)
  | raise _ _ => exact RaP.go e h
  | stuck => exact h
theorem PostT.go {Q : Bool → Hp → Prop} {r : Res Bool} (e : Ext K μ H μ' H') (h : PostT K ca Φ σ Q H μ r) : PostT K ca Φ σ Q H' μ' r := by
  cases r with
  | ok d g' => exact fun H2 μ2 e2 => h H2 μ2 (e.trans e2)
  | raise _ _ => exact RaP.go e h
  | stuck => exact h
theorem PostA.go {Q : List V → Hp → Prop} {r : Res (List D)} (e : Ext K μ H μ' H') (h : PostA K ca Φ σ Q H μ r) : PostA K ca Φ σ Q H' μ' r := by
  cases r with
  | ok d g' => exact fun v H2 μ2 e2 => h v H2 μ2 (e.trans e2)
  | raise _ _ => exact RaP.go e h
  | stuck => exact h
theorem PostS.go {E : Ends} {r : Out} (e : Ext K μ H μ' H') (h : PostS K ca Φ E H μ r) : PostS K ca Φ E H' μ' r := by
  cases r with
  | nx _ _ => exact fun v H2 μ2 e2 => h v H2 μ2 (e.trans e2)
  | bk _ _ => exact fun v H2 μ2 e2 => h v H2 μ2 (e.trans e2)
  | ct _ _ => exact fun v H2 μ2 e2 => h v H2 μ2 (e.trans e2)
  | rt _ _ => exact fun v H2 μ2 e2 => h v H2 μ2 (e.trans e2)
  | raise _ _ _ => exact fun v H2 μ2 e2 => h v H2 μ2 (e.trans e2)
  | stuck => exact h
theorem Post.pure {Q : VK} {g : G} {v : V} {d : D} (h : Post K ca Φ σ Q H μ (.ok d g)) (r : GRep K ca μ H g) (q : Den K μ H v d) : Q v H := h v H μ .refl r q
theorem RaP.stmt {x : Xc} {σ3 : S3} {g g' : G} {E : Ends} (R : Rep K ca μ σ3 g σ H) (h : PostS K ca Φ E H μ (.raise x σ3 g')) : RaP K ca Φ σ H μ x g' := fun H' μ' e r => h σ H' μ' e (R.go e r)
theorem up_bind {m : ME} {α : Type} {k : D → G → Res α} {σ3 : S3} {g : G} (R : Rep K ca μ σ3 g σ H) {P : Res α → Hp → List Addr → Prop} (hp : P ((m σ3 g).bind k) H μ)
    (hst : ∀ H μ, ¬ P .stuck H μ) (hra : ∀ e g H μ, P (.raise e g) H μ → RaP K ca Φ σ H μ e g) (hgo : ∀ r H μ H' μ', Ext K μ H μ' H' → P r H μ → P r H' μ') :
    up K ca Φ m σ H fun x H1 => ∃ d g1 μ1, Ext K μ H μ1 H1 ∧ Rep K ca μ1 σ3 g1 σ H1 ∧ Den K μ1 H1 x d ∧ P (k d g1) H1 μ1 := by
  refine ⟨σ3, g, μ, R, ?_⟩
  cases hm : m σ3 g with
  | ok d g1 =>
    rw [hm] at hp
    exact fun v H1 μ1 e1 r1 d1 => ⟨d, g1, μ1, e1, R.go e1 r1, d1, hgo _ _ _ _ _ e1 hp⟩
  | raise e g1 => rw [hm] at hp; exact hra _ _ _ _ hp
  | stuck => rw [hm] at hp; exact (hst _ _ hp).elim
theorem bindE {m : ME} {k : D → G → Res D} {σ3 : S3} {g : G} {Q : VK} (R : Rep K ca μ σ3 g σ H) (hp : Post K ca Φ σ Q H μ ((m σ3 g).bind k)) :
    up K ca Φ m σ H fun x H1 => ∃ d g1 μ1, Ext K μ H μ1 H1 ∧ Rep K ca μ1 σ3 g1 σ H1 ∧ Den K μ1 H1 x d ∧ Post K ca Φ σ Q H1 μ1 (k d g1) :=
  up_bind (P := fun r H μ => Post K ca Φ σ Q H μ r) R hp (fun _ _ h => h) (fun _ _ _ _ h => h) fun _ _ _ _ _ e h => h.go e
theorem bindT {m : ME} {k : D → G → Res Bool} {σ3 : S3} {g : G} {Q : Bool → Hp → Prop} (R : Rep K ca μ σ3 g σ H) (hp : PostT K ca Φ σ Q H μ ((m σ3 g).bind k)) :
    up K ca Φ m σ H fun x H1 => ∃ d g1 μ1, Ext K μ H μ1 H1 ∧ Rep K ca μ1 σ3 g1 σ H1 ∧ Den K μ1 H1 x d ∧ PostT K ca Φ σ Q H1 μ1 (k d g1) :=
  up_bind (P := fun r H μ => PostT K ca Φ σ Q H μ r) R hp (fun _ _ h => h) (fun _ _ _ _ h => h) fun _ _ _ _ _ e h => h.go e
theorem bindA {m : ME} {k : D → G → Res (List D)} {σ3 : S3} {g : G} {Q : List V → Hp → Prop} (R : Rep K ca μ σ3 g σ H) (hp : PostA K ca Φ σ Q H μ ((m σ3 g).bind k)) :
    up K ca Φ m σ H fun x H1 => ∃ d g1 μ1, Ext K μ H μ1 H1 ∧ Rep K ca μ1 σ3 g1 σ H1 ∧ Den K μ1 H1 x d ∧ PostA K ca Φ σ Q H1 μ1 (k d g1) :=
  up_bind (P := fun r H μ => PostA K ca Φ σ Q H μ r) R hp (fun _ _ h => h) (fun _ _ _ _ h => h) fun _ _ _ _ _ e h => h.go e
theorem upT_bind {m : MT} {α : Type} {k : Bool → G → Res α} {σ3 : S3} {g : G} (R : Rep K ca μ σ3 g σ H) {P : Res α → Hp → List Addr → Prop} (hp : P ((m σ3 g).bind k) H μ)
    (hst : ∀ H μ, ¬ P .stuck H μ) (hra : ∀ e g H μ, P (.raise e g) H μ → RaP K ca Φ σ H μ e g) (hgo : ∀ r H μ H' μ', Ext K μ H μ' H' → P r H μ → P r H' μ') :
    upT K ca Φ m σ H fun b H1 => ∃ g1 μ1, Ext K μ H μ1 H1 ∧ Rep K ca μ1 σ3 g1 σ H1 ∧ P (k b g1) H1 μ1 := by
  refine ⟨σ3, g, μ, R, ?_⟩
  cases hm : m σ3 g with
  | ok d g1 =>
    rw [hm] at hp
    exact fun H1 μ1 e1 r1 => ⟨g1, μ1, e1, R.go e1 r1, hgo _ _ _ _ _ e1 hp⟩
  | raise e g1 => rw [hm] at hp; exact hra _ _ _ _ hp
  | stuck => rw [hm] at hp; exact (hst _ _ hp).elim
theorem bindTE {m : MT} {k : Bool → G → Res D} {σ3 : S3} {g : G} {Q : VK} (R : Rep K ca μ σ3 g σ H) (hp : Post K ca Φ σ Q H μ ((m σ3 g).bind k)) :
    upT K ca Φ m σ H fun b H1 => ∃ g1 μ1, Ext K μ H μ1 H1 ∧ Rep K ca μ1 σ3 g1 σ H1 ∧ Post K ca Φ σ Q H1 μ1 (k b g1) :=
  upT_bind (P := fun r H μ => Post K ca Φ σ Q H μ r) R hp (fun _ _ h => h) (fun _ _ _ _ h => h) fun _ _ _ _ _ e h => h.go e
theorem bindTT {m : MT} {k : Bool → G → Res Bool} {σ3 : S3} {g : G} {Q : Bool → Hp → Prop} (R : Rep K ca μ σ3 g σ H) (hp : PostT K ca Φ σ Q H μ ((m σ3 g).bind k)) :
    upT K ca Φ m σ H fun b H1 => ∃ g1 μ1, Ext K μ H μ1 H1 ∧ Rep K ca μ1 σ3 g1 σ H1 ∧ PostT K ca Φ σ Q H1 μ1 (k b g1) :=
  upT_bind (P := fun r H μ => PostT K ca Φ σ Q H μ r) R hp (fun _ _ h => h) (fun _ _ _ _ h => h) fun _ _ _ _ _ e h => h.go e
theorem upA_bind {m : MA} {α : Type} {k : List D → G → Res α} {σ3 : S3} {g : G} (R : Rep K ca μ σ3 g σ H) {P : Res α → Hp → List Addr → Prop} (hp : P ((m σ3 g).bind k) H μ)
    (hst : ∀ H μ, ¬ P .stuck H μ) (hra : ∀ e g H μ, P (.raise e g) H μ → RaP K ca Φ σ H μ e g) (hgo : ∀ r H μ H' μ', Ext K μ H μ' H' → P r H μ → P r H' μ') :
    upA K ca Φ m σ H fun xs H1 => ∃ ds g1 μ1, Ext K μ H μ1 H1 ∧ Rep K ca μ1 σ3 g1 σ H1 ∧ Dens K μ1 H1 xs ds ∧ P (k ds g1) H1 μ1 := by
  refine ⟨σ3, g, μ, R, ?_⟩
  cases hm : m σ3 g with
  | ok d g1 =>
    rw [hm] at hp
    exact fun v H1 μ1 e1 r1 d1 => ⟨d, g1, μ1, e1, R.go e1 r1, d1, hgo _ _ _ _ _ e1 hp⟩
  | raise e g1 => rw [hm] at hp; exact hra _ _ _ _ hp
  | stuck => rw [hm] at hp; exact (hst _ _ hp).elim
theorem bindAE {m : MA} {k : List D → G → Res D} {σ3 : S3} {g : G} {Q : VK} (R : Rep K ca μ σ3 g σ H) (hp : Post K ca Φ σ Q H μ ((m σ3 g).bind k)) :
    upA K ca Φ m σ H fun xs H1 => ∃ ds g1 μ1, Ext K μ H μ1 H1 ∧ Rep K ca μ1 σ3 g1 σ H1 ∧ Dens K μ1 H1 xs ds ∧ Post K ca Φ σ Q H1 μ1 (k ds g1) :=
  upA_bind (P := fun r H μ => Post K ca Φ σ Q H μ r) R hp (fun _ _ h => h) (fun _ _ _ _ h => h) fun _ _ _ _ _ e h => h.go e
theorem bindAA {m : MA} {k : List D → G → Res (List D)} {σ3 : S3} {g : G} {Q : List V → Hp → Prop} (R : Rep K ca μ σ3 g σ H) (hp : PostA K ca Φ σ Q H μ ((m σ3 g).bind k)) :
    upA K ca Φ m σ H fun xs H1 => ∃ ds g1 μ1, Ext K μ H μ1 H1 ∧ Rep K ca μ1 σ3 g1 σ H1 ∧ Dens K μ1 H1 xs ds ∧ PostA K ca Φ σ Q H1 μ1 (k ds g1) :=
  upA_bind (P := fun r H μ => PostA K ca Φ σ Q H μ r) R hp (fun _ _ h => h) (fun _ _ _ _ h => h) fun _ _ _ _ _ e h => h.go e
theorem up_mono {m : ME} {Q Q' : VK} (h : up K ca Φ m σ H Q) (i : ∀ x H1, Q x H1 → Q' x H1) : up K ca Φ m σ H Q' := by
  obtain ⟨σ3, g, μ, R, p⟩ := h
  refine ⟨σ3, g, μ, R, ?_⟩
  cases hm : m σ3 g with
  | ok d g1 => rw [hm] at p; exact fun v H1 μ1 e r q => i _ _ (p v H1 μ1 e r q)
  | raise e g1 => rw [hm] at p; exact p
  | stuck => rw [hm] at p; exact p
theorem upT_mono {m : MT} {Q Q' : Bool → Hp → Prop} (h : upT K ca Φ m σ H Q) (i : ∀ x H1, Q x H1 → Q' x H1) : upT K ca Φ m σ H Q' := by
  obtain ⟨σ3, g, μ, R, p⟩ := h
  refine ⟨σ3, g, μ, R, ?_⟩
  cases hm : m σ3 g with
  | ok d g1 => rw [hm] at p; exact fun H1 μ1 e r => i _ _ (p H1 μ1 e r)
  | raise e g1 => rw [hm] at p; exact p
  | stuck => rw [hm] at p; exact p
theorem upA_mono {m : MA} {Q Q' : List V → Hp → Prop} (h : upA K ca Φ m σ H Q) (i : ∀ x H1, Q x H1 → Q' x H1) : upA K ca Φ m σ H Q' := by
  obtain ⟨σ3, g, μ, R, p⟩ := h
  refine ⟨σ3, g, μ, R, ?_⟩
  cases hm : m σ3 g with
  | ok d g1 => rw [hm] at p; exact fun v H1 μ1 e r q => i _ _ (p v H1 μ1 e r q)
  | raise e g1 => rw [hm] at p; exact p
  | stuck => rw [hm] at p; exact p
end
theorem conseq {X : Cx} {e : Expr} {t t' : TE} (h : PE X e t) (i : ∀ σ H Q, t' σ H Q → t σ H Q) : PE X e t' := fun pins s σ H Q I q => h pins s σ H Q I (i σ H Q q)
theorem conseqT {X : Cx} {e : Expr} {t t' : TT} (h : PT X e t) (i : ∀ σ H Q, t' σ H Q → t σ H Q) : PT X e t' := fun pins s σ H Q I q => h pins s σ H Q I (i σ H Q q)
theorem conseqW {X : Cx} {e : Expr} {t t' : TT} (h : PW X e t) (i : ∀ σ H Q, t' σ H Q → t σ H Q) : PW X e t' := fun w pins s σ H Q I q => h w pins s σ H Q I (i σ H Q q)
theorem conseqA {X : Cx} {e : List Expr} {t t' : TA} (h : PA X e t) (i : ∀ σ H Q, t' σ H Q → t σ H Q) : PA X e t' := fun p pins s σ H Q I q => h p pins s σ H Q I (i σ H Q q)
theorem conseqS {X : Cx} {e : Stmt} {t t' : TS} (h : PS X e t) (i : ∀ D σ H, t' D σ H → t D σ H) : PS X e t' := fun pins s σ H D I q => h pins s σ H D I (i D σ H q)
theorem conseqSs {X : Cx} {e : List Stmt} {t t' : TS} (h : PSs X e t) (i : ∀ D σ H, t' D σ H → t D σ H) : PSs X e t' := fun pins s σ H D I q => h pins s σ H D I (i D σ H q)

section
variable {X : Cx} {ca : Nat → Addr} {a b c e : Expr} {es rest : List Expr} {ma mb me : ME} {tc ta tb : MT} {mr : MA} {pos : Pos}
theorem r_var (i : Nat) {x : Str} (hN : X.N[i]? = some x := by rfl) (hv : Vis X.env.scope x := by first | exact Or.inl rfl | exact Or.inr (Or.inl rfl) | exact Or.inr (Or.inr rfl)) (hd : (x == ("__debug__" : Str)) = false := by decide)
    (hcd : (x == ("__classdict__" : Str)) = false := by decide) : PE3 ca X (.Name x pos) (mVar i) :=
  fun pn Φ => conseq (pe_var (X := xat X ca pn Φ) hN hv hd hcd) fun σ H Q hQ => by
    obtain ⟨σ3, g, μ, R, p⟩ := hQ
    unfold mVar at p
    cases e : σ3[i]? with
    | none => rw [e] at p; exact p.elim
    | some o =>
      cases o with
      | none => rw [e] at p; exact p.elim
      | some d =>
        rw [e] at p
        obtain ⟨v, h1, h2⟩ := R.st i d e
        exact ⟨v, h1, p v H μ .refl R.g h2⟩
theorem r_lit {v : V} {d : D} (h : ∀ pn Φ, PE (xat X ca pn Φ) e (tC v)) (hd : ∀ K μ H, Den K μ H v d) : PE3 ca X e (mLit d) :=
  fun pn Φ => conseq (h pn Φ) fun _ H _ ⟨_, _, μ, R, p⟩ => p v H μ .refl R.g (hd _ _ _)
theorem r_int {i : Int} {j : Nat} : PE3 ca X (.Constant (.int i) j pos) (mLit (.int i)) := r_lit (fun _ _ => pe_int) fun _ _ _ => .int i
theorem r_str {x : Str} {j : Nat} : PE3 ca X (.Constant (.str x) j pos) (mLit (.str x)) := r_lit (fun _ _ => pe_str) fun _ _ _ => .str x
theorem r_bl {x : Bool} {j : Nat} : PE3 ca X (.Constant (.bool x) j pos) (mLit (.bl x)) := r_lit (fun _ _ => pe_bl) fun _ _ _ => .bl x
theorem r_glob {x : Str} {v : V} {u : Value} {d : D} (hm : X.mg x = some u) (r : RelV v u) (hd' : ∀ K μ H, Den K μ H v d) (hg : Gl X x := by rfl) (hd : (x == ("__debug__" : Str)) = false := by decide) : PE3 ca X (.Name x pos) (mLit d) :=
  r_lit (fun pn Φ => pe_glob (X := xat X ca pn Φ) hg hm r hd) hd'
noncomputable def Prim2 (K : PySem.W.Frag) (ca : Nat → Addr) (r : R2) (f : D → D → G → Res D) : Prop :=
  ∀ (Φ : XS) (σ : L2.St) (H : Hp) (μ : List Addr) (g : G) (x y : V) (dx dy : D) (Q : VK), GRep K ca μ H g → Den K μ H x dx → Den K μ H y dy → Post K ca Φ σ Q H μ (f dx dy g) → r x y H Q
theorem up_op2 {K : PySem.W.Frag} {Φ : XS} {r : R2} {f : D → D → G → Res D} (hp : Prim2 K ca r f) (σ : L2.St) (H : Hp) (Q : VK) (h : up K ca Φ (mOp2 f ma mb) σ H Q) : tOp r (up K ca Φ ma) (up K ca Φ mb) σ H Q := by
  obtain ⟨σ3, g, μ, R, p⟩ := h
  refine up_mono (bindE R p) fun x H1 ⟨dx, g1, μ1, e1, R1, q1, p1⟩ => ?_
  refine up_mono (bindE R1 p1) fun y H2 ⟨dy, g2, μ2, e2, R2, q2, p2⟩ => ?_
  exact hp Φ σ H2 μ2 g2 x y dx dy Q R2.g (q1.mono e2) q2 p2
theorem r_bin {op : Operator} {r : R2} {f : D → D → G → Res D} (ho : ∀ pn Φ, OpR (xat X ca pn Φ) (binaryOp op) r) (hp : Prim2 X.K ca r f) (ha : PE3 ca X a ma) (hb : PE3 ca X b mb) : PE3 ca X (.BinOp a op b pos) (mOp2 f ma mb) :=
  fun pn Φ => conseq (pe_op (ho pn Φ) (ha pn Φ) (hb pn Φ)) (up_op2 hp)
theorem r_ix {r : R2} {f : D → D → G → Res D} (ho : ∀ pn Φ, IxR (xat X ca pn Φ) r) (hp : Prim2 X.K ca r f) (ha : PE3 ca X a ma) (hb : PE3 ca X b mb) (hs : PlainIx b := by exact fun _ _ => rfl) : PE3 ca X (.Subscript a b pos) (mOp2 f ma mb) :=
  fun pn Φ => conseq (pe_ix (ho pn Φ) (ha pn Φ) (hb pn Φ) hs) (up_op2 hp)
theorem r_nil : PA3 ca X [] mNil := fun pn Φ => conseqA (pa_nil (X := xat X ca pn Φ)) fun _ H _ ⟨_, _, μ, R, p⟩ => p [] H μ .refl R.g .nil
theorem r_cons (ha : PE3 ca X e me) (hr : PA3 ca X es mr) (hs : starEach (e :: es) X.env = (false, eval e X.env) :: starEach es X.env := by rfl) : PA3 ca X (e :: es) (mCons me mr) :=
  fun pn Φ => conseqA (pa_cons (X := xat X ca pn Φ) (ha pn Φ) (hr pn Φ) hs) fun σ H Q ⟨σ3, g, μ, R, p⟩ => up_mono (bindA R p) fun x H1 ⟨d, g1, μ1, e1, R1, q1, p1⟩ =>
    upA_mono (bindAA R1 p1) fun xs H2 ⟨ds, g2, μ2, e2, R2, q2, p2⟩ => p2 (x :: xs) H2 μ2 .refl R2.g (.cons (q1.mono e2) q2)
theorem r_test (ha : PE3 ca X a ma) (he : ∀ whole, isTrue a X.env whole = (do let v ← whole; standAt a.pos; holding [v] (truthy v)) := by intro _; rfl) : PT3 ca X a (mTest ma) :=
  fun pn Φ => conseqT (pt_val (X := xat X ca pn Φ) (ha pn Φ) he) fun σ H Q ⟨σ3, g, μ, R, p⟩ => up_mono (bindT R p) fun x H1 hQ => by
    obtain ⟨d, g1, μ1, e1, R1, q1, p1⟩ := hQ
    cases q1 with
    | bl b => exact ⟨b, rfl, p1 H1 μ1 .refl R1.g⟩
    | _ => exact p1.elim
theorem r_testC {op : CmpOp} {r : R2} {f : D → D → G → Res D} (ho : ∀ pn Φ, OpR (xat X ca pn Φ) (compareOp op) r) (hp : Prim2 X.K ca r f) (ha : PE3 ca X a ma) (hb : PE3 ca X b mb) (hm : behindInMarks op b = false) : PT3 ca X (.Compare a [op] [b] pos) (mTest (mOp2 f ma mb)) :=
  fun pn Φ => conseqT (pt_cmpR (ho pn Φ) (ha pn Φ) (hb pn Φ) hm) fun σ H Q hQ => by
    obtain ⟨σ3, g, μ, R, p⟩ := hQ
    have q : up X.K ca Φ (mOp2 f ma mb) σ H fun x H' => ∃ k, x = .bl k ∧ Q k H' := up_mono (bindT R p) fun x H1 hQ => by
      obtain ⟨d, g1, μ1, e1, R1, q1, p1⟩ := hQ
      cases q1 with
      | bl b => exact ⟨b, rfl, p1 H1 μ1 .refl R1.g⟩
      | _ => exact p1.elim
    exact up_op2 hp σ H _ q
theorem r_notT (ha : PT3 ca X a ta) : PT3 ca X (.UnaryOp .Not a pos) (mNotT ta) :=
  fun pn Φ => conseqT (pt_not (X := xat X ca pn Φ) (ha pn Φ)) fun σ H Q ⟨σ3, g, μ, R, p⟩ => upT_mono (bindTT R p) fun b H1 ⟨g1, μ1, e1, R1, p1⟩ => p1 H1 μ1 .refl R1.g
theorem r_orT1 (ha : PT3 ca X a ta) : PW3 ca X (.BoolOp .Or [a] pos) ta := fun pn Φ => pw_or1 (X := xat X ca pn Φ) (ha pn Φ)
theorem r_orT (ha : PT3 ca X a ta) (hb : PW3 ca X (.BoolOp .Or (b :: rest) pos) tb) : PW3 ca X (.BoolOp .Or (a :: b :: rest) pos) (mOrT ta tb) :=
  fun pn Φ => conseqW (pw_or (X := xat X ca pn Φ) (ha pn Φ) (hb pn Φ)) fun σ H Q ⟨σ3, g, μ, R, p⟩ => upT_mono (bindTT R p) fun b H1 hQ => by
    obtain ⟨g1, μ1, e1, R1, p1⟩ := hQ
    cases b with
    | true => rw [if_pos rfl] at p1 ⊢; exact p1 H1 μ1 .refl R1.g
    | false => rw [if_neg Bool.false_ne_true] at p1 ⊢; exact ⟨σ3, g1, μ1, R1, p1⟩
theorem r_w (h : PW3 ca X e ta) : PT3 ca X e ta := fun pn Φ => (h pn Φ).pt
theorem r_ifE (hc : PT3 ca X c tc) (ha : PE3 ca X a ma) (hb : PE3 ca X b mb) : PE3 ca X (.IfExp c a b pos) (mIfE tc ma mb) :=
  fun pn Φ => conseq (pe_ifExp (X := xat X ca pn Φ) (hc pn Φ) (ha pn Φ) (hb pn Φ)) fun σ H Q ⟨σ3, g, μ, R, p⟩ => upT_mono (bindTE R p) fun b H1 hQ => by
    obtain ⟨g1, μ1, e1, R1, p1⟩ := hQ
    cases b with
    | true => rw [if_pos rfl] at p1 ⊢; exact ⟨σ3, g1, μ1, R1, p1⟩
    | false => rw [if_neg Bool.false_ne_true] at p1 ⊢; exact ⟨σ3, g1, μ1, R1, p1⟩
theorem sz_line : SZ ≤ sizeLine := by rw [sizeLine_eq]; decide
theorem Dens.sz {K : PySem.W.Frag} {μ : List Addr} {H : Hp} {vs : List V} {ds : List D} (h : Dens K μ H vs ds) (z : ds.length ≤ SZ) : vs.length ≤ sizeLine := by rw [h.length]; exact Nat.le_trans z sz_line
theorem r_tup {k : Nat} (h : PA3 ca X es mr) : PE3 ca X (.Tuple es k pos) (mOpA pTup mr) :=
  fun pn Φ => conseq (pe_tup (X := xat X ca pn Φ) (h pn Φ)) fun σ H Q ⟨σ3, g, μ, R, p⟩ => upA_mono (bindAE R p) fun xs H1 hQ => by
    obtain ⟨ds, g1, μ1, e1, R1, q1, p1⟩ := hQ
    unfold pTup at p1
    by_cases z : ds.length ≤ SZ
    · rw [if_pos z] at p1
      exact ⟨q1.sz z, fun t ht => p1 _ _ μ1 (ext_new ht) (R1.g.new ht) (.tup (.of upd_same) (q1.mono (ext_new ht)))⟩
    · rw [if_neg z] at p1; exact p1.elim
theorem r_lst (h : PA3 ca X es mr) : PE3 ca X (.List es pos) (mOpA newL mr) :=
  fun pn Φ => conseq (pe_lst (X := xat X ca pn Φ) (h pn Φ)) fun σ H Q ⟨σ3, g, μ, R, p⟩ => upA_mono (bindAE R p) fun xs H1 hQ => by
    obtain ⟨ds, g1, μ1, e1, R1, q1, p1⟩ := hQ
    unfold newL at p1
    by_cases z : ds.length ≤ SZ
    · rw [if_pos z] at p1
      refine ⟨q1.sz z, fun t ht => p1 _ _ (μ1 ++ [t]) (ext_push ht) (R1.g.push ht ⟨xs, upd_same, q1.mono (ext_push ht)⟩) (.ref ?_)⟩
      rw [← R1.g.len]; simp
    · rw [if_neg z] at p1; exact p1.elim
end
end L3

end
section
namespace L3
open PySem PySem.Spec PyProof.Rows L2
section
variable {X : Cx} {ca : Nat → Addr} {pins : List (Addr × Obj)} {σ : L2.St} {H : Hp} {s : Shared} {a : Addr} {x : Xc} {E : Value → Shared → Prop}
theorem inv_on {pn : List (Addr × Obj)} {Φ : XS} (I : Inv (xat X ca pn Φ) pins σ H s) : Inv (xon X pn) pins σ H s := (Inv.wish I fun _ _ => False)
theorem fpW_of {b : Addr} {H' : Hp} (I : Inv X pins σ H s) (hb : s.heap.get? b = none) (hn : H' b = none) : FpW X pins H' b := by
  refine ⟨hn, fun z => ?_, fun z => ?_, ?_, fun x c e z => ?_, fun p hp z => ?_⟩
  · obtain ⟨m, ⟨o, _, _, ho, _⟩, _⟩ := I.loc
    rw [z, ho] at hb; cases hb
  · obtain ⟨_, o, ho, _⟩ := I.funs.mem z
    rw [ho] at hb; cases hb
  · by_cases hx : b ∈ X.ex
    · exact .inl hx
    · refine .inr ?_
      cases q : X.s₀.heap.get? b with
      | none => rfl
      | some o =>
        obtain ⟨o', e'⟩ := I.base.there b o q hx
        rw [e'] at hb; cases hb
  · obtain ⟨v, o, ho, _⟩ := I.cell x c e
    rw [z, hb] at ho; cases ho
  · rw [← z, (I.pin p hp).1] at hb; cases hb
theorem inv_stepW {H' : Hp} {h' : Heap} {g' : Array GenState} {t' : Nat} {d' : Drawn} {ch : List Addr} (I : Inv X pins σ H s)
    (hch : ∀ b ∈ ch, (b ∈ X.ex ∨ X.s₀.heap.get? b = none) ∧ b ≠ X.env.locals ∧ (∀ x c, X.env.cells.lookup x = some c → c ≠ b) ∧ ∀ p ∈ X.pn ++ pins, p.1 ≠ b)
    (keep : ∀ b o, b ≠ X.env.locals → b ∉ X.fs → b ∉ ch → s.heap.get? b = some o → H b = none → h'.get? b = some o)
    (slot : ∀ b o, b ≠ X.env.locals → b ∈ X.fs → b ∉ ch → s.heap.get? b = some o → H b = none → ∃ sl, h'.get? b = some { o with slots := sl }) (free : ∀ b o, b ∉ ch → s.heap.get? b = some o → H b = none → H' b = none)
    (there : ∀ b o, b ∉ ch → s.heap.get? b = some o → ∃ o', h'.get? b = some o')
    (tups : ∀ b xs, H b = some (.tup xs) → H' b = some (.tup xs)) (frzs : ∀ b o u, H b = some (.frz o u) → H' b = some (.frz o u)) (tbls : ∀ b ps, H b = some (.tbl ps) → ∃ more, H' b = some (.tbl (ps ++ more)))
    (ns : ∀ m, s.heap.Ns X.env.locals m → h'.Ns X.env.locals m) (hok : HOk X.prog X.w H' h') (hg : AllBare g') :
    Inv X pins σ H' { s with heap := h', gens := g', drawn := d', toks := t' } := by
  have neL : ∀ b o, X.s₀.heap.get? b = some o → b ≠ X.env.locals := fun b o e => Nat.ne_of_lt (Nat.lt_of_lt_of_le (Heap.lt_size e) I.ok.above)
  have neC : ∀ b o, X.s₀.heap.get? b = some o → b ∉ X.ex → b ∉ ch := fun b o e hx hb => by
    rcases (hch b hb).1 with z | z
    · exact hx z
    · rw [z] at e; cases e
  have cellK : ∀ x c, X.env.cells.lookup x = some c → ∀ v, s.heap.IsCell c v → h'.IsCell c v := fun x c e v hQ => by
    obtain ⟨o, ho, hd⟩ := hQ
    have nch : c ∉ ch := fun z => (hch c z).2.2.1 x c e rfl
    by_cases hc : c ∈ X.fs
    · obtain ⟨sl, q⟩ := slot c o (I.cne x c e) hc nch ho (I.freeC x c e)
      exact ⟨_, q, hd⟩
    · exact ⟨o, keep c o (I.cne x c e) hc nch ho (I.freeC x c e), hd⟩
  refine ⟨I.ok, I.os, hg, ⟨fun b o e n hb hx => ?_, fun b o e n hb hx => ?_, fun b o e n hx => ?_, fun b o e hx => ?_, fun b xs e => tups b xs (I.base.tups b xs e), fun b o xs e => frzs b o xs (I.base.frzs b o xs e), fun b ps e => ?_⟩, ?_, fun x c e => ?_, ?_, fun x c e => ?_, fun p hp => ?_, hok, I.len⟩
  · exact keep b o (neL b o e) hb (neC b o e hx) (I.base.keep b o e n hb hx) (I.base.free b o e n hx)
  · obtain ⟨sl, e1⟩ := I.base.slot b o e n hb hx
    obtain ⟨sl', e2⟩ := slot b _ (neL b o e) hb (neC b o e hx) e1 (I.base.free b o e n hx)
    exact ⟨sl', e2⟩
  · obtain ⟨o', e1⟩ := I.base.there b o e hx
    exact free b o' (neC b o e hx) e1 (I.base.free b o e n hx)
  · obtain ⟨o', e1⟩ := I.base.there b o e hx
    exact there b o' (neC b o e hx) e1
  · obtain ⟨m1, e1⟩ := I.base.tbls b ps e
    obtain ⟨m2, e2⟩ := tbls b _ e1
    exact ⟨m1 ++ m2, by rw [e2, Array.append_assoc]⟩
  · obtain ⟨m, hn, hl⟩ := I.loc
    refine ⟨m, ns m hn, fun i x v e1 e2 e3 => ?_⟩
    obtain ⟨u, r, l⟩ := hl i x v e1 e2 e3
    refine ⟨u, r, ?_⟩
    rcases l with l | ⟨k, c, e, z⟩
    · exact .inl l
    · exact .inr ⟨k, c, e, cellK x c e _ z⟩
  · obtain ⟨v, z⟩ := I.cell x c e
    exact ⟨v, cellK x c e v z⟩
  · obtain ⟨m, ⟨o, _, _, ho, _⟩, _⟩ := I.loc
    exact free _ o (fun z => (hch _ z).2.1 rfl) ho I.free
  · obtain ⟨v, o, ho, hd⟩ := I.cell x c e
    exact free c o (fun z => (hch c z).2.2.1 x c e rfl) ho (I.freeC x c e)
  · obtain ⟨e, n, ne, nf, d⟩ := I.pin p hp
    have nch : p.1 ∉ ch := fun z => (hch p.1 z).2.2.2 p hp rfl
    exact ⟨keep p.1 p.2 ne nf nch e n, free p.1 p.2 nch e n, ne, nf, d⟩
theorem inv_mess {ch : List Addr} {h' : Heap} (I : Inv X pins σ H s) (hch : ∀ b ∈ ch, FpW X pins H b) (keep : ∀ b o, b ∉ ch → b ≠ X.env.locals → b ∉ X.fs → s.heap.get? b = some o → h'.get? b = some o)
    (slot : ∀ b o, b ∉ ch → s.heap.get? b = some o → ∃ sl, h'.get? b = some { o with slots := sl }) : Inv X pins σ H { s with heap := h' } := by
  have nl : X.env.locals ∉ ch := fun z => (hch _ z).2.1 rfl
  have nt : ∀ b v, H b = some v → b ∉ ch := fun b v e z => by rw [(hch b z).1] at e; cases e
  have nf : ∀ b v, H b = some v → b ∉ X.fs := fun b v e z => by
    obtain ⟨_, o, ho, _⟩ := I.ok.funs.mem z
    have := I.base.free b o ho (I.ok.frf b z) fun q => I.ok.exfs b q z
    rw [this] at e; cases e
  have nL : ∀ b v, H b = some v → b ≠ X.env.locals := fun b v e z => by rw [z, I.free] at e; cases e
  refine inv_stepW (h' := h') (H' := H) (g' := s.gens) (t' := s.toks) (d' := s.drawn) (ch := ch) I (fun b hb => ⟨(hch b hb).2.2.2.1, (hch b hb).2.1, (hch b hb).2.2.2.2.1, (hch b hb).2.2.2.2.2⟩) (fun b o h1 h2 h3 e _ => keep b o h3 h1 h2 e) (fun b o _ _ h3 e _ => slot b o h3 e)
    (fun b o _ _ n => n) (fun b o h e => let ⟨sl, q⟩ := slot b o h e; ⟨_, q⟩) (fun b v e => e) (fun b o v e => e) (fun b ps e => ⟨#[], by rw [e]; simp⟩) (fun m hm => ?_) (fun b v e => ?_) I.bare
  · obtain ⟨o, es, ep, ho, rr⟩ := hm
    obtain ⟨sl, q⟩ := slot _ o nl ho
    exact ⟨_, es, ep, q, rr⟩
  · refine (I.hok b v e).stay (fun c' v' hc' q => ?_) (fun c' q => q) fun c' xs' q => q
    rcases hc' with rfl | hc'
    · exact keep _ _ (nt _ _ e) (nL _ _ e) (nf _ _ e) q
    · exact keep _ _ (nt _ _ hc') (nL _ _ hc') (nf _ _ hc') q
noncomputable def FlN (X : Cx) (ca : Nat → Addr) (a : Addr) (x : Xc) (H : Hp) (h : Heap) : Prop :=
  FpW X [] H a ∧ x.2 = none ∧ ∃ oe vs T oT ts, h.get? a = some oe ∧ XOb ca x oe ∧ oe.data = .fields vs ∧ vs[1]? = some (.ref T) ∧ T ≠ a ∧ FpW X [] H T ∧ h.get? T = some oT ∧ oT.data = .fields ts ∧ ts[3]? = some (rawInt X.env.locals)
noncomputable def FlT (X : Cx) (ca : Nat → Addr) (a : Addr) (x : Xc) (H : Hp) (h : Heap) : Prop :=
  FpW X [] H a ∧ x.2 = none ∧ ∃ oe vs T oT ts, h.get? a = some oe ∧ XOb ca x oe ∧ oe.data = .fields vs ∧ vs[1]? = some (.ref T) ∧ T ≠ a ∧ FpW X [] H T ∧ h.get? T = some oT ∧ oT.data = .fields ts ∧ 3 < ts.size
theorem FlN.t {h : Heap} (f : FlN X ca a x H h) : FlT X ca a x H h := by
  obtain ⟨f1, f2, oe, vs, T, oT, ts, e1, e2, e3, e4, e5, e6, e7, e8, e9⟩ := f
  exact ⟨f1, f2, oe, vs, T, oT, ts, e1, e2, e3, e4, e5, e6, e7, e8, (Array.getElem?_eq_some_iff.mp e9).1⟩
theorem FlN.fl {h : Heap} (f : FlN X ca a x H h) : Fl X ca a x H h := by
  obtain ⟨f1, f2, oe, vs, T, oT, ts, e1, e2, e3, e4, e5, e6, e7, e8, e9⟩ := f
  exact ⟨f1, f2, oe, vs, e1, e2, e3, (Array.getElem?_eq_some_iff.mp e4).1, .inr ⟨T, oT, ts, e4, e5, e6, e7, e8, (Array.getElem?_eq_some_iff.mp e9).1, .inr e9⟩⟩
theorem upd_fields {h : Heap} {b : Addr} {o : Obj} {ts : Array Value} (i : Nat) (v : Value) (e : h.get? b = some o) (d : o.data = .fields ts) :
    (h.update b (Obj.mapFields (·.setIfInBounds i v))).get? b = some (o.mapFields (·.setIfInBounds i v)) ∧ (o.mapFields (·.setIfInBounds i v)).data = .fields (ts.setIfInBounds i v) ∧ (o.mapFields (·.setIfInBounds i v)).cls = o.cls :=
  ⟨Heap.get?_update_self _ e (Obj.isFreed_of_fields (Obj.data_mapFields d _)), Obj.data_mapFields d _, Obj.cls_mapFields _ _⟩
theorem note_new {base : Heap} {env : Env} {outer : List Env} {L : Addr} {oe : Obj} {vs : Array Value} {head : Value} {hn : Bool} {M : Model} {A : Around} {Q : Unit → Shared → Prop} (hfr : A.frames = some (env :: outer)) (hl : s.heap.FunFrames base (env :: outer)) (hf : env.frame = some L)
    (he : s.heap.get? a = some oe) (hd : oe.data = .fields vs) (hsz : 1 < vs.size) (ha : a ∉ (env :: outer).filterMap (·.frame))
    (k : ∀ h₁ (cells : Array Value), Heap.SlotsOnly ((env :: outer).filterMap (·.frame)) s.heap h₁ → cells[3]? = some (rawInt L) →
      Q () { s with heap := (h₁.push { cls := .type "traceback", dict := none, data := .fields cells }).update a (Obj.mapFields (·.setIfInBounds 1 (.ref h₁.objs.size))) }) :
    wpAny M A (do let fv ← frameOf env; let pl ← entryPlaceOf L hn; let b ← EntryCells.newEntry head fv .none (rawInt L) .none pl; setField (.ref a) 1 b) Q E s := by
  refine wpAny_bind (wpAny_frameOf_fun hfr hl hf fun h₁ so => wpAny_bind (wpAny_entryPlaceOf fun pl hpl => ?_))
  unfold EntryCells.newEntry newFields
  refine wpAny_bind (wpAny_newObj_type ?_ (hpl.sizeOk5 _ _ _ _ _))
  have e1 : h₁.get? a = some oe := (so.2.1 a ha).trans he
  refine wpAny_setField (Heap.get?_push_of_some _ e1) hd hsz (k h₁ _ so ?_)
  first
    | (simp; done)
    | (rcases hpl with rfl | ⟨_, _, _, _, _, _, _, rfl⟩ <;> simp)
theorem note_fl {M : Model} {Q : Unit → Shared → Prop} (I : Inv X [] σ H s) (hk : X.stack = X.env :: X.outer) (hf : X.env.frame = some X.env.locals) (fl : Fl X ca a x H s.heap)
    (k : ∀ h', Inv X [] σ H { s with heap := h' } → FlN X ca a x H h' → Q () { s with heap := h' }) : wpAny M X.A (noteFrame (.ref a) X.env) Q E s := by
  obtain ⟨fp, ln, oe, vs, he, hc, hd, hsz, hv⟩ := fl
  have hfr : X.A.frames = some (X.env :: X.outer) := by rw [← hk]; exact I.ok.frames
  have hst : s.heap.FunFrames X.base (X.env :: X.outer) := by rw [← hk]; exact I.stack
  have hfs : (X.env :: X.outer).filterMap (·.frame) = X.env.locals :: X.fs := by rw [List.filterMap_cons, hf]; rfl
  have ha : a ∉ (X.env :: X.outer).filterMap (·.frame) := by
    rw [hfs]
    intro z
    rcases List.mem_cons.mp z with z | z
    · exact fp.2.1 z
    · exact fp.2.2.1 z
  -- an entry is laid over a heap that differs from s at ch alone
  have fin : ∀ (h0 h₁ : Heap) (cells : Array Value) (ch : List Addr), (∀ b ∈ ch, FpW X [] H b) → (∀ b o, b ∉ ch → s.heap.get? b = some o → h0.get? b = some o) → h0.objs.size = s.heap.objs.size → h0.get? a = some oe →
      Heap.SlotsOnly ((X.env :: X.outer).filterMap (·.frame)) h0 h₁ → cells[3]? = some (rawInt X.env.locals) →
      Q () { s with heap := (h₁.push { cls := .type "traceback", dict := none, data := .fields cells }).update a (Obj.mapFields (·.setIfInBounds 1 (.ref h₁.objs.size))) } := by
    intro h0 h₁ cells ch hch hk0 hz he0 so hcl
    have e1 : h₁.get? a = some oe := (so.2.1 a ha).trans he0
    obtain ⟨u1, u2, u3⟩ := upd_fields 1 (.ref h₁.objs.size) (Heap.get?_push_of_some { cls := .type "traceback", dict := none, data := .fields cells } e1) hd
    have hTa : h₁.objs.size ≠ a := Nat.ne_of_gt (Heap.lt_size e1)
    have oth : ∀ b o, b ≠ a → h₁.get? b = some o → ((h₁.push { cls := .type "traceback", dict := none, data := .fields cells }).update a (Obj.mapFields (·.setIfInBounds 1 (.ref h₁.objs.size)))).get? b = some o := fun b o hb e =>
      (Heap.get?_update_other _ _ (Ne.symm hb)).trans (Heap.get?_push_of_some _ e)
    refine k _ (inv_mess (ch := a :: ch) I (fun b hb => ?_) (fun b o h1 h2 h3 e => ?_) fun b o h1 e => ?_) ⟨fp, ln, _, _, h₁.objs.size, _, cells, u1, hc.map _, u2, by simp [hsz], hTa, ?_, (Heap.get?_update_other _ _ (Ne.symm hTa)).trans (Heap.get?_push_size _ rfl), rfl, hcl⟩
    · rcases List.mem_cons.mp hb with e | e
      · rw [e]; exact fp
      · exact hch b e
    · refine oth b o (fun z => h1 (by rw [z]; exact List.mem_cons_self)) ?_
      rw [so.2.1 b (by rw [hfs]; intro z; rcases List.mem_cons.mp z with z | z; (· exact h2 z); exact h3 z)]
      exact hk0 b o (fun z => h1 (List.mem_cons_of_mem _ z)) e
    · obtain ⟨sl, q⟩ := so.2.2 b o (hk0 b o (fun z => h1 (List.mem_cons_of_mem _ z)) e)
      exact ⟨sl, oth b _ (fun z => h1 (by rw [z]; exact List.mem_cons_self)) q⟩
    · refine fpW_of I (Heap.get?_none_of_le ?_) (I.hok.fresh ?_) <;> rw [so.1, hz] <;> exact Nat.le_refl _
  unfold noteFrame
  simp only [hf]
  rcases hv with hv | ⟨T, oT, ts, hv, hTa, fT, hT, hdT, hs3, h3⟩
  · refine wpAny_bind (wpAny_field he hd hv ?_)
    rw [if_neg (by decide)]
    exact note_new hfr hst hf he hd hsz ha fun h₁ cells so hcl => fin s.heap h₁ cells [] (by simp) (fun _ _ _ e => e) rfl he so hcl
  · refine wpAny_bind (wpAny_field he hd hv ?_)
    rw [if_pos (show (Value.ref T != Value.none) = true from by simp)]
    rcases h3 with h3 | h3
    · refine wpAny_bind (wpAny_field hT hdT h3 ?_)
      rw [if_neg (show ¬ ((Value.none == rawInt X.env.locals) = true) from by simp [rawInt])]
      refine wpAny_bind (wpAny_setField hT hdT hs3 ?_)
      have oth : ∀ b o, b ≠ T → s.heap.get? b = some o → (s.heap.update T (Obj.mapFields (·.setIfInBounds 3 Value.none))).get? b = some o := fun b o hb e => (Heap.get?_update_other _ _ (Ne.symm hb)).trans e
      have kp : ∀ b o, s.heap.get? b = some o → (∀ vs, o.data ≠ .fields vs) → (s.heap.update T (Obj.mapFields (·.setIfInBounds 3 Value.none))).get? b = some o := fun b o e n => oth b o (fun z => by rw [z, hT] at e; cases e; exact n _ hdT) e
      refine note_new (s := { s with heap := s.heap.update T (Obj.mapFields (·.setIfInBounds 3 Value.none)) }) hfr (hst.of_keeps fun b o e n => ⟨o, kp b o e n, rfl⟩) hf (oth a oe (Ne.symm hTa) he) hd hsz ha fun h₁ cells so hcl => ?_
      exact fin _ h₁ cells [T] (fun b hb => by rw [List.mem_singleton.mp hb]; exact fT) (fun b o hb e => oth b o (fun z => hb (by simp [z])) e) (Heap.size_after_update ..) (oth a oe (Ne.symm hTa) he) so hcl
    · refine wpAny_bind (wpAny_field hT hdT h3 ?_)
      rw [if_pos (show (rawInt X.env.locals == rawInt X.env.locals) = true from by simp)]
      exact wpAny_pure (k s.heap I ⟨fp, ln, oe, vs, T, oT, ts, he, hc, hd, hv, hTa, fT, hT, hdT, h3⟩)
theorem flight_fl {M : Model} {A : Around} {Q : Unit → Shared → Prop} {fo : Option Addr} (I : Inv X [] σ H s) (fl : FlT X ca a x H s.heap) (k : ∀ h' T oT ts oe vs, Inv X [] σ H { s with heap := h' } → h'.get? a = some oe → XOb ca x oe → oe.data = .fields vs → vs[1]? = some (.ref T) → T ≠ a → FpW X [] H T →
      h'.get? T = some oT → oT.data = .fields ts → 3 < ts.size → ts[3]? = some (fo.elim Value.none fun f => rawInt f) → Q () { s with heap := h' }) : wpAny M A (setFlight (.ref a) fo) Q E s := by
  obtain ⟨fp, ln, oe, vs, T, oT, ts, he, hc, hd, hv, hTa, fT, hT, hdT, hs3⟩ := fl
  unfold setFlight
  refine wpAny_bind (wpAny_field he hd hv ?_)
  rw [if_pos (show (Value.ref T != Value.none) = true from by simp)]
  have oth : ∀ b o, b ≠ T → s.heap.get? b = some o → (s.heap.update T (Obj.mapFields (·.setIfInBounds 3 (fo.elim Value.none fun f => rawInt f)))).get? b = some o := fun b o hb e => (Heap.get?_update_other _ _ (Ne.symm hb)).trans e
  obtain ⟨u1, u2, u3⟩ := upd_fields 3 (fo.elim Value.none fun f => rawInt f) hT hdT
  refine wpAny_setField hT hdT hs3 (k _ T _ _ oe vs (inv_mess (ch := [T]) I (fun b hb => by rw [List.mem_singleton.mp hb]; exact fT) (fun b o h1 _ _ e => oth b o (fun z => h1 (by simp [z])) e) fun b o h1 e => ⟨o.slots, oth b o (fun z => h1 (by simp [z])) e⟩)
    (oth a oe (Ne.symm hTa) he) hc hd hv hTa fT u1 u2 (by simpa using hs3) (by simp [hs3]))
theorem own_at (hk : X.stack = X.env :: X.outer) (hf : X.env.frame = some X.env.locals) (pn : List (Addr × Obj)) (Φ : XS) : PassesOwn (model X.prog X.w) X.A X.env (xat X ca pn Φ).xe := by
  rintro v s ⟨a, x, σ, H, rfl, I, fl, q⟩
  refine note_fl (X := xon X pn) I hk hf fl fun h1 I1 f1 => ?_
  unfold cameBackBy
  obtain ⟨fp, ln, oe, vs, T, oT, ts, he, hc, hd, hv, hTa, fT, hT, hdT, h3⟩ := id f1
  refine wpAny_bind (wpAny_field he hd hv ?_)
  rw [if_neg (show ¬ ((Value.ref T == Value.none) = true) from by simp)]
  refine flight_fl (X := xon X pn) (fo := X.env.frame) I1 f1.t fun h2 T oT ts oe vs I2 a1 a2 a3 a4 a5 a6 a7 a8 a9 a10 => ?_
  rw [hf] at a10
  exact ⟨a, x, σ, H, rfl, I2, FlN.fl ⟨fp, ln, oe, vs, T, oT, ts, a1, a2, a3, a4, a5, a6, a7, a8, a10⟩, q⟩
end
noncomputable def CXW (P : Program) (w : World) (ca : Nat → Addr) : CXT := fun outer H s E v s' => ∃ (a : Addr) (x : Xc) (H' : Hp), v = .ref a ∧ s'.os = s.os ∧ AllBare s'.gens ∧ Un (frs outer) [] H H' s.heap s'.heap ∧ HOk P w H' s'.heap ∧ x.2 = none ∧
  (∃ oe vs T oT ts, s.heap.get? a = none ∧ H' a = none ∧ s'.heap.get? a = some oe ∧ XOb ca x oe ∧ oe.data = .fields vs ∧ vs[1]? = some (.ref T) ∧ T ≠ a ∧ s.heap.get? T = none ∧ H' T = none ∧ s'.heap.get? T = some oT ∧ oT.data = .fields ts ∧ ts[3]? = some .none) ∧
  E (.int x.1 0) x.2 H'
section
variable {P : Program} {w : World} {K : PySem.W.Frag} {mg : Str → Option Value} {base : Heap} {ca : Nat → Addr}
theorem leave_fl {N : List Str} {qual : Str} {scope : Scope} {f : Addr} {cd : Value} {A : Around} {outer : List Env} {s s' : Shared} {H : Hp} {E : XK} {v : Value}
    (h : XE (xon (cxOf (CXW P w ca) P w K mg base N qual scope f cd A outer s H E) []) ca (fun x _ H' => E (.int x.1 0) x.2 H') v s') : (cxOf (CXW P w ca) P w K mg base N qual scope f cd A outer s H E).xe v s' := by
  obtain ⟨a, x, σ, H', rfl, I, fl, q⟩ := h
  show wpAny _ _ (leaving _ (.ref a)) _ _ s'
  unfold leaving
  refine wpAny_bind (note_fl I rfl rfl fl fun h1 I1 f1 => ?_)
  obtain ⟨fp, ln, _⟩ := id f1
  refine flight_fl (fo := none) I1 f1.t fun h2 T oT ts oe vs I2 a1 a2 a3 a4 a5 a6 a7 a8 a9 a10 => ?_
  refine ⟨a, x, H', rfl, I2.os, I2.bare, I2.base, I2.hok, ln, ⟨oe, vs, T, oT, ts, ?_, fp.1, a1, a2, a3, a4, a5, ?_, a6.1, a7, a8, a10⟩, q⟩
  · rcases fp.2.2.2.1 with z | z
    · exact absurd (show a ∈ ([] : List Addr) from z) (by simp)
    · exact z
  · rcases a6.2.2.2.1 with z | z
    · exact absurd (show T ∈ ([] : List Addr) from z) (by simp)
    · exact z
end
section
variable {X : Cx} {ca : Nat → Addr} {pn : List (Addr × Obj)} {Φ : XS}
theorem pass_fl {pins : List (Addr × Obj)} {σ : L2.St} {H : Hp} {s s' : Shared} {v : Value} (I : Inv (xat X ca pn Φ) pins σ H s) (h : CXW X.prog X.w ca X.stack H s (fun c l H' => ∀ x : Xc, c = .int x.1 0 → l = x.2 → Φ x σ H') v s') : (xat X ca pn Φ).xe v s' := by
  obtain ⟨a, x, H', rfl, os, bare, un, hok, ln, ⟨oe, vs, T, oT, ts, e1, e2, e3, e4, e5, e6, e7, e8, e9, e10, e11, e12⟩, q⟩ := h
  have I0 : Inv (xon X pn) [] σ H s := (inv_on I).pins_of fun p hp => absurd hp (by simp)
  have I1 : Inv (xon X pn) [] σ H' s' := Inv.call' (ch := []) I0 os un hok bare fun b z => absurd z (by simp)
  refine ⟨a, x, σ, H', rfl, I1, ⟨fpW_of I0 e1 e2, ln, oe, vs, e3, e4, e5, (Array.getElem?_eq_some_iff.mp e6).1, .inr ⟨T, oT, ts, e6, e7, fpW_of I0 e8 e9, e10, e11, (Array.getElem?_eq_some_iff.mp e12).1, .inl e12⟩⟩, q x rfl rfl⟩
end
end L3

end
section
namespace L3
open PySem PySem.Spec PyProof.Rows L2
section
variable {X : Cx} {ca : Nat → Addr} {a b c e : Expr} {st : Stmt} {sts rest : List Stmt} {ma mb me : ME} {tc : MT} {m m' : MS} {pos : Pos}
theorem r_nilS : PSs3 ca X [] mSkip := fun pn Φ => conseqSs (pss_nil (X := xat X ca pn Φ)) fun _ σ H ⟨_, _, μ, R, p⟩ => p σ H μ .refl R
theorem seq_up {K : PySem.W.Frag} {Φ : XS} (E : Ends) (σ : L2.St) (H : Hp) (h : upS K ca Φ (mSeq m m') E σ H) : tSeq (upS K ca Φ m) (upS K ca Φ m') E σ H := by
  obtain ⟨σ3, g, μ, R, p⟩ := h
  refine ⟨σ3, g, μ, R, ?_⟩
  unfold mSeq at p
  cases hm : m σ3 g with
  | nx σ1 g1 =>
    rw [hm] at p
    exact fun σ' H' μ' e' R' => ⟨σ1, g1, μ', R', PostS.go e' p⟩
  | rt d g1 => rw [hm] at p; exact p
  | bk _ _ => rw [hm] at p; exact p
  | ct _ _ => rw [hm] at p; exact p
  | raise _ _ _ => rw [hm] at p; exact p
  | stuck => rw [hm] at p; exact p
theorem r_consS (h1 : PS3 ca X st m) (h2 : PSs3 ca X rest m') : PSs3 ca X (st :: rest) (mSeq m m') := fun pn Φ => conseqSs (pss_cons (X := xat X ca pn Φ) (h1 pn Φ) (h2 pn Φ)) seq_up
theorem r_oneS (h1 : PS3 ca X st m) : PSs3 ca X [st] m := fun pn Φ => pss_one (X := xat X ca pn Φ) (h1 pn Φ)
theorem r_expr (he : PE3 ca X e me) (hs : swapsWith e none pos.line X.env = pure false := by rfl) : PS3 ca X (.Expr e pos) (mExpr me) :=
  fun pn Φ => conseqS (ps_expr (X := xat X ca pn Φ) (he pn Φ) hs) fun E σ H ⟨σ3, g, μ, R, p⟩ => ⟨σ3, g, μ, R, by
    unfold mExpr at p
    cases hm : me σ3 g with
    | ok d g1 => rw [hm] at p; exact fun v H' μ' e' r' _ => p σ H' μ' e' (R.go e' r')
    | raise _ _ => rw [hm] at p; exact RaP.stmt R p
    | stuck => rw [hm] at p; exact p⟩
theorem r_ret (he : PE3 ca X e me) : PS3 ca X (.Return (some e) pos) (mRet me) :=
  fun pn Φ => conseqS (ps_ret (X := xat X ca pn Φ) (he pn Φ)) fun E σ H ⟨σ3, g, μ, R, p⟩ => ⟨σ3, g, μ, R, by
    unfold mRet at p
    cases hm : me σ3 g with
    | ok d g1 => rw [hm] at p; exact p
    | raise _ _ => rw [hm] at p; exact RaP.stmt R p
    | stuck => rw [hm] at p; exact p⟩
theorem r_if {sa sb : List Stmt} (hc : PT3 ca X c tc) (ha : PSs3 ca X sa m) (hb : PSs3 ca X sb m') : PS3 ca X (.If c sa sb pos) (mIf tc m m') :=
  fun pn Φ => conseqS (ps_if (X := xat X ca pn Φ) (hc pn Φ) (ha pn Φ) (hb pn Φ)) fun E σ H ⟨σ3, g, μ, R, p⟩ => ⟨σ3, g, μ, R, by
    unfold mIf at p
    cases hm : tc σ3 g with
    | ok d g1 =>
      rw [hm] at p
      cases d with
      | true => exact fun H' μ' e' r' => by show (if true = true then _ else _); rw [if_pos rfl]; exact ⟨σ3, g1, μ', R.go e' r', PostS.go e' (by simpa using p)⟩
      | false => exact fun H' μ' e' r' => by show (if false = true then _ else _); rw [if_neg Bool.false_ne_true]; exact ⟨σ3, g1, μ', R.go e' r', PostS.go e' (by simpa using p)⟩
    | raise _ _ => rw [hm] at p; exact RaP.stmt R p
    | stuck => rw [hm] at p; exact p⟩
noncomputable def upG (K : PySem.W.Frag) (ca : Nat → Addr) (f : MG) : TG := fun v σ H Q => ∃ σ3 g μ d σ3', Rep K ca μ σ3 g σ H ∧ Den K μ H v d ∧ f d σ3 = some σ3' ∧ ∀ σ', Rep K ca μ σ3' g σ' H → Q σ' H
noncomputable def PG3 (ca : Nat → Addr) (X : Cx) (tg : Expr) (f : MG) : Prop := ∀ pn Φ, PG (xat X ca pn Φ) tg (upG X.K ca f)
theorem conseqG {X : Cx} {tg : Expr} {t t' : TG} (h : PG X tg t) (i : ∀ v σ H Q, t' v σ H Q → t v σ H Q) : PG X tg t' := fun pins s σ H x u Q I r q => h pins s σ H x u Q I r (i x σ H Q q)
theorem Rep.set {K : PySem.W.Frag} {μ : List Addr} {σ3 : S3} {g : G} {σ : L2.St} {H : Hp} {v : V} {d : D} (R : Rep K ca μ σ3 g σ H) (h : Den K μ H v d) (i : Nat) : Rep K ca μ (σ3.set i (some d)) g (σ.set i (some v)) H := by
  refine ⟨R.g, by rw [List.length_set, List.length_set, R.len], fun j x hx => ?_⟩
  by_cases e : j = i
  · subst e
    have hl : j < σ3.length := by
      have := (List.getElem?_eq_some_iff.mp hx).1
      simpa using this
    rw [List.getElem?_set_self hl] at hx
    cases hx
    exact ⟨v, by rw [List.getElem?_set_self (by rw [R.len]; exact hl)], h⟩
  · rw [List.getElem?_set_ne (Ne.symm e)] at hx
    obtain ⟨w, h1, h2⟩ := R.st j x hx
    exact ⟨w, by rw [List.getElem?_set_ne (Ne.symm e)]; exact h1, h2⟩
theorem r_gset (i : Nat) {x : Str} (hN : X.N.Nodup) (hi : X.N[i]? = some x := by rfl) (hx : Loc X.env.scope x := by first | exact Or.inl rfl | exact Or.inr rfl)
    (hf : X.fn x = true ∨ X.env.scope.names.lookup x = some .local := by first | exact .inl rfl | exact .inr rfl) : PG3 ca X (.Name x pos) (gSet i) :=
  fun pn Φ => conseqG (pg_name (X := xat X ca pn Φ) hN hi hx hf) fun v σ H Q hQ => by
    obtain ⟨σ3, g, μ, d, σ3', R, q, e, k⟩ := hQ
    cases e
    exact k _ (R.set q i)
noncomputable def upGs (K : PySem.W.Frag) (ca : Nat → Addr) (fs : List MG) : TGs := fun vs σ H Q => ∃ σ3 g μ ds σ3', Rep K ca μ σ3 g σ H ∧ Dens K μ H vs ds ∧ gSets fs ds σ3 = some σ3' ∧ ∀ σ', Rep K ca μ σ3' g σ' H → Q σ' H
noncomputable def PGs3 (ca : Nat → Addr) (X : Cx) (tgs : List Expr) (fs : List MG) : Prop := ∀ pn Φ, PGs (xat X ca pn Φ) tgs (upGs X.K ca fs)
theorem conseqGs {X : Cx} {tg : List Expr} {t t' : TGs} (h : PGs X tg t) (i : ∀ v σ H Q, t' v σ H Q → t v σ H Q) : PGs X tg t' := fun pins s σ H xs us Q I r q => h pins s σ H xs us Q I r (i xs σ H Q q)
theorem r_gnil : PGs3 ca X [] [] := fun pn Φ => conseqGs (pgs_nil (X := xat X ca pn Φ)) fun vs σ H Q hQ => by
  obtain ⟨σ3, g, μ, ds, σ3', R, q, e, k⟩ := hQ
  cases q with
  | nil => cases e; exact ⟨rfl, k _ R⟩
  | cons _ _ => cases e
theorem r_gcons {es : List Expr} {f : MG} {fs : List MG} (h1 : PG3 ca X e f) (h2 : PGs3 ca X es fs)
    (hs : (assignEach (e :: es) X.env).map (·.2) = assign e X.env :: (assignEach es X.env).map (·.2) := by rfl) : PGs3 ca X (e :: es) (f :: fs) :=
  fun pn Φ => conseqGs (pgs_cons (X := xat X ca pn Φ) (h1 pn Φ) (h2 pn Φ) hs) fun vs σ H Q hQ => by
    obtain ⟨σ3, g, μ, ds, σ3', R, q, e, k⟩ := hQ
    cases q with
    | nil => cases e
    | @cons v d vs ds q1 q2 =>
      unfold gSets at e
      cases hf : f d σ3 with
      | none => rw [hf] at e; cases e
      | some σ4 =>
        rw [hf] at e
        exact ⟨v, vs, rfl, σ3, g, μ, d, σ4, R, q1, hf, fun σ' R' => ⟨σ4, g, μ, ds, σ3', R', q2, e, k⟩⟩
theorem gSets_len : ∀ {fs : List MG} {ds : List D} {σ σ' : S3}, gSets fs ds σ = some σ' → ds.length = fs.length
  | [], [], _, _, _ => rfl
  | [], _ :: _, _, _, h => by cases h
  | _ :: _, [], _, _, h => by cases h
  | f :: fs, d :: ds, σ, σ', h => by
    unfold gSets at h
    cases hf : f d σ with
    | none => rw [hf] at h; cases h
    | some σ4 =>
      rw [hf] at h
      rw [List.length_cons, List.length_cons, gSets_len (fs := fs) h]
theorem r_gtup {es : List Expr} {k : Nat} {fs : List MG} (hc : X.calm = true) (h : PGs3 ca X es fs) (hn : (assignEach es X.env).length = fs.length := by rfl)
    (hst : (assignEach es X.env).findIdx? (·.1) = none := by rfl) : PG3 ca X (.Tuple es k pos) (gTup3 fs) :=
  fun pn Φ => conseqG (pg_tup (X := xat X ca pn Φ) hc (h pn Φ) hn hst) fun v σ H Q hQ => by
    obtain ⟨σ3, g, μ, d, σ3', R, q, e, kk⟩ := hQ
    cases q with
    | @tup a vs ds ht hs =>
      exact ⟨a, vs, rfl, ht, hs.length.trans (gSets_len e), σ3, g, μ, ds, σ3', R, hs, e, kk⟩
    | _ => cases e
theorem asg_up {K : PySem.W.Frag} {Φ : XS} {f : MG} (E : Ends) (σ : L2.St) (H : Hp) (h : upS K ca Φ (mAsg f me) E σ H) : tAsg (up K ca Φ me) (upG K ca f) E σ H := by
  obtain ⟨σ3, g, μ, R, p⟩ := h
  refine ⟨σ3, g, μ, R, ?_⟩
  unfold mAsg at p
  cases hm : me σ3 g with
  | ok d g1 =>
    rw [hm] at p
    dsimp only at p
    intro v H' μ' e' r' q'
    cases hf : f d σ3 with
    | none => rw [hf] at p; exact p.elim
    | some σ4 =>
      rw [hf] at p
      exact ⟨σ3, g1, μ', d, σ4, R.go e' r', q', hf, fun σ' R' => p σ' H' μ' e' R'⟩
  | raise _ _ => rw [hm] at p; exact RaP.stmt R p
  | stuck => rw [hm] at p; exact p
theorem r_asg {tg : Expr} {f : MG} (he : PE3 ca X e me) (hg : PG3 ca X tg f) (hs : swapsWithSole [tg] e pos.line X.env = pure false := by rfl) (hw : swappedStores [tg] e X.env = pure none := by rfl)
    (h1 : (assignEach [tg] X.env).map (·.2) = [assign tg X.env] := by rfl) : PS3 ca X (.Assign [tg] e pos) (mAsg f me) :=
  fun pn Φ => conseqS (ps_asg (X := xat X ca pn Φ) (he pn Φ) (hg pn Φ) hs hw h1) asg_up
theorem r_set (i : Nat) {x : Str} {pos' : Pos} (hN : X.N.Nodup) (he : PE3 ca X e me) (hi : X.N[i]? = some x := by rfl) (hx : Loc X.env.scope x := by first | exact Or.inl rfl | exact Or.inr rfl)
    (hs : swapsWith e (some (.Name x pos')) pos.line X.env = pure false := by rfl) (hf : X.fn x = true ∨ X.env.scope.names.lookup x = some .local := by first | exact .inl rfl | exact .inr rfl) :
    PS3 ca X (.Assign [.Name x pos'] e pos) (mAsg (gSet i) me) :=
  fun pn Φ => conseqS (ps_set (X := xat X ca pn Φ) hN hi hx (he pn Φ) hs hf) fun E σ H h => by
    obtain ⟨σ3, g, μ, R, p⟩ := h
    refine ⟨σ3, g, μ, R, ?_⟩
    unfold mAsg gSet at p
    cases hm : me σ3 g with
    | ok d g1 =>
      rw [hm] at p
      exact fun v H' μ' e' r' q' => p _ H' μ' e' ((R.go e' r').set q' i)
    | raise _ _ => rw [hm] at p; exact RaP.stmt R p
    | stuck => rw [hm] at p; exact p
theorem FRel.look {K : PySem.W.Frag} {μ : List Addr} {H : Hp} {f : Str} {d : D} : ∀ {fv : List (Str × V)} {fs : List (Str × D)}, FRel K μ H fv fs → fs.lookup f = some d → ∃ v, fv.lookup f = some v ∧ Den K μ H v d
  | _, _, .nil, h => by cases h
  | (k, v) :: r, (k', d') :: r', .cons ⟨e, q⟩ t, h => by
    have e : k = k' := e
    subst e
    cases hb : f == k with
    | true =>
      simp only [List.lookup, hb] at h ⊢
      cases h
      exact ⟨v, rfl, q⟩
    | false =>
      simp only [List.lookup, hb] at h ⊢
      exact FRel.look t h
theorem FRel.no {K : PySem.W.Frag} {μ : List Addr} {H : Hp} {f : Str} : ∀ {fv : List (Str × V)} {fs : List (Str × D)}, FRel K μ H fv fs → fs.lookup f = Option.none → fv.lookup f = Option.none
  | _, _, .nil, _ => rfl
  | (k, v) :: r, (k', d') :: r', .cons ⟨e, q⟩ t, h => by
    have e : k = k' := e
    subst e
    cases hb : f == k with
    | true => simp only [List.lookup, hb] at h; cases h
    | false =>
      simp only [List.lookup, hb] at h ⊢
      exact FRel.no t h
theorem FRel.put {K : PySem.W.Frag} {μ : List Addr} {H : Hp} {f : Str} {v : V} {d : D} (q : Den K μ H v d) : ∀ {fv : List (Str × V)} {fs : List (Str × D)}, FRel K μ H fv fs → FRel K μ H (putF f v fv) (putG f d fs)
  | _, _, .nil => .cons ⟨rfl, q⟩ .nil
  | (k, w) :: r, (k', d') :: r', .cons ⟨e, z⟩ t => by
    have e : k = k' := e
    subst e
    show FRel K μ H (if k = f then (k, v) :: r else (k, w) :: putF f v r) (if k = f then (k, d) :: r' else (k, d') :: putG f d r')
    by_cases h : k = f
    · rw [if_pos h, if_pos h]; exact .cons ⟨rfl, q⟩ t
    · rw [if_neg h, if_neg h]; exact .cons ⟨rfl, z⟩ (FRel.put q t)
theorem r_setIx {o i : Expr} {mo mi : ME} {pos' : Pos} (ho : PE3 ca X o mo) (hi : PE3 ca X i mi) (he : PE3 ca X e me) (hs : swapsWithSole [.Subscript o i pos'] e pos.line X.env = pure false := by rfl)
    (hw : swappedStores [.Subscript o i pos'] e X.env = pure none := by rfl) (h1 : (assignEach [.Subscript o i pos'] X.env).map (·.2) = [assign (.Subscript o i pos') X.env] := by rfl)
    (ha : ∀ v, assign (.Subscript o i pos') X.env v = (do
      let ov ← holding [v] (eval o X.env)
      let iv ← holding [v, ov] (eval i X.env)
      standAt pos'
      holding [v, ov, iv] (setItem ov iv v)
      release [v, ov, iv] []) := by intro _; rfl) : PS3 ca X (.Assign [.Subscript o i pos'] e pos) (mSetIx mo mi me) :=
  fun pn Φ => conseqS (ps_asg (X := xat X ca pn Φ) (he pn Φ) (pg_sub (X := xat X ca pn Φ) (ho pn Φ) (hi pn Φ) set_list ha) hs hw h1) fun E σ H ⟨σ3, g, μ, R, p⟩ => ⟨σ3, g, μ, R, by
    unfold mSetIx at p
    cases hm : me σ3 g with
    | ok y g1 =>
      rw [hm] at p
      dsimp only at p
      intro vy H1 μ1 e1 r1 q1
      refine ⟨σ3, g1, μ1, R.go e1 r1, ?_⟩
      cases hm2 : mo σ3 g1 with
      | ok d g2 =>
        rw [hm2] at p
        intro vx H2 μ2 e2 r2 q2
        cases q2 with
        | @ref n a hn =>
          dsimp only at p
          refine ⟨σ3, g2, μ2, R.go (e1.trans e2) r2, ?_⟩
          cases hm3 : mi σ3 g2 with
          | ok di g3 =>
            rw [hm3] at p
            intro vi H3 μ3 e3 r3 q3
            cases q3 with
            | int k =>
              dsimp only at p
              cases hg : g3[n]? with
              | none => rw [hg] at p; exact p.elim
              | some ob =>
                rw [hg] at p
                obtain ⟨a', ha', orp⟩ := r3.addr hg
                rw [e3.at hn] at ha'; cases ha'
                cases ob with
                | lst ds =>
                  dsimp only at p
                  obtain ⟨vs, hH, q⟩ := orp
                  cases hj : ixD ds.length k with
                  | none => rw [hj] at p; exact p.elim
                  | some j =>
                    rw [hj] at p
                    have ex : Ext X.K μ3 H3 μ3 (upd H3 a (.lst (vs.set j vy))) := ext_set hH (by intro _ z; cases z) (by intro _ _ z; cases z)
                    refine ⟨a, vs, k, j, rfl, rfl, hH, by rw [q.length]; exact hj, ?_⟩
                    refine p σ _ μ3 (((e1.trans e2).trans e3).trans ex) ((R.go ((e1.trans e2).trans e3) r3).go ex ?_)
                    exact r3.set (e3.at hn) hH (by intro _ z; cases z) (by intro _ _ z; cases z) ⟨_, upd_same, Dens.set (((q1.mono e2).mono e3).mono ex) j (q.mono ex)⟩
                | _ => exact p.elim
            | _ => exact p.elim
          | raise _ _ => rw [hm3] at p; exact (RaP.stmt R p).go (e1.trans e2)
          | stuck => rw [hm3] at p; exact p
        | _ => exact p.elim
      | raise _ _ => rw [hm2] at p; exact (RaP.stmt R p).go e1
      | stuck => rw [hm2] at p; exact p
    | raise _ _ => rw [hm] at p; exact RaP.stmt R p
    | stuck => rw [hm] at p; exact p⟩
noncomputable def Sim (K : PySem.W.Frag) (ca : Nat → Addr) (μ0 : List Addr) (H0 : Hp) (src : Src) (J : It) : Prop :=
  ∀ (i : Nat) (H : Hp) (μ : List Addr) (g : G), Ext K μ0 H0 μ H → GRep K ca μ H g → match src.at' g i with
    | some (some d) => J.go i H ∧ ∀ x H', J.yld i H x H' → Ext K μ H μ H' ∧ GRep K ca μ H' g ∧ Den K μ H' x d
    | some none => J.stop i H
    | none => True
noncomputable def upI (K : PySem.W.Frag) (ca : Nat → Addr) (Φ : XS) (m : MI) : TI := fun σ H R => ∃ σ3 g μ, Rep K ca μ σ3 g σ H ∧ match m σ3 g with
  | .ok src g' => ∀ J H' μ', Ext K μ H μ' H' → GRep K ca μ' H' g' → Sim K ca μ' H' src J → R J H'
  | .raise x g' => RaP K ca Φ σ H μ x g'
  | .stuck => False
noncomputable def PI3 (ca : Nat → Addr) (X : Cx) (tg iter : Expr) (m : MI) : Prop := ∀ pn Φ, PI (xat X ca pn Φ) tg iter (upI X.K ca Φ m)
theorem r_for {tg iter : Expr} {body : List Stmt} {mi : MI} {f : MG} (hc : X.calm = true) (hi : PI3 ca X tg iter mi) (hg : PG3 ca X tg f) (hb : PSs3 ca X body m) (hs : ∀ x, foldedSetIterable iter X.env x = pure x := by intro _; rfl) (hk : X.stack = X.env :: X.outer := by rfl) (hf : X.env.frame = some X.env.locals := by rfl) :
    PS3 ca X (.For tg iter body [] pos) (mFor mi f m) :=
  fun pn Φ => conseqS (ps_for (X := xat X ca pn Φ) (own_at hk hf pn Φ) hc (hi pn Φ) (hg pn Φ) (hb pn Φ) hs) fun E σ H ⟨σ3, g, μ, R, p⟩ => ⟨σ3, g, μ, R, by
    unfold mFor at p
    cases hm : mi σ3 g with
    | ok src g' =>
      rw [hm] at p
      dsimp only at p ⊢
      intro J H' μ' e' r' sim
      refine ⟨fun i n σ1 H1 => ∃ σ4 g1 μ1, Ext X.K μ' H' μ1 H1 ∧ Rep X.K ca μ1 σ4 g1 σ1 H1 ∧ PostS X.K ca Φ E H1 μ1 (forL src f m n i σ4 g1), ⟨src.top + 1, σ3, g', μ', .refl, R.go e' r', p.go e'⟩, ?_⟩
      rintro i n σ1 H1 ⟨σ4, g1, μ1, e1, R1, p1⟩
      have s1 := sim i H1 μ1 g1 e1 R1.g
      cases n with
      | zero => exact p1.elim
      | succ n =>
        unfold forL at p1
        cases ha : src.at' g1 i with
        | none => rw [ha] at p1; exact p1.elim
        | some od =>
          rw [ha] at p1 s1
          cases od with
          | none => exact .inl ⟨s1, p1 σ1 H1 μ1 .refl R1⟩
          | some d =>
            dsimp only at p1 s1
            obtain ⟨go, yl⟩ := s1
            refine .inr ⟨go, fun σ2 H2 => ∃ σ5 g2 μ2, Ext X.K μ' H' μ2 H2 ∧ Rep X.K ca μ2 σ5 g2 σ2 H2 ∧ PostS X.K ca Φ E H2 μ2 (forL src f m n (i + 1) σ5 g2), fun σ2 H2 z => ⟨n, Nat.lt_succ_self n, z⟩, fun x H2 y => ?_⟩
            obtain ⟨e2, r2, q2⟩ := yl x H2 y
            cases hf : f d σ4 with
            | none => rw [hf] at p1; exact p1.elim
            | some σ5 =>
              rw [hf] at p1
              dsimp only at p1
              refine ⟨σ4, g1, μ1, d, σ5, R1.go e2 r2, q2, hf, fun σ6 R6 => ⟨σ5, g1, μ1, R6, ?_⟩⟩
              cases hb : m σ5 g1 with
              | nx σ7 g7 =>
                rw [hb] at p1
                exact fun σ' H3 μ3 e3 R3 => ⟨σ7, g7, μ3, (e1.trans e2).trans e3, R3, PostS.go (e2.trans e3) p1⟩
              | ct σ7 g7 =>
                rw [hb] at p1
                exact fun σ' H3 μ3 e3 R3 => ⟨σ7, g7, μ3, (e1.trans e2).trans e3, R3, PostS.go (e2.trans e3) p1⟩
              | bk σ7 g7 =>
                rw [hb] at p1
                exact fun σ' H3 μ3 e3 R3 => p1 σ' H3 μ3 (e2.trans e3) R3
              | rt d7 g7 =>
                rw [hb] at p1
                exact fun v H3 μ3 e3 r3 q3 => p1 v H3 μ3 (e2.trans e3) r3 q3
              | raise _ _ _ =>
                rw [hb] at p1
                exact fun σ' H3 μ3 e3 R3 => p1 σ' H3 μ3 (e2.trans e3) R3
              | stuck => rw [hb] at p1; exact p1
    | raise _ _ => rw [hm] at p; exact RaP.stmt R p
    | stuck => rw [hm] at p; exact p⟩
end
end L3

end
section
namespace L3
open PySem PySem.Spec PyProof.Rows L2
noncomputable def spM (K : PySem.W.Frag) (ca : Nat → Addr) (n : Nat) (F : MF) : Sp := fun vs H Q E => vs.length = n ∧ ∃ ds g μ, GRep K ca μ H g ∧ Dens K μ H vs ds ∧ match F ds g with
  | .ok d g' => ∀ v H' μ', Ext K μ H μ' H' → GRep K ca μ' H' g' → Den K μ' H' v d → Q v H'
  | .raise x g' => ∀ H' μ', Ext K μ H μ' H' → GRep K ca μ' H' g' → E (.int x.1 0) x.2 H'
  | .stuck => False
theorem start_rep {K : PySem.W.Frag} {ca : Nat → Addr} {μ : List Addr} {H : Hp} {g : G} {vs : List V} {ds : List D} (N : List Str) (r : GRep K ca μ H g) (q : Dens K μ H vs ds) : Rep K ca μ (ds.map some ++ List.replicate (N.length - vs.length) none) g (L2.start N vs) H := by
  unfold L2.start
  refine ⟨r, ?_, fun i d h => ?_⟩
  · rw [List.length_append, List.length_append, List.length_map, List.length_map, q.length, List.length_replicate, List.length_replicate]
  · by_cases hi : i < ds.length
    · rw [List.getElem?_append_left (by simpa using hi), List.getElem?_map] at h
      cases hd : ds[i]? with
      | none => rw [hd] at h; cases h
      | some d' =>
        rw [hd] at h; cases h
        obtain ⟨v, h1, h2⟩ := q.get hd
        refine ⟨v, ?_, h2⟩
        rw [List.getElem?_append_left (by simpa [q.length] using hi), List.getElem?_map, h1]; rfl
    · rw [List.getElem?_append_right (by simpa using hi), List.getElem?_replicate] at h
      split at h <;> cases h
structure FnH (P : Program) (w : World) (K : PySem.W.Frag) (mg : Str → Option Value) (base : Heap) (ca : Nat → Addr) (x : Str) (k n : Nat) (F : MF) : Prop where
  ex : ∃ (f : Addr) (fd : FuncData) (ps : List Str), FnOk P w K mg base (CXW P w ca) k f fd ps (spM K ca n F) ∧ mg x = some (.ref f) ∧ PySem.W.keepIn K (.ref f) = true ∧ Binds K fd ps []
  st : ∀ ds g, ds.length ≠ n → F ds g = .stuck
theorem mDef_st (k n : Nat) (m : MS) : ∀ ds g, ds.length ≠ k → mDef k n m ds g = .stuck := fun ds g h => by unfold mDef; rw [if_neg h]
theorem FnH.mono {P : Program} {w : World} {K : PySem.W.Frag} {mg : Str → Option Value} {base : Heap} {ca : Nat → Addr} {x : Str} {j k n : Nat} {F : MF} (h : FnH P w K mg base ca x j n F) (hj : j ≤ k) : FnH P w K mg base ca x k n F := by
  obtain ⟨f, fd, ps, a, b⟩ := h.ex
  exact ⟨⟨f, fd, ps, a.mono hj, b⟩, h.st⟩
section
variable {P : Program} {w : World} {K : PySem.W.Frag} {mg : Str → Option Value} {base : Heap} {ca : Nat → Addr}
theorem pss_leave {N : List Str} {qual : Str} {scope : Scope} {f : Addr} {cd : Value} {A : Around} {outer : List Env} {s : Shared} {H : Hp} {E : XK} {body : List Stmt} {t : TS}
    (h : PSs (xat (cxOf (CXW P w ca) P w K mg base N qual scope f cd A outer s H E) ca [] (fun x _ H' => E (.int x.1 0) x.2 H')) body t) : PSs (cxOf (CXW P w ca) P w K mg base N qual scope f cd A outer s H E) body t := fun pins s1 σ H1 D I q =>
  wpAny_mono (h pins s1 σ H1 D (Inv.wish I _) q) (fun _ _ z => SP.unwish (X := cxOf (CXW P w ca) P w K mg base N qual scope f cd A outer s H E) z) fun _ _ z => leave_fl z
theorem fn_ok {x qual : Str} {st : Stmt} {f : Addr} {fd : FuncData} {N ps : List Str} {k n j : Nat} {m : MS} (F : Fun K x qual st f fd) (S : FnScope N ps (defScope st)) (hj : ps.length = j) (hn : N.length - ps.length = n)
    (h : ∀ (cdv : Value) (A : Around) (outer : List Env) (s : Shared) (H : Hp) (E : XK), Room k (A.deeper (envOfC qual (defScope st) s.heap.objs.size f cdv)) →
      PSs3 ca (cxOf (CXW P w ca) P w K mg base N qual (defScope st) f cdv A outer s H E) (defBody st) m) : FnOk P w K mg base (CXW P w ca) (k + 1) f fd ps (spM K ca j (mDef j n m)) := by
  subst hj
  obtain ⟨oc, od, kV, doc, pm, an, cdv, ct, osl, rfl, lk, hcd⟩ := F.ex
  refine fn_of lk hcd S (fun vs H Q E q => q.1) fun A outer s H vs Q E hr hsp => ?_
  obtain ⟨hl, ds, g, μ, r, q, p⟩ := hsp
  refine ⟨_, pss_leave (h cdv A outer s H E hr [] _), ds.map some ++ List.replicate n none, g, μ, ?_, ?_⟩
  · have z := start_rep N r q
    rw [hl, hn] at z
    exact z
  · unfold mDef at p
    rw [if_pos (by rw [← q.length, hl])] at p
    cases hm : m (ds.map some ++ List.replicate n none) g with
    | nx σ' g' => rw [hm] at p; exact fun σ'' H' μ' e' R' => p .non H' μ' e' R'.g .non
    | rt d g' => rw [hm] at p; exact p
    | bk _ _ => rw [hm] at p; exact p.elim
    | ct _ _ => rw [hm] at p; exact p.elim
    | raise _ _ _ => rw [hm] at p; exact fun σ'' H' μ' e' R' => p H' μ' e' R'.g
    | stuck => rw [hm] at p; exact p.elim
noncomputable def EK (Φ : XS) (σ : L2.St) : XK := fun c l H' => ∀ x : Xc, c = .int x.1 0 → l = x.2 → Φ x σ H'
theorem spM_of {F : MF} {n : Nat} {Φ : XS} {σ : L2.St} {Q : VK} {H : Hp} {μ : List Addr} {vs : List V} {ds : List D} {g : G} (st : ∀ ds g, ds.length ≠ n → F ds g = .stuck) (r : GRep K ca μ H g) (q : Dens K μ H vs ds) (p : Post K ca Φ σ Q H μ (F ds g)) : spM K ca n F vs H Q (EK Φ σ) := by
  have hl : vs.length = n := by
    rw [q.length]
    apply Decidable.byContradiction
    intro h
    rw [st ds g h] at p
    exact p
  refine ⟨hl, ds, g, μ, r, q, ?_⟩
  cases hF : F ds g with
  | ok d g' => rw [hF] at p; exact p
  | raise x g' =>
    rw [hF] at p
    intro H' μ' e r' y e1 e2
    have : x = y := by
      obtain ⟨a, b⟩ := x
      obtain ⟨c, d⟩ := y
      injection e1 with e1
      have e1 : (a : Int) = (c : Int) := e1
      have e3 : a = c := by omega
      rw [e3, show b = d from e2]
    rw [← this]
    exact p H' μ' e r'
  | stuck => rw [hF] at p; exact p
end
section
variable {X : Cx} {ca : Nat → Addr} {e o : Expr} {es : List Expr} {me mo : ME} {mr : MA} {p pos apos : Pos} {k n : Nat} {F : MF} {pn : List (Addr × Obj)} {Φ : XS}
theorem run_fl {f : Addr} {fd : FuncData} {ps : List Str} {pins : List (Addr × Obj)} {σ : L2.St} {H : Hp} {s : Shared} {Q : VK} {us : List Value} {vs : List V} (G : FnOk X.prog X.w X.K X.mg X.base (CXW X.prog X.w ca) k f fd ps (spM X.K ca n F)) (hr : Room k X.A) (hb : Binds X.K fd ps [])
    (I : Inv (xat X ca pn Φ) pins σ H s) (r : Vals vs us) (h : spM X.K ca n F vs H Q (EK Φ σ)) : wpAny (model X.prog X.w) X.A (call (.ref f) us) (EP (xat X ca pn Φ) pins σ Q) (xat X ca pn Φ).xe s := by
  have hl : (us ++ []).length = ps.length := by rw [List.append_nil, ← r.length]; exact G.len _ _ _ _ h
  have b := hb s us I.kIn hl
  rw [List.append_nil] at b
  refine wpAny_call (codeAny_mono (G.run X.A X.stack s H ⟨us, []⟩ us vs Q (EK Φ σ) hr I.env0 b r h) fun res s' hq => ?_)
  cases res with
  | error z => exact pass_fl I hq
  | ok fl =>
    cases fl with
    | ret u => exact I.after hq
    | _ => exact False.elim hq
theorem r_call {x : Str} (h : FnH X.prog X.w X.K X.mg X.base ca x k n F) (hr : Room k X.A) (ha : PA3 ca X (e :: es) mr) (hg : Gl X x := by rfl) (hdb : (x == ("__debug__" : Str)) = false := by decide)
    (he : starEach (e :: es) X.env = (false, eval e X.env) :: starEach es X.env := by rfl) (hpl : (backTo pos (starEach es X.env)).any (·.1) = false := by rfl) : PE3 ca X (.Call (.Name x p) (e :: es) [] pos) (mCall F mr) := by
  obtain ⟨f, fd, ps, F1, m1, k1, b1⟩ := h.ex
  intro pn Φ pins s σ H Q I ⟨σ3, g, μ, R, q⟩
  refine wpAny_Call_Name_kw (ld_glob I hg m1 ?_ hdb)
  have z : upA X.K ca Φ mr σ H fun vs H1 => spM X.K ca n F vs H1 Q (EK Φ σ) := upA_mono (bindAE R q) fun xs H1 ⟨ds, g1, μ1, e1, R1, q1, p1⟩ => spM_of h.st R1.g q1 p1
  refine PySem.W.callWith_K (h₀ := X.base) I.ok.mod.kin k1 (thn (ha pn Φ pos pins s σ H _ I z) fun us s1 ⟨vs, H1, I1, r, q1⟩ => ⟨I1.kIn, ?_⟩) he hpl
  exact run_fl F1 hr b1 I1 r q1
end






section
variable {X : Cx} {ca : Nat → Addr} {tg e : Expr} {me : ME} {mr : MA} {p pos : Pos}
theorem conseqI {X : Cx} {tg iter : Expr} {t t' : TI} (h : PI X tg iter t) (i : ∀ σ H R, t' σ H R → t σ H R) : PI X tg iter t' := fun pins s σ H R I q => h pins s σ H R I (i σ H R q)
theorem sim_range (K : PySem.W.Frag) (μ : List Addr) (H : Hp) (lo : Int) (n : Nat) : Sim K ca μ H (srcRange lo n) (Itr lo n) := by
  intro i H1 μ1 g1 e r
  unfold srcRange
  dsimp only
  by_cases h : i < n
  · rw [if_pos h]
    exact ⟨h, fun x H' y => by obtain ⟨rfl, rfl⟩ := y; exact ⟨.refl, r, .int _⟩⟩
  · rw [if_neg h]
    exact Nat.le_of_not_lt h
theorem sim_tup {K : PySem.W.Frag} {μ : List Addr} {H : Hp} {a : Addr} {vs : List V} {ds : List D} (h : SqT K H a vs) (q : Dens K μ H vs ds) : Sim K ca μ H ⟨fun _ i => some ds[i]?, ds.length⟩ (Itt K a) := by
  intro i H1 μ1 g1 e r
  dsimp only
  cases hd : ds[i]? with
  | none =>
    refine ⟨vs, e.tup _ _ h, ?_⟩
    rw [q.length]
    exact List.getElem?_eq_none_iff.mp hd
  | some d =>
    obtain ⟨v, h1, h2⟩ := q.get hd
    refine ⟨⟨vs, v, e.tup _ _ h, h1⟩, fun x H' y => ?_⟩
    obtain ⟨rfl, y⟩ := y
    have := y vs (e.tup _ _ h)
    rw [h1] at this; cases this
    exact ⟨.refl, r, h2.mono e⟩
theorem sim_lst {K : PySem.W.Frag} {μ : List Addr} {H : Hp} {a : Addr} {n t : Nat} (hn : μ[n]? = some a) : Sim K ca μ H ⟨fun g i => (match g[n]? with | some (.lst es) => some es[i]? | _ => none), t⟩ (Itl K a) := by
  intro i H1 μ1 g1 e r
  dsimp only
  cases hg : g1[n]? with
  | none => trivial
  | some o =>
    cases o with
    | lst ds =>
      dsimp only
      obtain ⟨a', ha', vs, hH, q⟩ := r.addr hg
      rw [e.at hn] at ha'; cases ha'
      cases hd : ds[i]? with
      | none =>
        refine ⟨vs, .of hH, ?_⟩
        rw [q.length]
        exact List.getElem?_eq_none_iff.mp hd
      | some d =>
        obtain ⟨v, h1, h2⟩ := q.get hd
        refine ⟨⟨vs, v, .of hH, h1⟩, fun x H' y => ?_⟩
        obtain ⟨rfl, y⟩ := y
        have := y vs (.of hH)
        rw [h1] at this; cases this
        exact ⟨.refl, r, h2⟩
    | _ => trivial
theorem sim_fl {K : PySem.W.Frag} {μ : List Addr} {H : Hp} {a : Addr} {vs : List V} {ds : List D} (h : SqF K H a vs) (q : Dens K μ H vs ds) : Sim K ca μ H ⟨fun _ i => some ds[i]?, ds.length⟩ (Itl K a) := by
  intro i H1 μ1 g1 e r
  dsimp only
  have sq : SqL K H1 a vs := (e.fl _ _ h).sq
  cases hd : ds[i]? with
  | none =>
    refine ⟨vs, sq, ?_⟩
    rw [q.length]
    exact List.getElem?_eq_none_iff.mp hd
  | some d =>
    obtain ⟨v, h1, h2⟩ := q.get hd
    refine ⟨⟨vs, v, sq, h1⟩, fun x H' y => ?_⟩
    obtain ⟨rfl, y⟩ := y
    have := y vs sq
    rw [h1] at this; cases this
    exact ⟨.refl, r, h2.mono e⟩
theorem pi_seq {l : Expr} {tl : TE} (hl : PE X l tl) : PI X tg l (fun σ H R => tl σ H fun x H1 => (∃ a, x = .ref a ∧ (∃ xs, SqL X.K H1 a xs) ∧ R (Itl X.K a) H1) ∨ ∃ a, x = .ref a ∧ (∃ xs, SqT X.K H1 a xs) ∧ R (Itt X.K a) H1) := by
  intro pins s σ H R I h
  refine thn (hl pins s σ H _ I h) fun v s1 ⟨x, H1, I1, r1, q1⟩ => ?_
  rcases q1 with ⟨a, e, ⟨xs, hq⟩, q⟩ | ⟨a, e, ⟨xs, hq⟩, q⟩
  · subst e
    cases r1
    obtain ⟨its, rv, p, hz⟩ := I1.list hq
    refine wpAny_pyIter_list p.isList ?_
    refine ⟨s1.heap.objs.size, [s1.heap.objs.size], _, _, H1, rfl, I1.kept (t' := s1.toks) fun b o e => Heap.get?_push_of_some _ e, turn_list a _, ⟨_, Heap.get?_push_size _ rfl, rfl, rfl⟩, fun b hb => ?_, q⟩
    have e : b = s1.heap.objs.size := by simpa using hb
    subst e
    exact I1.fpOk (Nat.le_refl _) (I1.hok.fresh (Nat.le_refl _))
  · subst e
    cases r1
    obtain ⟨its, rv, p, hz⟩ := I1.tuple hq
    refine wpAny_pyIter_tuple (show s1.heap.IsTuple a its.toArray from p) ?_
    refine ⟨s1.heap.objs.size, [s1.heap.objs.size], _, _, H1, rfl, I1.kept (t' := s1.toks) fun b o e => Heap.get?_push_of_some _ e, turn_tuple a _, ⟨_, Heap.get?_push_size _ rfl, rfl, rfl⟩, fun b hb => ?_, q⟩
    have e : b = s1.heap.objs.size := by simpa using hb
    subst e
    exact I1.fpOk (Nat.le_refl _) (I1.hok.fresh (Nat.le_refl _))
theorem r_itSeq (he : PE3 ca X e me) : PI3 ca X tg e (mItSeq me) :=
  fun pn Φ => conseqI (pi_seq (X := xat X ca pn Φ) (he pn Φ)) fun σ H R hQ => by
    obtain ⟨σ3, g, μ, Rp, p⟩ := hQ
    unfold mItSeq at p
    refine ⟨σ3, g, μ, Rp, ?_⟩
    cases hm : me σ3 g with
    | raise _ _ => rw [hm] at p; exact p
    | stuck => rw [hm] at p; exact p.elim
    | ok d g1 =>
      rw [hm, Res.bind_ok] at p
      intro v H1 μ1 e1 r1 q1
      unfold srcSeq at p
      cases q1 with
      | @tup a vs ds ht hs =>
        exact .inr ⟨a, rfl, ⟨vs, ht⟩, p _ H1 μ1 e1 r1 (sim_tup ht hs)⟩
      | @fl a vs ds ht hs => exact .inl ⟨a, rfl, ⟨vs, ht.sq⟩, p _ H1 μ1 e1 r1 (sim_fl ht hs)⟩
      | @ref n a hn =>
        dsimp only at p
        cases hg : g1[n]? with
        | none => rw [hg] at p; exact p.elim
        | some o =>
          rw [hg] at p
          obtain ⟨a', ha', orp⟩ := r1.addr hg
          rw [hn] at ha'; cases ha'
          cases o with
          | lst ds => obtain ⟨vs, hH, q⟩ := orp; exact .inl ⟨a, rfl, ⟨vs, .of hH⟩, p _ H1 μ1 e1 r1 (sim_lst hn)⟩
          | _ => exact p.elim
      | _ => exact p.elim
theorem r_range1 (hm : X.mg "range" = none) (he : PE3 ca X e me) (hg : Gl X "range" := by rfl) (hs : starEach [e] X.env = [(false, eval e X.env)] := by rfl) : PI3 ca X tg (.Call (.Name "range" p) [e] [] pos) (mItRange1 me) :=
  fun pn Φ => conseqI (pi_range1 (X := xat X ca pn Φ) hg hm (r_cons he r_nil hs pn Φ) hs) fun σ H R hQ => by
    obtain ⟨σ3, g, μ, Rp, p⟩ := hQ
    refine ⟨σ3, g, μ, Rp, ?_⟩
    unfold mItRange1 at p
    unfold mCons mNil
    cases hm : me σ3 g with
    | raise _ _ => rw [hm] at p; exact p
    | stuck => rw [hm] at p; exact p.elim
    | ok d g1 =>
      rw [hm, Res.bind_ok] at p
      rw [Res.bind_ok, Res.bind_ok]
      intro vs H1 μ1 e1 r1 q1
      cases q1 with
      | cons h1 h2 =>
        cases h2
        cases h1 with
        | int j =>
          dsimp only at p
          by_cases hj : inR j
          · rw [if_pos hj] at p
            exact ⟨j, rfl, hj.1, hj.2, p _ H1 μ1 e1 r1 (sim_range X.K μ1 H1 0 j.toNat)⟩
          · rw [if_neg hj] at p; exact p.elim
        | _ => exact p.elim
end
end L3

end
section
namespace L3
open PySem PySem.Spec PyProof.Rows L2

noncomputable def blk (X : Cx) (scope : Scope) (cl : List (Str × Addr)) (C : Addr) (Nb : List Str) (s3 : Shared) (H3 : Hp) (ex : List Addr) : Cx :=
  { X with env := compEnvC scope cl C X.env, N := Nb, s₀ := s3, H₀ := H3, outer := X.stack, stack := X.stack, ex := ex, fn := fun _ => false, pn := [], xe := fun _ _ => False }
structure BScope (X : Cx) (scope : Scope) (Nb : List Str) (no : Nat) (cap : List Nat) : Prop where
  kind : scope.kind = .function
  cell : ∀ y ∈ scope.names, y.2 ≠ .cell
  loc : ∀ y ∈ scope.names, y.2 = .local → scope.names.lookup y.1 = some .local
  free : ∀ y ∈ scope.names, y.2 = .free → X.env.kindOf y.1 = some .cell ∨ X.env.kindOf y.1 = some .free
  len : Nb.length = no + cap.length
  cap : ∀ (j i : Nat), cap[j]? = some i → ∃ x, Nb[no + j]? = some x ∧ X.N[i]? = some x ∧ scope.names.lookup x = some .free ∧ Vis X.env.scope x ∧ X.env.kindOf x ≠ some .local

noncomputable def clOf (cells : List (Str × Addr)) : List (Str × NameKind) → List (Str × Addr) → Option (List (Str × Addr))
  | [], cs => some cs
  | (n, k) :: r, cs => if (k == .free) = true then (match cells.lookup n with
    | some a => clOf cells r ((n, a) :: cs)
    | none => none) else clOf cells r cs
theorem closure_eq {env : Env} : ∀ (names : List (Str × NameKind)) (cs cl : List (Str × Addr)), clOf env.cells names cs = some cl →
    (forIn names cs fun (x : Str × NameKind) (r : List (Str × Addr)) => (match x with
      | (name, kind) => if (kind == .free) = true then (do let a ← cellOf env name; pure (ForInStep.yield ((name, a) :: r))) else pure (ForInStep.yield r) : Sem (ForInStep (List (Str × Addr))))) = (pure cl : Sem (List (Str × Addr)))
  | [], cs, cl, h => by cases h; rfl
  | (n, k) :: r, cs, cl, h => by
    unfold clOf at h
    rw [List.forIn_cons]
    by_cases hk : (k == .free) = true
    · rw [if_pos hk] at h
      cases hl : env.cells.lookup n with
      | none => rw [hl] at h; cases h
      | some a =>
        rw [hl] at h
        dsimp only at h ⊢
        rw [if_pos hk]
        unfold cellOf
        rw [hl]
        exact closure_eq r _ cl h
    · rw [if_neg hk] at h
      dsimp only
      rw [if_neg hk]
      exact closure_eq r _ cl h
theorem closureFor_of {scope : Scope} {env : Env} {cl : List (Str × Addr)} (h : clOf env.cells scope.names [] = some cl) : closureFor scope env = pure cl := by
  have q := closure_eq (env := env) scope.names [] cl h
  unfold closureFor
  exact congrArg (fun t => t >>= fun r => (pure r : Sem _)) q
theorem clOf_some {cells : List (Str × Addr)} : ∀ (names : List (Str × NameKind)) (cs : List (Str × Addr)), (∀ y ∈ names, y.2 = .free → ∃ c, cells.lookup y.1 = some c) → ∃ cl, clOf cells names cs = some cl
  | [], cs, _ => ⟨cs, rfl⟩
  | (n, k) :: r, cs, h => by
    unfold clOf
    by_cases hk : (k == .free) = true
    · rw [if_pos hk]
      obtain ⟨c, e⟩ := h (n, k) List.mem_cons_self (beq_iff_eq.mp hk)
      rw [show cells.lookup n = some c from e]
      exact clOf_some r _ fun y hy => h y (List.mem_cons_of_mem _ hy)
    · rw [if_neg hk]
      exact clOf_some r _ fun y hy => h y (List.mem_cons_of_mem _ hy)
theorem clOf_sub {cells : List (Str × Addr)} : ∀ (names : List (Str × NameKind)) (cs cl : List (Str × Addr)), clOf cells names cs = some cl → (∀ x c, cs.lookup x = some c → cells.lookup x = some c) → ∀ x c, cl.lookup x = some c → cells.lookup x = some c
  | [], cs, cl, h, hc => by cases h; exact hc
  | (n, k) :: r, cs, cl, h, hc => by
    unfold clOf at h
    by_cases hk : (k == .free) = true
    · rw [if_pos hk] at h
      cases hl : cells.lookup n with
      | none => rw [hl] at h; cases h
      | some a =>
        rw [hl] at h
        refine clOf_sub r _ cl h fun x c e => ?_
        by_cases z : x = n
        · subst z
          simp only [List.lookup, beq_self_eq_true] at e
          cases e
          exact hl
        · have zb : (x == n) = false := beq_eq_false_iff_ne.mpr z
          simp only [List.lookup, zb] at e
          exact hc x c e
    · rw [if_neg hk] at h
      exact clOf_sub r _ cl h hc
theorem clOf_has {cells : List (Str × Addr)} : ∀ (names : List (Str × NameKind)) (cs cl : List (Str × Addr)), clOf cells names cs = some cl → ∀ x, (x ∈ names.filterMap fun y => if (y.2 == .free) = true then some y.1 else none) ∨ (∃ c, cs.lookup x = some c) → ∃ c, cl.lookup x = some c
  | [], cs, cl, h, x, hx => by
    cases h
    rcases hx with hx | hx
    · simp at hx
    · exact hx
  | (n, k) :: r, cs, cl, h, x, hx => by
    unfold clOf at h
    by_cases hk : (k == .free) = true
    · rw [if_pos hk] at h
      cases hl : cells.lookup n with
      | none => rw [hl] at h; cases h
      | some a =>
        rw [hl] at h
        refine clOf_has r _ cl h x ?_
        by_cases z : x = n
        · subst z
          exact .inr ⟨a, by simp [List.lookup]⟩
        · have zb : (x == n) = false := beq_eq_false_iff_ne.mpr z
          rcases hx with hx | ⟨c, hx⟩
          · rw [List.filterMap_cons] at hx
            simp only [hk, if_true] at hx
            rcases List.mem_cons.mp hx with e | e
            · exact absurd e z
            · exact .inl e
          · exact .inr ⟨c, by simp only [List.lookup, zb]; exact hx⟩
    · rw [if_neg hk] at h
      refine clOf_has r _ cl h x ?_
      rcases hx with hx | hx
      · rw [List.filterMap_cons] at hx
        simp only [hk] at hx
        exact .inl (by simpa using hx)
      · exact .inr hx
theorem mem_of_free {names : List (Str × NameKind)} {x : Str} (h : names.lookup x = some .free) : x ∈ names.filterMap fun y => if (y.2 == .free) = true then some y.1 else none :=
  List.mem_filterMap.mpr ⟨(x, .free), PySem.mem_of_lookup h, by simp⟩

theorem relabel_free {env : Env} : ∀ {names : List (Str × NameKind)} {x : Str} {k : NameKind}, (∀ y ∈ names, y.2 ≠ .cell) →
    (names.map fun (n, k) => if (k == NameKind.free && env.scope.kind == .function && env.kindOf n == some .cell) then (n, NameKind.cell) else (n, k)).lookup x = some k → (k = .cell ∨ k = .free) → names.lookup x = some .free
  | [], _, _, _, h, _ => by cases h
  | (n, k0) :: r, x, k, hn, h, hk => by
    have ih := @relabel_free env r x k fun y hy => hn y (List.mem_cons_of_mem _ hy)
    rw [List.map_cons] at h
    by_cases hc : (k0 == NameKind.free && env.scope.kind == .function && env.kindOf n == some .cell) = true
    · have k0f : k0 = .free := by
        simp only [Bool.and_eq_true] at hc
        exact beq_iff_eq.mp hc.1.1
      dsimp only at h
      rw [if_pos hc] at h
      cases hx : x == n with
      | true => simp only [List.lookup, hx]; rw [k0f]
      | false => simp only [List.lookup, hx] at h ⊢; exact ih h hk
    · dsimp only at h
      rw [if_neg hc] at h
      cases hx : x == n with
      | true =>
        simp only [List.lookup, hx] at h ⊢
        cases h
        rcases hk with e | e
        · exact absurd e (hn (n, k0) List.mem_cons_self)
        · rw [e]
      | false => simp only [List.lookup, hx] at h ⊢; exact ih h hk

theorem compLoop_gen {prog : Program} {w : World} {A : Around} {R : Result → Shared → Prop} {s : Shared} {elt target iter : Expr} {ifs : List Expr} {scope : Scope} {pos : Pos} {it acc : Value} {env : Env} (I : Nat → Shared → Prop)
    (turn : ∀ n s, I n s → wpAny (model prog w) A (pyNext it) (fun r s₁ => match r with
      | none => R (.ok .next) s₁
      | some v => wpAny (model prog w) A (letOwnedTupleGo target it v) (fun _ s1' => wpAny (model prog w) A (assign target env v) (fun _ s₂ =>
          wpAny (model prog w) A (forIn ifs true fun c r => if r = true then do let ok ← isTrue c env (eval c env); pure (ForInStep.yield ok) else pure (ForInStep.yield r)) (fun ok s₃ =>
            if ok = true then wpAny (model prog w) A (eval elt env) (fun x s₄ =>
              wpAny (model prog w) A (call (.builtin "list.append") [acc, x]) (fun _ s₅ => ∃ m, m < n ∧ I m s₅) (fun _ _ => False) s₄) (fun _ _ => False) s₃
            else ∃ m, m < n ∧ I m s₃) (fun _ _ => False) s₂) (fun _ _ => False) s1') (fun _ _ => False) s₁) (fun _ _ => False) s)
    (n : Nat) (h : I n s) : codeAny (model prog w) A (.compLoop (.ListComp elt [⟨target, iter, ifs, 0⟩] scope pos) 0 it acc env) R s := by
  refine codeAny_loop rfl I (fun n s hI => ?_) n h
  show wpAny _ A ((compTurn (.ListComp elt [⟨target, iter, ifs, 0⟩] scope pos) 0 it acc env).onRaise (fun x => do noteFrame x env; theTreesLotGoes x)) _ _ s
  refine wpAny_noted ?_
  rw [compTurn_list]
  refine wpAny_bind (wpAny_standAt (wpAny_bind (wpAny_mono (turn n s hI) (fun r s₁ h₁ => ?_) fun _ _ h' => h'.elim)))
  cases r with
  | none => exact wpAny_pure h₁
  | some v =>
    refine wpAny_bind (wpAny_mono h₁ (fun _ s1' h1' => ?_) fun _ _ h' => h'.elim)
    refine wpAny_bind (wpAny_mono h1' (fun _ s₂ h₂ => wpAny_bind (wpAny_mono h₂ (fun ok s₃ h₃ => ?_) fun _ _ h' => h'.elim)) fun _ _ h' => h'.elim)
    cases ok with
    | false => exact wpAny_pure ⟨rfl, h₃⟩
    | true =>
      exact wpAny_bind (wpAny_bind (wpAny_mono h₃ (fun x s₄ h₄ => wpAny_bind (wpAny_mono h₄ (fun _ s₅ h₅ => wpAny_pure (wpAny_pure ⟨rfl, h₅⟩)) fun _ _ h' => h'.elim)) fun _ _ h' => h'.elim))

theorem Inv.track {X : Cx} {pins : List (Addr × Obj)} {σ : L2.St} {H : Hp} {s : Shared} {a : Addr} {o : HO} (I : Inv X pins σ H s) (ha : FpOk X pins H a) (new : ObjOk X.prog X.w (upd H a o) s.heap a o) : Inv X pins σ (upd H a o) s := by
  obtain ⟨f0, f1, f2, f3, f4, f5⟩ := ha
  have ne : ∀ b u, H b = some u → b ≠ a := fun b u e => ne_of_none e f0
  refine I.step (h' := s.heap) (g' := s.gens) (t' := s.toks) (d' := s.drawn) (ch := [a]) (fun b hb => ?_) (fun b o _ _ _ e _ => e) (fun b o _ _ _ e _ => ⟨o.slots, e⟩) (fun b o hb e n => ?_) (fun b o _ e => ⟨o, e⟩)
    (fun b xs e => by rw [upd_ne (ne b _ e)]; exact e) (fun b o u e => by rw [upd_ne (ne b _ e)]; exact e) (fun b ps e => ⟨#[], by rw [upd_ne (ne b _ e), e]; simp⟩) (fun _ h => h) (fun b u e => ?_) I.bare
  · have e : b = a := by simpa using hb
    subst e
    exact ⟨f3, f1, f4, f5⟩
  · rw [upd_ne (fun z => hb (by simp [z]))]; exact n
  · by_cases hb : b = a
    · subst hb; rw [upd_same] at e; cases e; exact new
    · rw [upd_ne hb] at e
      exact (I.hok b u e).stay (fun _ _ _ q => q) (fun c q => by rw [upd_ne (ne c _ q)]; exact q) fun c xs q => by rw [upd_ne (ne c _ q)]; exact q
theorem FpOk.mono {X : Cx} {pins : List (Addr × Obj)} {H H' : Hp} {b : Addr} (h : FpOk X pins H b) (n : H' b = none) : FpOk X pins H' b := ⟨n, h.2⟩

noncomputable abbrev F0 : XS := fun _ _ _ => False
theorem noX {α : Type} {M : Model} {A : Around} {X : Cx} {ca : Nat → Addr} {t : Sem α} {Q : α → Shared → Prop} {s : Shared} (h : wpAny M A t Q (XE X ca F0) s) : wpAny M A t Q (fun _ _ => False) s := wpAny_mono h (fun _ _ z => z) fun _ _ ⟨_, _, _, _, _, _, _, z⟩ => z
noncomputable def PIf (ca : Nat → Addr) (X : Cx) (ifs : List Expr) (m : MT) : Prop :=
  ∀ (pins : List (Addr × Obj)) (s : Shared) (σ : L2.St) (H : Hp) (Q : Bool → Hp → Prop), Inv (xat X ca [] F0) pins σ H s → upT X.K ca F0 m σ H Q →
    wpAny (model X.prog X.w) X.A (forIn ifs true fun c r => if r = true then do let ok ← isTrue c X.env (eval c X.env); pure (ForInStep.yield ok) else pure (ForInStep.yield r)) (TP (xat X ca [] F0) pins σ Q) (fun _ _ => False) s
theorem r_if0 {X : Cx} {ca : Nat → Addr} : PIf ca X [] mTrue := by
  intro pins s σ H Q I ⟨_, _, μ, R, p⟩
  rw [List.forIn_nil]
  exact wpAny_pure ⟨H, I, p H μ .refl R.g⟩
theorem r_if1 {X : Cx} {ca : Nat → Addr} {c : Expr} {m : MT} (h : PT3 ca X c m) : PIf ca X [c] m := by
  intro pins s σ H Q I q
  exact wpAny_tests_one (noX (h [] F0 pins s σ H Q I q))
end L3

end
section
namespace L3
open PySem PySem.Spec PyProof.Rows L2
section
variable {X : Cx} {ca : Nat → Addr} {pn : List (Addr × Obj)}
theorem blk_ok {scope : Scope} {Nb : List Str} {no : Nat} {cap : List Nat} {cl : List (Str × Addr)} {pins : List (Addr × Obj)} {σ : L2.St} {H : Hp} {s : Shared} {ex : List Addr} (B : BScope X scope Nb no cap) (hcl : clOf X.env.cells scope.names [] = some cl)
    (I : Inv (xat X ca pn F0) pins σ H s) (hex : ∀ b ∈ ex, FpOk (xat X ca pn F0) pins H b) (hlt : ∀ b ∈ ex, b < s.heap.objs.size) : (xat (blk X scope cl s.heap.objs.size Nb s H ex) ca [] F0).Ok where
  mod := I.ok.mod
  kind := B.kind
  glob := I.ok.glob
  blt := I.ok.blt
  above := Nat.le_refl _
  inj := fun x y c h1 h2 => I.ok.inj x y c (clOf_sub _ _ _ hcl (fun _ _ z => by cases z) x c h1) (clOf_sub _ _ _ hcl (fun _ _ z => by cases z) y c h2)
  has := fun x hx => clOf_has _ _ _ hcl x (.inl (mem_of_free (by
    rcases hx with hx | hx
    · exact relabel_free B.cell hx (.inl rfl)
    · exact relabel_free B.cell hx (.inr rfl))))
  cab := fun _ _ z => by cases z
  hd := I.ok.hd
  frames := I.ok.frames
  stk := .inl rfl
  exf := fun b hb => ⟨Nat.ne_of_lt (hlt b hb), fun x c e z => (hex b hb).2.2.2.2.1 x c (clOf_sub _ _ _ hcl (fun _ _ z => by cases z) x c e) z⟩
  bs := I.bs
  bsz := Nat.le_trans I.ok.bsz I.sz
  noex := fun b o e hb => by
    rcases (hex b hb).2.2.2.1 with z | z
    · exact I.ok.noex b o e z
    · exact absurd (Nat.lt_of_lt_of_le (Heap.lt_size e) (Nat.le_trans I.ok.bsz z)) (Nat.lt_irrefl _)
  exfs := fun b hb z => by
    rcases List.mem_cons.mp (I.stkSub b z) with e | e
    · exact (hex b hb).2.1 e
    · exact (hex b hb).2.2.1 e
  funs := I.stack
  frf := I.stkFree

theorem relabel_not_local {env : Env} : ∀ {names : List (Str × NameKind)} {x : Str}, names.lookup x = some .free →
    (names.map fun (n, k) => if (k == NameKind.free && env.scope.kind == .function && env.kindOf n == some .cell) then (n, NameKind.cell) else (n, k)).lookup x = some .local → False
  | [], _, h, _ => by cases h
  | (n, k0) :: r, x, h, h' => by
    have ih := @relabel_not_local env r x
    rw [List.map_cons] at h'
    dsimp only at h'
    by_cases hc : (k0 == NameKind.free && env.scope.kind == .function && env.kindOf n == some .cell) = true
    · rw [if_pos hc] at h'
      cases hx : x == n with
      | true => simp only [List.lookup, hx] at h'; cases h'
      | false => simp only [List.lookup, hx] at h h'; exact ih h h'
    · rw [if_neg hc] at h'
      cases hx : x == n with
      | true => simp only [List.lookup, hx] at h h'; rw [h'] at h; cases h
      | false => simp only [List.lookup, hx] at h h'; exact ih h h'

theorem capt_rep {K : PySem.W.Frag} {ca : Nat → Addr} {μ2 : List Addr} {σ3 : S3} {g1 : G} {σ : L2.St} {H2 : Hp} (no : Nat) (cap : List Nat) (R2 : Rep K ca μ2 σ3 g1 σ H2) : Rep K ca μ2 (capt no cap σ3) g1 (List.replicate no none ++ cap.map fun i => (σ[i]?).getD none) H2 := by
  refine ⟨R2.g, ?_, fun i d h => ?_⟩
  · unfold capt
    rw [List.length_append, List.length_append, List.length_replicate, List.length_replicate, List.length_map, List.length_map]
  · unfold capt at h
    have hi : no ≤ i := by
      apply Nat.le_of_not_lt
      intro hlt
      rw [List.getElem?_append_left (by simpa using hlt), List.getElem?_replicate, if_pos hlt] at h
      cases h
    rw [List.getElem?_append_right (by simpa using hi), List.length_replicate, List.getElem?_map] at h ⊢
    cases hcp : cap[i - no]? with
    | none => rw [hcp] at h; cases h
    | some j =>
      rw [hcp] at h
      have h : (σ3[j]?).getD none = some d := by simpa using h
      have hs : σ3[j]? = some (some d) := by
        cases z : σ3[j]? with
        | none => rw [z] at h; cases h
        | some w => rw [z] at h; have h : w = some d := h; rw [h]
      obtain ⟨v, h1, h2⟩ := R2.st j d hs
      exact ⟨v, by simp [h1], h2⟩
theorem comp_core {tg iter elt : Expr} {ifs : List Expr} {scope : Scope} {pos : Pos} {Nb : List Str} {no : Nat} {cap : List Nat} {cl : List (Str × Addr)} {f : MG} {tc : MT} {me : ME} {src : Src}
    {pins : List (Addr × Obj)} {σ : L2.St} {σ3 : S3} {H2 : Hp} {s2 : Shared} {μ2 : List Addr} {g1 g2 : G} {ds : List D} {it : Addr} {fp : List Addr} {tn : Nat → Heap → Prop} {J : It} {RR : Value → Addr → Result → Shared → Prop} {E : Value → Shared → Prop}
    (B : BScope X scope Nb no cap) (hc : X.calm = true)
    (hb : ∀ cl C s3 H3 ex, PG3 ca (blk X scope cl C Nb s3 H3 ex) tg f ∧ PIf ca (blk X scope cl C Nb s3 H3 ex) ifs tc ∧ PE3 ca (blk X scope cl C Nb s3 H3 ex) elt me)
    (hcl : clOf X.env.cells scope.names [] = some cl)
    (I2 : Inv (xat X ca pn F0) pins σ H2 s2) (T : Turn X.prog X.w X.K tg J fp it tn) (st2 : tn 0 s2.heap) (f2 : ∀ b ∈ fp, FpOk (xat X ca pn F0) pins H2 b) (R2 : Rep X.K ca μ2 σ3 g1 σ H2) (sim : Sim X.K ca μ2 H2 src J)
    (hz : src.top ≤ SZ) (hL : compL src f tc me (src.top + 1) 0 (capt no cap σ3) g1 [] = .ok ds g2)
    (fin : ∀ (D C : Addr) (s' : Shared) (H4 : Hp) (μ4 : List Addr) (accV : List V) (its : List Value) (k : Nat), Inv (xat X ca pn F0) pins σ H4 s' → (∃ m, s'.heap.Ns C m) → FpOk (xat X ca pn F0) pins H4 C → FpOk (xat X ca pn F0) pins H4 D → D ≠ C →
      s'.heap.get? D = some { cls := .type "list", data := .seq its.toArray k } → Vals accV its → accV.length ≤ sizeLine → Ext X.K μ2 H2 μ4 H4 → GRep X.K ca μ4 H4 g2 → Dens X.K μ4 H4 accV ds → RR (.ref D) C (.ok .next) s') :
    wpAny (model X.prog X.w) X.A (newList []) (fun acc s₃ => wpAny (model X.prog X.w) X.A (newFunctionEnv scope X.env.globals cl [] X.env.qual none .none (some X.env)) (fun cenv s₄ =>
      codeAny (model X.prog X.w) X.A (.compStart (.ListComp elt [⟨tg, iter, ifs, 0⟩] scope pos) 0 (.ref it) acc { cenv with scope := relabel scope X.env }) (RR acc cenv.locals) s₄) E s₃) E s2 := by
  refine wpAny_newObj_type (wpAny_newFunctionEnv B.cell (by intro y hy; simp at hy) (fun h₁ hns₁ hsb₁ => ?_) B.kind)
  dsimp only at hns₁ hsb₁ ⊢
  generalize hH2 : s2.heap.push { cls := .type "list", dict := none, data := .seq ([] : List Value).toArray } = hp at hns₁ hsb₁ ⊢
  have hC : hp.objs.size = s2.heap.objs.size + 1 := by rw [← hH2, Heap.size_push]
  have I3 : Inv (xat X ca pn F0) pins σ H2 { s2 with heap := hp } := by rw [← hH2]; exact I2.kept (t' := s2.toks) fun b o e => Heap.get?_push_of_some _ e
  have hD3 : hp.get? s2.heap.objs.size = some { cls := .type "list", data := .seq ([] : List Value).toArray } := by rw [← hH2]; exact Heap.get?_push_size _ rfl
  have fD : FpOk (xat X ca pn F0) pins H2 s2.heap.objs.size := I2.fpOk (Nat.le_refl _) (I2.hok.fresh (Nat.le_refl _))
  have fC : FpOk (xat X ca pn F0) pins H2 hp.objs.size := I3.fpOk (Nat.le_refl _) (I3.hok.fresh (Nat.le_refl _))
  have fplt : ∀ b ∈ fp, b < s2.heap.objs.size := fun b hb => by
    obtain ⟨o, e, _⟩ := T.obj 0 _ st2 b hb
    exact Heap.lt_size e
  have DnF : s2.heap.objs.size ∉ fp := fun h => Nat.lt_irrefl _ (fplt _ h)
  have DnC : s2.heap.objs.size ≠ hp.objs.size := by rw [hC]; exact Nat.ne_of_lt (Nat.lt_succ_self _)
  have exOk : ∀ b ∈ s2.heap.objs.size :: fp, FpOk (xat X ca pn F0) pins H2 b := fun b hb => by
    rcases List.mem_cons.mp hb with e | e
    · rw [e]; exact fD
    · exact f2 b e
  have exLt : ∀ b ∈ s2.heap.objs.size :: fp, b < hp.objs.size := fun b hb => by
    rcases List.mem_cons.mp hb with e | e
    · rw [e, hC]; exact Nat.lt_succ_self _
    · rw [hC]; exact Nat.lt_succ_of_lt (fplt b e)
  have okb : (xat (blk X scope cl hp.objs.size Nb { s2 with heap := hp } H2 (s2.heap.objs.size :: fp)) ca [] F0).Ok := blk_ok (s := { s2 with heap := hp }) B hcl I3 exOk exLt
  obtain ⟨hgB, hiB, heB⟩ := hb cl hp.objs.size { s2 with heap := hp } H2 (s2.heap.objs.size :: fp)
  have old : ∀ b o, hp.get? b = some o → h₁.get? b = some o := fun b o e => hsb₁.extBut b o (Nat.ne_of_lt (Heap.lt_size e)) (Heap.get?_push_of_some _ e)
  -- the block's first state
  have Ib : Inv (xat (blk X scope cl hp.objs.size Nb { s2 with heap := hp } H2 (s2.heap.objs.size :: fp)) ca [] F0) [] (List.replicate no none ++ cap.map fun i => (σ[i]?).getD none) H2 { s2 with heap := h₁, toks := s2.toks + ([] : List (Str × Value)).length } := by
    refine ⟨okb, rfl, I3.bare, Un.kept old, ⟨_, hns₁, fun i x v h1 h2 h3 => ?_⟩, fun x c e => ?_, fC.1, fun x c e => ?_, fun p hp => absurd (show p ∈ ([] : List (Addr × Obj)) from hp) (by simp), I3.hok.kept old, ?_⟩
    · have hi : no ≤ i := by
        apply Nat.le_of_not_lt
        intro hlt
        rw [List.getElem?_append_left (by simpa using hlt), List.getElem?_replicate, if_pos hlt] at h2
        cases h2
      rw [List.getElem?_append_right (by simpa using hi), List.length_replicate, List.getElem?_map] at h2
      cases hcp : cap[i - no]? with
      | none => rw [hcp] at h2; cases h2
      | some j =>
        rw [hcp] at h2
        have h2 : (σ[j]?).getD none = some v := by simpa using h2
        have hs : σ[j]? = some (some v) := by
          cases z : σ[j]? with
          | none => rw [z] at h2; cases h2
          | some w => rw [z] at h2; have h2 : w = some v := h2; rw [h2]
        obtain ⟨y, n1, n2, n3, n4, n5⟩ := B.cap (i - no) j hcp
        have e0 : no + (i - no) = i := by omega
        rw [e0] at n1
        have h1 : Nb[i]? = some x := h1
        have hxy : y = x := Option.some.inj (n1.symm.trans h1)
        subst hxy
        obtain ⟨m, hn, hl⟩ := I3.loc
        obtain ⟨u, ru, lk⟩ := hl j y v n2 hs n4
        refine ⟨u, ru, .inr ⟨?_, ?_⟩⟩
        · rcases h3 with z | z | z
          · exact (relabel_not_local n3 z).elim
          · exact .inl z
          · exact .inr z
        · rcases lk with ⟨k1, _⟩ | ⟨_, c, k2, k3⟩
          · exact absurd k1 n5
          · obtain ⟨c', hc'⟩ := clOf_has _ _ _ hcl y (.inl (mem_of_free n3))
            have := clOf_sub _ _ _ hcl (fun _ _ z => by cases z) y c' hc'
            have k2 : X.env.cells.lookup y = some c := k2
            have hcc : c' = c := Option.some.inj (this.symm.trans k2)
            subst hcc
            exact ⟨c', hc', k3.keeps old⟩
    · obtain ⟨v, z⟩ := I3.cell x c (clOf_sub _ _ _ hcl (fun _ _ z => by cases z) x c e)
      exact ⟨v, z.keeps old⟩
    · exact I3.freeC x c (clOf_sub _ _ _ hcl (fun _ _ z => by cases z) x c e)
    · rw [List.length_append, List.length_replicate, List.length_map]; exact B.len.symm
  have RbR := capt_rep no cap R2
  have eK : (xat (blk X scope cl hp.objs.size Nb { s2 with heap := hp } H2 (s2.heap.objs.size :: fp)) ca [] F0).K = X.K := rfl
  have eP : (xat (blk X scope cl hp.objs.size Nb { s2 with heap := hp } H2 (s2.heap.objs.size :: fp)) ca [] F0).prog = X.prog := rfl
  have eW : (xat (blk X scope cl hp.objs.size Nb { s2 with heap := hp } H2 (s2.heap.objs.size :: fp)) ca [] F0).w = X.w := rfl
  have eA : (xat (blk X scope cl hp.objs.size Nb { s2 with heap := hp } H2 (s2.heap.objs.size :: fp)) ca [] F0).A = X.A := rfl
  have eE : (xat (blk X scope cl hp.objs.size Nb { s2 with heap := hp } H2 (s2.heap.objs.size :: fp)) ca [] F0).env = compEnvC scope cl hp.objs.size X.env := rfl
  have eC : (xat (blk X scope cl hp.objs.size Nb { s2 with heap := hp } H2 (s2.heap.objs.size :: fp)) ca [] F0).calm = true := hc
  have eX : ∀ b ∈ s2.heap.objs.size :: fp, b ∈ (xat (blk X scope cl hp.objs.size Nb { s2 with heap := hp } H2 (s2.heap.objs.size :: fp)) ca [] F0).ex := fun b hb => hb
  have eN : ∀ {pl : List (Addr × Obj)} {p : Addr × Obj}, p ∈ (xat (blk X scope cl hp.objs.size Nb { s2 with heap := hp } H2 (s2.heap.objs.size :: fp)) ca [] F0).pn ++ pl → p ∈ pl := fun h => h
  have toUn : ∀ {pl : List (Addr × Obj)} {σ' : L2.St} {H' : Hp} {s' : Shared}, Inv (xat (blk X scope cl hp.objs.size Nb { s2 with heap := hp } H2 (s2.heap.objs.size :: fp)) ca [] F0) pl σ' H' s' → Un (frs (xat X ca pn F0).stack) (s2.heap.objs.size :: fp) H2 H' hp s'.heap := fun I => I.base
  have toOs : ∀ {pl : List (Addr × Obj)} {σ' : L2.St} {H' : Hp} {s' : Shared}, Inv (xat (blk X scope cl hp.objs.size Nb { s2 with heap := hp } H2 (s2.heap.objs.size :: fp)) ca [] F0) pl σ' H' s' → s'.os = s2.os := fun I => I.os
  generalize blk X scope cl hp.objs.size Nb { s2 with heap := hp } H2 (s2.heap.objs.size :: fp) = Xb at okb hgB hiB heB Ib eK eP eW eA eE eC eX eN toUn toOs
  -- the iterator's records, through the block
  have FpB : ∀ {H : Hp} {pl : List (Addr × Obj)}, (∀ b ∈ fp, H b = none) → (∀ p ∈ pl, p.1 ∉ fp) → ∀ b ∈ fp, FpOk (xat Xb ca [] F0) pl H b := fun {H pl} hn hpl b hb => by
    have e0 := okb.exf b (eX b (List.mem_cons_of_mem _ hb))
    refine ⟨hn b hb, e0.1, ?_, .inl (eX b (List.mem_cons_of_mem _ hb)), e0.2, fun p hp z => ?_⟩
    · exact okb.exfs b (eX b (List.mem_cons_of_mem _ hb))
    · have hp' : p ∈ pl := eN hp
      exact hpl p hp' (z ▸ hb)
  have FpD : ∀ {H : Hp}, H s2.heap.objs.size = none → FpOk (xat Xb ca [] F0) [] H s2.heap.objs.size := fun {H} hn => by
    have e0 := okb.exf s2.heap.objs.size (eX _ List.mem_cons_self)
    refine ⟨hn, e0.1, ?_, .inl (eX _ List.mem_cons_self), e0.2, fun p hp => ?_⟩
    · exact okb.exfs s2.heap.objs.size (eX _ List.mem_cons_self)
    · exact absurd (eN hp) (by simp)
  have st4 : tn 0 h₁ := T.keep _ _ _ st2 fun b hb o e => old b o (by rw [← hH2]; exact Heap.get?_push_of_some _ e)
  -- the invariant
  have loop : ∀ s4 : Shared, s4 = { s2 with heap := h₁, toks := s2.toks + ([] : List (Str × Value)).length } →
      codeAny (model X.prog X.w) X.A (.compLoop (.ListComp elt [⟨tg, iter, ifs, 0⟩] scope pos) 0 (.ref it) (.ref s2.heap.objs.size) (compEnvC scope cl hp.objs.size X.env)) (RR (.ref s2.heap.objs.size) hp.objs.size) s4 := by
    rintro s4 rfl
    refine compLoop_gen (fun n s' => ∃ (i : Nat) (σ4 : S3) (g4 : G) (μ4 : List Addr) (σ5 : L2.St) (H4 : Hp) (acc : List D) (accV : List V) (its : List Value) (k : Nat), Inv (xat Xb ca [] F0) [] σ5 H4 s' ∧ tn i s'.heap ∧ (∀ b ∈ fp, H4 b = none) ∧ H4 s2.heap.objs.size = none ∧
      s'.heap.get? s2.heap.objs.size = some { cls := .type "list", data := .seq its.toArray k } ∧ Vals accV its ∧ Ext X.K μ2 H2 μ4 H4 ∧ Rep X.K ca μ4 σ4 g4 σ5 H4 ∧ Dens X.K μ4 H4 accV acc ∧ compL src f tc me n i σ4 g4 acc = .ok ds g2 ∧
      acc.length ≤ i ∧ i + n ≤ SZ + 1) ?_ (src.top + 1) ⟨0, capt no cap σ3, g1, μ2, _, H2, [], [], [], _, Ib, st4, fun b hb => (f2 b hb).1, fD.1, old _ _ hD3, .nil, .refl, RbR, .nil, hL, Nat.le_refl _, by omega⟩
    rintro n s5 ⟨i, σ4, g4, μ4, σ5, H4, acc, accV, its, k, I5, st5, fr5, frD, hD5, va, e5, R5, da, hl5, ha5, hn5⟩
    cases n with
    | zero => cases hl5
    | succ n =>
      unfold compL at hl5
      have s1 := sim i H4 μ4 g4 e5 R5.g
      have pinD : Inv (xat Xb ca [] F0) [(s2.heap.objs.size, { cls := .type "list", data := .seq its.toArray k })] σ5 H4 s5 := I5.pins_of fun p hp => by
        rw [List.mem_singleton.mp hp]
        have z := FpD frD
        exact ⟨hD5, frD, z.2.1, z.2.2.1, fun v q => by cases q⟩
      have nofp : ∀ p ∈ [(s2.heap.objs.size, ({ cls := .type "list", data := .seq its.toArray k } : Obj))], p.1 ∉ fp := fun p hp => by rw [List.mem_singleton.mp hp]; exact DnF
      have getD : ∀ {σ' : L2.St} {H' : Hp} {s' : Shared} {pl : List (Addr × Obj)}, Inv (xat Xb ca [] F0) ([(s2.heap.objs.size, ({ cls := .type "list", data := .seq its.toArray k } : Obj))] ++ pl) σ' H' s' → s'.heap.get? s2.heap.objs.size = some { cls := .type "list", data := .seq its.toArray k } ∧ H' s2.heap.objs.size = none := fun {σ' H' s' pl} I' => by
        have z := I'.pin (s2.heap.objs.size, { cls := .type "list", data := .seq its.toArray k }) (List.mem_append_right _ (List.mem_append_left _ (List.mem_singleton.mpr rfl)))
        exact ⟨z.1, z.2.1⟩
      cases hat : src.at' g4 i with
      | none => rw [hat] at hl5; cases hl5
      | some od =>
        rw [hat] at hl5 s1
        cases od with
        | none =>
          cases hl5
          have dn := T.done (xat Xb ca [] F0) eP eW eK eC i _ s5 σ5 H4 (fun _ _ => False) pinD (FpB fr5 nofp) st5 s1
          rw [eA] at dn
          refine thn dn fun r s6 ⟨hr, I6⟩ => ?_
          subst hr
          obtain ⟨hD6, frD6⟩ := getD (pl := []) (by rw [List.append_nil]; exact I6)
          have un : Un (frs (xat X ca pn F0).stack) (s2.heap.objs.size :: fp) H2 H4 hp s6.heap := toUn I6
          have hok : HOk (xat X ca pn F0).prog (xat X ca pn F0).w H4 s6.heap := by have := I6.hok; rw [eP, eW] at this; exact this
          have os : s6.os = s2.os := toOs I6
          have I7 : Inv (xat X ca pn F0) pins σ H4 s6 := Inv.call' (s' := s6) (ch := s2.heap.objs.size :: fp) I3 os un hok I6.bare fun b hb => ⟨(exOk b hb).2.2.2.1, (exOk b hb).2.1, (exOk b hb).2.2.2.2.1, (exOk b hb).2.2.2.2.2⟩
          have hCn : H4 hp.objs.size = none := by have := I6.free; rw [eE] at this; exact this
          have nsC : ∃ m, s6.heap.Ns hp.objs.size m := by obtain ⟨m, hm, _⟩ := I6.loc; rw [eE] at hm; exact ⟨m, hm⟩
          refine fin _ _ s6 H4 μ4 accV its k I7 nsC (FpOk.mono fC hCn) (FpOk.mono fD frD6) DnC hD6 va ?_ e5 R5.g da
          rw [da.length]
          have := sz_line
          omega
        | some d =>
          obtain ⟨go, yl⟩ := s1
          dsimp only at hl5
          cases hf : f d σ4 with
          | none => rw [hf] at hl5; cases hl5
          | some σ6 =>
            rw [hf] at hl5
            dsimp only at hl5
            have im := T.item (xat Xb ca [] F0) eP eW eK eC i _ s5 σ5 H4 (fun _ _ => False) pinD (FpB fr5 nofp) st5 go
            rw [eA] at im
            refine thn im fun r s6 ⟨u, hr, h6⟩ => ?_
            subst hr
            refine thn h6 fun _ s7 ⟨x, H7, I7, r7, y7, st7, fr7⟩ => ?_
            obtain ⟨e7, g7, q7⟩ := yl x H7 y7
            have I7' := I7.pinned (FpB fr7 nofp) (T.obj _ _ st7)
            have R7 := R5.go e7 g7
            have asg := hgB [] F0 _ s7 σ5 H7 x u (fun σ' H' => H' = H7 ∧ Rep X.K ca μ4 σ6 g4 σ' H7) I7' r7 (by
              have : Xb.K = X.K := eK
              rw [this]
              exact ⟨σ4, g4, μ4, d, σ6, R7, q7, hf, fun σ' R' => ⟨rfl, R'⟩⟩)
            rw [eP, eW, eA, eE] at asg
            refine thn (noX asg) fun _ s8 ⟨σ8, H8, I8, e8, R8⟩ => ?_
            subst e8
            cases ht : tc σ6 g4 with
            | raise _ _ => rw [ht] at hl5; cases hl5
            | stuck => rw [ht] at hl5; cases hl5
            | ok b g9 =>
              rw [ht] at hl5
              have hl5 : (if b = true then (match me σ6 g9 with | .ok y g2 => compL src f tc me n (i + 1) σ6 g2 (acc ++ [y]) | _ => .stuck) else compL src f tc me n (i + 1) σ6 g9 acc) = .ok ds g2 := hl5
              have tst := hiB _ s8 σ8 _ (fun b' H' => b' = b ∧ ∃ μ9, Ext X.K μ4 H8 μ9 H' ∧ Rep X.K ca μ9 σ6 g9 σ8 H') I8 (by
                have : Xb.K = X.K := eK
                rw [this]
                refine ⟨σ6, g4, μ4, R8, ?_⟩
                rw [ht]
                exact fun H' μ' e' r' => ⟨rfl, μ', e', R8.go e' r'⟩)
              have eP' : Xb.prog = X.prog := eP
              have eW' : Xb.w = X.w := eW
              have eA' : Xb.A = X.A := eA
              have eE' : Xb.env = compEnvC scope cl hp.objs.size X.env := eE
              rw [eP', eW', eA', eE'] at tst
              refine thn tst fun ok s9 ⟨H9, I9, eb, μ9, e9, R9⟩ => ?_
              subst eb
              have again : ∀ {σ' : L2.St} {H' : Hp} {s' : Shared}, Inv (xat Xb ca [] F0) ([(s2.heap.objs.size, ({ cls := .type "list", data := .seq its.toArray k } : Obj))] ++ pinsAt fp s7.heap) σ' H' s' → Inv (xat Xb ca [] F0) [] σ' H' s' ∧ tn (i + 1) s'.heap ∧ ∀ b ∈ fp, H' b = none := fun {σ' H' s'} I' => by
                refine ⟨I'.pins_of fun p hp => absurd hp (by simp), T.keep _ _ _ st7 fun b hb o e => (I'.pin (b, o) (List.mem_append_right _ (List.mem_append_right _ (mem_pinsAt hb e)))).1, fun b hb => ?_⟩
                obtain ⟨o, e, _⟩ := T.obj _ _ st7 b hb
                exact (I'.pin (b, o) (List.mem_append_right _ (List.mem_append_right _ (mem_pinsAt hb e)))).2.1
              cases ok with
              | false =>
                rw [if_neg Bool.false_ne_true] at hl5 ⊢
                obtain ⟨J1, J2, J3⟩ := again I9
                obtain ⟨K1, K2⟩ := getD I9
                refine ⟨n, Nat.lt_succ_self n, i + 1, σ6, g9, μ9, σ8, H9, acc, accV, its, k, J1, J2, J3, K2, K1, va, (e5.trans e7).trans e9, R9, (da.mono e7).mono e9, hl5, by omega, by omega⟩
              | true =>
                rw [if_pos rfl] at hl5 ⊢
                cases hm : me σ6 g9 with
                | raise _ _ => rw [hm] at hl5; cases hl5
                | stuck => rw [hm] at hl5; cases hl5
                | ok y g10 =>
                  rw [hm] at hl5
                  have hl5 : compL src f tc me n (i + 1) σ6 g10 (acc ++ [y]) = .ok ds g2 := hl5
                  have el := heB [] F0 _ s9 σ8 H9 (fun vy H' => ∃ μ10, Ext X.K μ9 H9 μ10 H' ∧ Rep X.K ca μ10 σ6 g10 σ8 H' ∧ Den X.K μ10 H' vy y) I9 (by
                    have : Xb.K = X.K := eK
                    rw [this]
                    refine ⟨σ6, g9, μ9, R9, ?_⟩
                    rw [hm]
                    exact fun v H' μ' e' r' q' => ⟨μ', e', R9.go e' r', q'⟩)
                  rw [eP, eW, eA, eE] at el
                  refine thn (noX el) fun uy s10 ⟨vy, H10, I10, ry, μ10, e10, R10, qy⟩ => ?_
                  obtain ⟨K1, K2⟩ := getD I10
                  obtain ⟨J1, J2, J3⟩ := again I10
                  have hlen : its.length = acc.length := by rw [← va.length, da.length]
                  refine call_meets F.slot_list_append ⟨_, K1, rfl⟩ F.entry_list_append (F.args_list_append_2 _ _) (PySem.list_append s2.heap.objs.size its.toArray k uy (by rw [List.size_toArray, sizeLine_eq]; have : SZ = 1000000 := rfl; omega)) ⟨K1, ?_⟩
                  have up := PySem.IsL.update K1 (·.push uy)
                  rw [show its.toArray.push uy = (its ++ [uy]).toArray by simp] at up
                  have upo : ∀ b o, b ≠ s2.heap.objs.size → s10.heap.get? b = some o → (s10.heap.update s2.heap.objs.size (Obj.mapSeq (·.push uy))).get? b = some o := fun b o hb e => (Heap.get?_update_other s10.heap (Obj.mapSeq (·.push uy)) (Ne.symm hb)).trans e
                  obtain ⟨d0, d1, d2, d3, d4, d5⟩ := FpD K2
                  refine ⟨n, Nat.lt_succ_self n, i + 1, σ6, g10, μ10, σ8, H10, acc ++ [y], accV ++ [vy], its ++ [uy], _, J1.turned (t' := s10.toks) upo d0 d1 d3 d4 d5, T.keep _ _ _ J2 fun b hb o e => upo b o (fun z => DnF (z ▸ hb)) e, J3, K2, up, va.append (.cons ry .nil),
                    ((e5.trans e7).trans e9).trans e10, R10, ((da.mono e7).mono e9).mono e10 |>.append (.cons qy .nil), hl5, by rw [List.length_append, List.length_singleton]; omega, by omega⟩
  exact codeAny_compStart_list (loop _ rfl) (T.self _ 0 _ _ _ st4 (loop _ rfl))
end
end L3

end
section
namespace L3
open PySem PySem.Spec PyProof.Rows L2
section
variable {X : Cx} {ca : Nat → Addr}
theorem mComp_ok {K : PySem.W.Frag} {Φ : XS} {σ : L2.St} {Q : VK} {H : Hp} {μ : List Addr} {mi : MI} {no : Nat} {cap : List Nat} {f : MG} {tc : MT} {me : ME} {σ3 : S3} {g : G} (p : Post K ca Φ σ Q H μ (mComp mi no cap f tc me σ3 g)) :
    ∃ src g1 ds g2, mi σ3 g = .ok src g1 ∧ src.top ≤ SZ ∧ compL src f tc me (src.top + 1) 0 (capt no cap σ3) g1 [] = .ok ds g2 ∧ Post K ca Φ σ Q H μ (.ok (.ref g2.length) (g2 ++ [.lst ds])) := by
  unfold mComp at p
  cases hm : mi σ3 g with
  | raise _ _ => rw [hm] at p; exact p.elim
  | stuck => rw [hm] at p; exact p.elim
  | ok src g1 =>
    rw [hm] at p
    dsimp only at p
    by_cases hz : src.top ≤ SZ
    · rw [if_pos hz] at p
      cases hL : compL src f tc me (src.top + 1) 0 (capt no cap σ3) g1 [] with
      | raise _ _ => rw [hL] at p; exact p.elim
      | stuck => rw [hL] at p; exact p.elim
      | ok ds g2 => rw [hL] at p; exact ⟨src, g1, ds, g2, rfl, hz, hL, p⟩
    · rw [if_neg hz] at p; exact p.elim
theorem r_comp {tg iter elt : Expr} {ifs : List Expr} {scope : Scope} {pos : Pos} {Nb : List Str} {no : Nat} {cap : List Nat} {mi : MI} {f : MG} {tc : MT} {me : ME}
    (B : BScope X scope Nb no cap) (hc : X.calm = true) (hi : PI3 ca X tg iter mi)
    (hb : ∀ cl C s3 H3 ex, PG3 ca (blk X scope cl C Nb s3 H3 ex) tg f ∧ PIf ca (blk X scope cl C Nb s3 H3 ex) ifs tc ∧ PE3 ca (blk X scope cl C Nb s3 H3 ex) elt me)
    (hs : ∀ x, foldedSetIterable iter X.env x = pure x := by intro _; rfl) : PE3 ca X (.ListComp elt [⟨tg, iter, ifs, 0⟩] scope pos) (mComp mi no cap f tc me) := by
  intro pn Φ pins s σ H Q I' ⟨σ3, g, μ, R, p⟩
  obtain ⟨src, g1, ds, g2, hm, hz, hL, p⟩ := mComp_ok p
  have I : Inv (xat X ca pn F0) pins σ H s := Inv.wish I' _
  suffices hh : wpAny (model X.prog X.w) X.A (eval (.ListComp elt [⟨tg, iter, ifs, 0⟩] scope pos) X.env) (EP (xat X ca pn F0) pins σ Q) (fun _ _ => False) s from
    wpAny_mono hh (fun u s' ⟨v, H', J, r, q⟩ => ⟨v, H', Inv.wish J _, r, q⟩) fun _ _ z => z.elim
  obtain ⟨cl, hcl⟩ := clOf_some (cells := X.env.cells) scope.names [] fun y hy hf => I.ok.has y.1 (B.free y hy hf)
  rw [eval_ListComp]
  refine wpAny_comprehension_free (env := X.env) (use := none) rfl hs (closureFor_of hcl) B.kind B.loc ?_
  refine thn (noX (hi pn F0 pins s σ H (fun J H' => ∃ μ', Ext X.K μ H μ' H' ∧ GRep X.K ca μ' H' g1 ∧ Sim X.K ca μ' H' src J) I ⟨σ3, g, μ, R, ?_⟩)) fun v s1 h1 => thn (noX h1) fun itv s2 h2 => ?_
  · rw [hm]
    exact fun J H' μ' e r sm => ⟨μ', e, r, sm⟩
  · obtain ⟨it, fp, tn, J, H2, e, I2, T, st2, f2, μ2, e2, r2, sim⟩ := h2
    subst e
    refine comp_core (X := X) (pn := pn) (RR := fun acc C => compPost (model X.prog X.w) X.A (fun _ _ => False) none (EP (xat X ca pn F0) pins σ Q) acc C) B hc hb hcl I2 T st2 f2 (R.go e2 r2) sim hz hL ?_
    intro D C s' H4 μ4 accV its k I4 nsC fC fD dc hD va hl e4 r4 da
    obtain ⟨m, nsC⟩ := nsC
    refine ⟨m, nsC, fun h'' hs'' => ?_⟩
    have I5 : Inv (xat X ca pn F0) pins σ H4 { s' with heap := h'' } := I4.turned (t' := s'.toks) (fun b o hb e => hs''.extBut b o hb e) fC.1 fC.2.1 fC.2.2.2.1 fC.2.2.2.2.1 fC.2.2.2.2.2
    have hD' := hs''.extBut _ _ dc hD
    have I6 := Inv.track (o := .lst accV) I5 fD ⟨hl, its, k, va, hD'⟩
    refine ⟨.ref D, _, I6, rfl, p _ _ (μ4 ++ [D]) ((e2.trans e4).trans (ext_push fD.1)) (r4.push fD.1 ⟨accV, upd_same, da.mono (ext_push fD.1)⟩) (.ref ?_)⟩
    rw [← r4.len]; simp
end
end L3

end
section
namespace L3
open PySem PySem.Spec PyProof.Rows L2
section
variable {X : Cx} {ca : Nat → Addr} {a b : Expr} {ma mb : ME} {pos : Pos}
theorem op_catT0 : OpR X (binaryOp .Add) (fun x y H Q => ∃ a b ys, x = .ref a ∧ y = .ref b ∧ SqT X.K H a [] ∧ SqT X.K H b ys ∧ Q (.ref b) H) := by
  intro pins s σ H x y v u Q I rx ry h
  obtain ⟨a, b, ys, rfl, rfl, ha, hb, q⟩ := h
  cases rx
  cases ry
  obtain ⟨us, r1, p1, _⟩ := I.tuple ha
  obtain ⟨ts, r2, p2, _⟩ := I.tuple hb
  cases r1
  obtain ⟨⟨cls, dd, data, sl⟩, ho, hc, n, hd⟩ := id p1
  obtain ⟨⟨cls2, dd2, data2, sl2⟩, ho2, hc2, n2, hd2⟩ := id p2
  simp only at hc hd hc2 hd2
  subst hc hd hc2 hd2
  exact concat_meets ⟨_, ho, rfl⟩ ⟨_, ho2, rfl⟩ noFill_tuple_add seq_tuple_add PySem.F.slot_tuple_add PySem.F.entry_tuple_add (PySem.F.args_tuple_add_2 _ _)
      (tuple_addW0 a b _ _ n n2 dd dd2 sl sl2 (by simp)) ⟨ho, ho2, ⟨.ref b, H, I, rfl, q⟩⟩
theorem prim_add {K : PySem.W.Frag} : Prim2 K ca (fun x y H Q => ((((∃ i j, x = .int i ∧ y = .int j ∧ Q (.int (i + j)) H) ∨ (∃ i j, x = .str i ∧ y = .str j ∧ i.length + j.length ≤ sizeLine ∧ Q (.str (i ++ j)) H)) ∨ rCatT K x y H Q) ∨ rCat x y H Q) ∨ (∃ a b ys, x = .ref a ∧ y = .ref b ∧ SqT K H a [] ∧ SqT K H b ys ∧ Q (.ref b) H)) pAdd := by
  intro Φ σ H μ g x y dx dy Q r qx qy p
  unfold pAdd at p
  cases qx with
  | int i =>
    cases qy with
    | int j => exact .inl (.inl (.inl (.inl ⟨i, j, rfl, rfl, p _ H μ .refl r (.int _)⟩)))
    | _ => exact p.elim
  | str s =>
    cases qy with
    | str t =>
      dsimp only at p
      by_cases z : s.length + t.length ≤ SZ
      · rw [if_pos z] at p
        exact .inl (.inl (.inl (.inr ⟨s, t, rfl, rfl, Nat.le_trans z sz_line, p _ H μ .refl r (.str _)⟩)))
      · rw [if_neg z] at p; exact p.elim
    | _ => exact p.elim
  | @tup ax xs dsx hx hsx =>
    cases qy with
    | @tup ay ys dsy hy hsy =>
      dsimp only at p
      by_cases z : dsx.length + dsy.length ≤ SZ
      · rw [if_pos z] at p
        by_cases hx0 : dsx = []
        · subst hx0
          cases hsx
          exact .inr ⟨ax, ay, ys, rfl, rfl, hx, hy, p _ H μ .refl r (.tup hy hsy)⟩
        · refine .inl (.inl (.inr ⟨ax, ay, xs, ys, rfl, rfl, hx, hy, ?_, by rw [hsx.length, hsy.length]; exact Nat.le_trans z sz_line, fun e => ?_, fun _ t ht => p _ _ μ (ext_new ht) (r.new ht) (.tup (.of upd_same) ((hsx.append hsy).mono (ext_new ht)))⟩))
          · rintro rfl
            cases hsx
            exact hx0 rfl
          · subst e
            cases hsy
            rw [List.append_nil] at p
            exact p _ H μ .refl r (.tup hx hsx)
      · rw [if_neg z] at p; exact p.elim
    | _ => exact p.elim
  | @ref n an hn =>
    cases qy with
    | @ref m am hm =>
      dsimp only at p
      cases hg : g[n]? with
      | none => rw [hg] at p; exact p.elim
      | some o =>
        cases hg2 : g[m]? with
        | none => rw [hg, hg2] at p; cases o <;> exact p.elim
        | some o2 =>
          rw [hg, hg2] at p
          obtain ⟨a1, ha1, or1⟩ := r.addr hg
          obtain ⟨a2, ha2, or2⟩ := r.addr hg2
          rw [hn] at ha1; cases ha1
          rw [hm] at ha2; cases ha2
          cases o with
          | lst xs =>
            cases o2 with
            | lst ys =>
              dsimp only at p
              obtain ⟨vs, hH, q⟩ := or1
              obtain ⟨ws, hH2, q2⟩ := or2
              by_cases z : xs.length + ys.length ≤ SZ
              · rw [if_pos z] at p
                refine .inl (.inr ⟨an, am, vs, ws, rfl, rfl, hH, hH2, by rw [q.length, q2.length]; exact Nat.le_trans z sz_line, fun t ht => p _ _ (μ ++ [t]) (ext_push ht) (r.push ht ⟨_, upd_same, (q.append q2).mono (ext_push ht)⟩) (.ref ?_)⟩)
                rw [← r.len]; simp
              · rw [if_neg z] at p; exact p.elim
            | _ => exact p.elim
          | _ => cases o2 <;> exact p.elim
    | _ => exact p.elim
  | _ => cases qy <;> exact p.elim
theorem r_add (ha : PE3 ca X a ma) (hb : PE3 ca X b mb) : PE3 ca X (.BinOp a .Add b pos) (mOp2 pAdd ma mb) :=
  r_bin (fun _ _ => (((op_add.or op_add_str).or op_catT).or op_cat).or op_catT0) prim_add ha hb
theorem prim_ii {K : PySem.W.Frag} {C : Int → Int → Prop} {h : Int → Int → V} {f : D → D → G → Res D} (hf : ∀ Φ σ i j g Q H μ, GRep K ca μ H g → Post K ca Φ σ Q H μ (f (.int i) (.int j) g) → C i j ∧ Q (h i j) H)
    (hn : ∀ Φ σ x y g Q H μ, Post K ca Φ σ Q H μ (f x y g) → ∃ i j, x = .int i ∧ y = .int j) : Prim2 K ca (rI C h) f := by
  intro Φ σ H μ g x y dx dy Q r qx qy p
  obtain ⟨i, j, rfl, rfl⟩ := hn Φ σ dx dy g Q H μ p
  cases qx
  cases qy
  obtain ⟨c, q⟩ := hf Φ σ i j g Q H μ r p
  exact ⟨i, j, rfl, rfl, c, q⟩
theorem prim_ii0 {K : PySem.W.Frag} {h : Int → Int → V} {f : D → D → G → Res D} (hf : ∀ Φ σ i j g Q H μ, GRep K ca μ H g → Post K ca Φ σ Q H μ (f (.int i) (.int j) g) → Q (h i j) H)
    (hn : ∀ Φ σ x y g Q H μ, Post K ca Φ σ Q H μ (f x y g) → ∃ i j, x = .int i ∧ y = .int j) : Prim2 K ca (rI0 h) f := by
  intro Φ σ H μ g x y dx dy Q r qx qy p
  obtain ⟨i, j, rfl, rfl⟩ := hn Φ σ dx dy g Q H μ p
  cases qx
  cases qy
  exact ⟨i, j, rfl, rfl, hf Φ σ i j g Q H μ r p⟩
theorem two_ints {K : PySem.W.Frag} {f : D → D → G → Res D} (h : ∀ x y g, (∃ i j, x = D.int i ∧ y = D.int j) ∨ f x y g = .stuck) (Φ : XS) (σ : L2.St) (x y : D) (g : G) (Q : VK) (H : Hp) (μ : List Addr) (p : Post K ca Φ σ Q H μ (f x y g)) : ∃ i j, x = .int i ∧ y = .int j := by
  rcases h x y g with z | z
  · exact z
  · rw [z] at p; exact p.elim
theorem r_sub (ha : PE3 ca X a ma) (hb : PE3 ca X b mb) : PE3 ca X (.BinOp a .Sub b pos) (mOp2 pSub ma mb) :=
  r_bin (fun _ _ => op_sub) (prim_ii0 (fun Φ σ i j g Q H μ r p => p _ H μ .refl r (.int _)) (two_ints fun x y g => by cases x <;> cases y <;> first | exact .inl ⟨_, _, rfl, rfl⟩ | exact .inr rfl)) ha hb
theorem r_fdiv (ha : PE3 ca X a ma) (hb : PE3 ca X b mb) : PE3 ca X (.BinOp a .FloorDiv b pos) (mOp2 pFdiv ma mb) :=
  r_bin (fun _ _ => op_fdiv) (prim_ii (fun Φ σ i j g Q H μ r p => by
    unfold pFdiv at p
    by_cases z : 0 < j ∧ j < 1073741824
    · dsimp only at p; rw [if_pos z] at p; exact ⟨z, p _ H μ .refl r (.int _)⟩
    · dsimp only at p; rw [if_neg z] at p; exact p.elim) (two_ints fun x y g => by cases x <;> cases y <;> first | exact .inl ⟨_, _, rfl, rfl⟩ | exact .inr rfl)) ha hb
theorem r_mod (ha : PE3 ca X a ma) (hb : PE3 ca X b mb) : PE3 ca X (.BinOp a .Mod b pos) (mOp2 pMod ma mb) :=
  r_bin (fun _ _ => op_mod) (prim_ii (fun Φ σ i j g Q H μ r p => by
    unfold pMod at p
    by_cases z : 0 < j
    · dsimp only at p; rw [if_pos z] at p; exact ⟨z, p _ H μ .refl r (.int _)⟩
    · dsimp only at p; rw [if_neg z] at p; exact p.elim) (two_ints fun x y g => by cases x <;> cases y <;> first | exact .inl ⟨_, _, rfl, rfl⟩ | exact .inr rfl)) ha hb
theorem r_mul (ha : PE3 ca X a ma) (hb : PE3 ca X b mb) : PE3 ca X (.BinOp a .Mult b pos) (mOp2 pMul ma mb) :=
  r_bin (fun _ _ => op_mul) (fun Φ σ H μ g x y dx dy Q r qx qy p => by
    unfold pMul at p
    cases qx with
    | int i =>
      cases qy with
      | int j =>
        dsimp only at p
        by_cases z : cM i ∨ cM j
        · rw [if_pos z] at p; exact ⟨i, j, rfl, rfl, z, p _ H μ .refl r (.int _)⟩
        · rw [if_neg z] at p; exact p.elim
      | _ => exact p.elim
    | _ => cases qy <;> exact p.elim) ha hb
theorem prim_cmp {K : PySem.W.Frag} (r : Int → Int → Bool) : Prim2 K ca (rI0 fun i j => .bl (r i j)) (pCmp r) :=
  prim_ii0 (fun Φ σ i j g Q H μ r p => p _ H μ .refl r (.bl _)) (two_ints fun x y g => by cases x <;> cases y <;> first | exact .inl ⟨_, _, rfl, rfl⟩ | exact .inr rfl)
theorem r_gtT (ha : PE3 ca X a ma) (hb : PE3 ca X b mb) : PT3 ca X (.Compare a [.Gt] [b] pos) (mTest (mOp2 pGt ma mb)) := r_testC (fun _ _ => op_gt) (prim_cmp _) ha hb (nomark b)
end
end L3

end
section
namespace L3
open PySem PySem.Spec PyProof.Rows L2
section
variable {ca : Nat → Addr}
theorem prim_eq {K : PySem.W.Frag} : Prim2 K ca rEq pEq := by
  intro Φ σ H μ g x y dx dy Q r qx qy p
  unfold pEq eqT at p
  cases qx with
  | int i =>
    cases qy with
    | int j => exact ⟨rfl, by rw [dec_int]; exact p _ H μ .refl r (.bl _)⟩
    | _ => exact p.elim
  | str i =>
    cases qy with
    | str j => exact ⟨rfl, by rw [dec_str]; exact p _ H μ .refl r (.bl _)⟩
    | _ => exact p.elim
  | bl i =>
    cases qy with
    | bl j => exact ⟨rfl, by rw [dec_bl]; exact p _ H μ .refl r (.bl _)⟩
    | _ => exact p.elim
  | _ => cases qy <;> exact p.elim
theorem dens_ints {K : PySem.W.Frag} {μ : List Addr} {H : Hp} : ∀ {vs : List V} {ds : List D} {ns : List Int}, Dens K μ H vs ds → intsD ds = some ns → vs = ns.map V.int
  | _, _, ns, .nil, h => by cases h; rfl
  | _, _, ns, .cons (ds := ds) h1 h2, h => by
    cases h1 with
    | int i =>
      unfold intsD at h
      cases hr : intsD ds with
      | none => rw [hr] at h; cases h
      | some ms => rw [hr] at h; cases h; rw [List.map_cons, dens_ints h2 hr]
    | _ => cases h
noncomputable def rNeL (K : PySem.W.Frag) : R2 := fun x y H Q => ∃ (a c : Addr) (is js : List Int), x = .ref a ∧ y = .ref c ∧ SqL K H a (is.map V.int) ∧ SqL K H c (js.map V.int) ∧ Q (.bl (!decide (is = js))) H
theorem op_neL {X : Cx} (hu : X.A.units + 16 < cLine) : OpR X (compareOp .NotEq) (rNeL X.K) := by
  intro pins s σ H x y v u Q I rx ry h
  obtain ⟨a, c, is, js, rfl, rfl, h1, h2, q⟩ := h
  cases rx; cases ry
  obtain ⟨us, r1, p1, _⟩ := I.list h1
  obtain ⟨ts, r2, p2, _⟩ := I.list h2
  have l1 : us.length = is.length := by rw [← r1.length, List.length_map]
  have l2 : ts.length = js.length := by rw [← r2.length, List.length_map]
  have key : SeqAt.RcNeAt X.A s (.ref a) (.ref c) (!decide (is = js)) := by
    by_cases hl : is.length = js.length
    · have k := SeqAt.RcNeAt.lists (A := X.A) p1.isList p2.isList (by simp only [List.size_toArray]; omega) (by omega) (e := fun j => is[j]? == js[j]?) (fun j h1 h2 => by
        have z1 : j < us.length := by simpa using h1
        have z2 : j < ts.length := by simpa using h2
        obtain ⟨u, hu, t, ru⟩ := r1.get (i := j) (x := V.int (is[j]'(by omega))) (by rw [List.getElem?_map, List.getElem?_eq_getElem (by omega)]; rfl)
        obtain ⟨u', hu', t', ru'⟩ := r2.get (i := j) (x := V.int (js[j]'(by omega))) (by rw [List.getElem?_map, List.getElem?_eq_getElem (by omega)]; rfl)
        have w1 : us.toArray[j] = Value.int (is[j]'(by omega)) t := by
          have : us[j] = u := by simpa [List.getElem?_eq_getElem z1] using hu
          simpa [ru] using this
        have w2 : ts.toArray[j] = Value.int (js[j]'(by omega)) t' := by
          have : ts[j] = u' := by simpa [List.getElem?_eq_getElem z2] using hu'
          simpa [ru'] using this
        rw [w1, w2, List.getElem?_eq_getElem (show j < is.length by omega), List.getElem?_eq_getElem (show j < js.length by omega)]
        exact SeqAt.EqAt.int_int _ _ _ _)
      have e : (List.range us.toArray.size).all (fun j => is[j]? == js[j]?) = decide (is = js) := by
        rw [Bool.eq_iff_iff, List.all_eq_true, decide_eq_true_eq]
        refine ⟨fun h => List.ext_getElem? fun j => ?_, fun h j _ => by rw [h]; simp⟩
        by_cases hj : j < is.length
        · exact beq_iff_eq.mp (h j (List.mem_range.mpr (by simp only [List.size_toArray]; omega)))
        · rw [List.getElem?_eq_none (by omega), List.getElem?_eq_none (by omega)]
      rw [← e]
      exact k
    · have e : decide (is = js) = false := decide_eq_false fun z => hl (by rw [z])
      rw [e]
      exact SeqAt.RcNeAt.lists_lengths p1.isList p2.isList (by simp only [List.size_toArray, l1, l2]; simpa using hl) (by omega)
  exact key _ _ _ _ ⟨.bl _, H, I, rfl, q⟩
theorem prim_ne {K : PySem.W.Frag} : Prim2 K ca (fun x y H Q => rNe x y H Q ∨ rNeL K x y H Q) pNe := by
  intro Φ σ H μ g x y dx dy Q r qx qy p
  unfold pNe neT at p
  cases qx with
  | non =>
    cases qy with
    | non => exact .inl ⟨rfl, p _ H μ .refl r (.bl _)⟩
    | int j => exact .inl ⟨rfl, p _ H μ .refl r (.bl _)⟩
    | _ => exact p.elim
  | int i =>
    cases qy with
    | int j => exact .inl ⟨rfl, by rw [dec_int]; exact p _ H μ .refl r (.bl _)⟩
    | non => exact .inl ⟨rfl, p _ H μ .refl r (.bl _)⟩
    | _ => exact p.elim
  | str i =>
    cases qy with
    | str j => exact .inl ⟨rfl, by rw [dec_str]; exact p _ H μ .refl r (.bl _)⟩
    | _ => exact p.elim
  | bl i =>
    cases qy with
    | bl j => exact .inl ⟨rfl, by rw [dec_bl]; exact p _ H μ .refl r (.bl _)⟩
    | _ => exact p.elim
  | @ref n a hn =>
    cases qy with
    | @ref m c hm =>
      dsimp only at p
      cases hg : g[n]? with
      | none => rw [hg] at p; exact p.elim
      | some o1 =>
        cases hg2 : g[m]? with
        | none => rw [hg, hg2] at p; cases o1 <;> exact p.elim
        | some o2 =>
          rw [hg, hg2] at p
          obtain ⟨b1, hb1, ob1⟩ := r.addr hg
          obtain ⟨b2, hb2, ob2⟩ := r.addr hg2
          rw [hn] at hb1; cases hb1
          rw [hm] at hb2; cases hb2
          cases o1 with
          | lst xs =>
            cases o2 with
            | lst ys =>
              obtain ⟨vs, hH1, q1⟩ := ob1
              obtain ⟨ws, hH2, q2⟩ := ob2
              dsimp only at p
              cases e1 : intsD xs with
              | none => rw [e1] at p; exact p.elim
              | some is =>
                cases e2 : intsD ys with
                | none => rw [e1, e2] at p; exact p.elim
                | some js =>
                  rw [e1, e2] at p
                  have z1 := dens_ints q1 e1
                  have z2 := dens_ints q2 e2
                  subst z1 z2
                  exact .inr ⟨a, c, is, js, rfl, rfl, .of hH1, .of hH2, p _ H μ .refl r (.bl _)⟩
            | _ => exact p.elim
          | _ => cases o2 <;> exact p.elim
    | _ => exact p.elim
  | _ => cases qy <;> exact p.elim
end
section
variable {X : Cx} {ca : Nat → Addr} {a b e : Expr} {ma mb me : ME} {pos p : Pos} {k : Nat}
theorem r_eqT (_ : Room k X.A) (ha : PE3 ca X a ma) (hb : PE3 ca X b mb) : PT3 ca X (.Compare a [.Eq] [b] pos) (mTest (mOp2 pEq ma mb)) := r_testC (fun _ _ => op_eq) prim_eq ha hb (nomark b)
theorem hu16 {A : Around} (hr : Room k A) : A.units + 16 < cLine := by have := hr.units; omega
theorem r_neT (hr : Room k X.A) (ha : PE3 ca X a ma) (hb : PE3 ca X b mb) : PT3 ca X (.Compare a [.NotEq] [b] pos) (mTest (mOp2 pNe ma mb)) := r_testC (fun pn Φ => op_ne.or (op_neL (X := xat X ca pn Φ) (hu16 hr))) prim_ne ha hb (nomark b)
theorem atD_dens {K : PySem.W.Frag} {μ : List Addr} {H : Hp} {vs : List V} {ds : List D} {i : Int} {d : D} (q : Dens K μ H vs ds) (h : atD ds i = some d) : ∃ v, atI vs i = some v ∧ Den K μ H v d := by
  unfold atD at h
  cases hj : ixD ds.length i with
  | none => rw [hj] at h; cases h
  | some j =>
    rw [hj] at h
    obtain ⟨v, h1, h2⟩ := q.get (show ds[j]? = some d from h)
    refine ⟨v, ?_, h2⟩
    unfold atI
    rw [q.length, show ixN ds.length i = some j from hj]
    exact h1
theorem prim_ix {K : PySem.W.Frag} : Prim2 K ca (rIx K) pIx := by
  intro Φ σ H μ g x y dx dy Q r qx qy p
  unfold pIx at p
  cases qx with
  | tup ht hs =>
    cases qy with
    | int i =>
      dsimp only at p
      rename_i a vs ds
      cases h : atD ds i with
      | none => rw [h] at p; exact p.elim
      | some d =>
        rw [h] at p
        obtain ⟨v, h1, h2⟩ := atD_dens hs h
        exact .inr (.inl ⟨a, vs, i, v, rfl, rfl, ht, h1, p v H μ .refl r h2⟩)
    | _ => exact p.elim
  | fl ht hs =>
    cases qy with
    | int i =>
      dsimp only at p
      rename_i a vs ds
      cases h : atD ds i with
      | none => rw [h] at p; exact p.elim
      | some d =>
        rw [h] at p
        obtain ⟨v, h1, h2⟩ := atD_dens hs h
        exact .inl ⟨a, vs, i, v, rfl, rfl, ht.sq, h1, p v H μ .refl r h2⟩
    | _ => exact p.elim
  | @ref n a hn =>
    cases qy with
    | int i =>
      dsimp only at p
      cases hg : g[n]? with
      | none => rw [hg] at p; exact p.elim
      | some o =>
        rw [hg] at p
        obtain ⟨a', ha', ob⟩ := r.addr hg
        rw [hn] at ha'; cases ha'
        cases o with
        | lst ds =>
          obtain ⟨vs, hH, hs⟩ := ob
          dsimp only at p
          cases h : atD ds i with
          | none => rw [h] at p; exact p.elim
          | some d =>
            rw [h] at p
            obtain ⟨v, h1, h2⟩ := atD_dens hs h
            exact .inl ⟨a, vs, i, v, rfl, rfl, .of hH, h1, p v H μ .refl r h2⟩
        | _ => exact p.elim
    | _ => exact p.elim
  | str s =>
    cases qy with
    | int i =>
      dsimp only at p
      by_cases z : s.length ≤ SZ
      · rw [if_pos z] at p
        cases h : atD s.cps.toList i with
        | none => rw [h] at p; exact p.elim
        | some c =>
          rw [h] at p
          exact .inr (.inr ⟨s, i, c, rfl, rfl, Nat.le_trans z sz_line, h, p _ H μ .refl r (.str _)⟩)
      · rw [if_neg z] at p; exact p.elim
    | _ => exact p.elim
  | _ => cases qy <;> exact p.elim
theorem r_sub1 (ha : PE3 ca X a ma) (hb : PE3 ca X b mb) (hs : PlainIx b := by exact fun _ _ => rfl) : PE3 ca X (.Subscript a b pos) (mOp2 pIx ma mb) := r_ix (fun _ _ => ix_seq) prim_ix ha hb hs
theorem r_blt {x : Str} {id : String} {r : List V → Hp → VK → Prop} {f : D → G → Res D} (hc : ∀ pn Φ, CallR (xat X ca pn Φ) (.builtin id) r) (hm : X.mg x = none) (hv : bootBuiltins x = some (.builtin id))
    (hp : ∀ (Φ : XS) (σ : L2.St) (H : Hp) (μ : List Addr) (g : G) (y : V) (d : D) (Q : VK), GRep X.K ca μ H g → Den X.K μ H y d → Post X.K ca Φ σ Q H μ (f d g) → r [y] H Q) (he : PE3 ca X e me) (hg : Gl X x) (hn : x ≠ "__name__") (hdb : (x == ("__debug__" : Str)) = false)
    (hs : starEach [e] X.env = [(false, eval e X.env)]) (hpl : (backTo pos (starEach [] X.env)).any (·.1) = false) : PE3 ca X (.Call (.Name x p) [e] [] pos) (mOp1 f me) :=
  fun pn Φ => conseq (pe_callB (X := xat X ca pn Φ) (hc pn Φ) hg hm hv (r_cons he r_nil hs pn Φ) hn hdb hs hpl) fun σ H Q hQ => by
    obtain ⟨σ3, g, μ, R, q⟩ := hQ
    refine ⟨σ3, g, μ, R, ?_⟩
    unfold mOp1 at q
    unfold mCons mNil
    cases hm : me σ3 g with
    | raise _ _ => rw [hm] at q; exact q
    | stuck => rw [hm] at q; exact q.elim
    | ok d g1 =>
      rw [hm, Res.bind_ok] at q
      rw [Res.bind_ok, Res.bind_ok]
      intro vs H1 μ1 e1 r1 q1
      cases q1 with
      | cons h1 h2 =>
        cases h2
        exact hp Φ σ H1 μ1 g1 _ d Q r1 h1 (q.go e1)
end
end L3

end
section
namespace L3
open PySem PySem.Spec PyProof.Rows L2
section
variable {X : Cx} {ca : Nat → Addr} {a b e o : Expr} {ma mb me mo : ME} {pos p apos : Pos} {k : Nat}
theorem r_ty {x : Str} {T : String} {r : List V → Hp → VK → Prop} {f : D → G → Res D} (hc : ∀ pn Φ, CallR (xat X ca pn Φ) (.type T) r) (hm : X.mg x = none) (hv : bootBuiltins x = some (.type T))
    (hp : ∀ (Φ : XS) (σ : L2.St) (H : Hp) (μ : List Addr) (g : G) (y : V) (d : D) (Q : VK), GRep X.K ca μ H g → Den X.K μ H y d → Post X.K ca Φ σ Q H μ (f d g) → r [y] H Q) (he : PE3 ca X e me) (hg : Gl X x) (hn : x ≠ "__name__") (hdb : (x == ("__debug__" : Str)) = false)
    (hs : starEach [e] X.env = [(false, eval e X.env)]) (hpl : (backTo pos (starEach [] X.env)).any (·.1) = false) : PE3 ca X (.Call (.Name x p) [e] [] pos) (mOp1 f me) :=
  fun pn Φ => conseq (pe_callTy (X := xat X ca pn Φ) (hc pn Φ) hg hm hv (r_cons he r_nil hs pn Φ) hn hdb hs hpl) fun σ H Q hQ => by
    obtain ⟨σ3, g, μ, R, q⟩ := hQ
    refine ⟨σ3, g, μ, R, ?_⟩
    unfold mOp1 at q
    unfold mCons mNil
    cases hm : me σ3 g with
    | raise _ _ => rw [hm] at q; exact q
    | stuck => rw [hm] at q; exact q.elim
    | ok d g1 =>
      rw [hm, Res.bind_ok] at q
      rw [Res.bind_ok, Res.bind_ok]
      intro vs H1 μ1 e1 r1 q1
      cases q1 with
      | cons h1 h2 =>
        cases h2
        exact hp Φ σ H1 μ1 g1 _ d Q r1 h1 (q.go e1)
theorem r_len (hm : X.mg "len" = none) (he : PE3 ca X e me) (hg : Gl X "len" := by rfl) (hs : starEach [e] X.env = [(false, eval e X.env)] := by rfl) (hpl : (backTo pos (starEach [] X.env)).any (·.1) = false := by rfl) :
    PE3 ca X (.Call (.Name "len" p) [e] [] pos) (mOp1 pLen me) :=
  r_blt (r := fun xs H Q => (∃ p ys, xs = [V.ref p] ∧ (SqL X.K H p ys ∨ SqT X.K H p ys) ∧ Q (V.int (ys.length : Int)) H) ∨ ∃ z, xs = [V.str z] ∧ z.length ≤ sizeLine ∧ Q (V.int (z.length : Int)) H) (fun _ _ => call_len_seq.or call_len_str) hm boot_len (fun Φ σ H μ g y d Q r q pp => by
    unfold pLen at pp
    cases q with
    | @tup t vs ds ht hs => exact .inl ⟨t, vs, rfl, .inr ht, pp _ H μ .refl r (by rw [hs.length]; exact .int _)⟩
    | @fl t vs ds ht hs => exact .inl ⟨t, vs, rfl, .inl ht.sq, pp _ H μ .refl r (by rw [hs.length]; exact .int _)⟩
    | @ref n t hn =>
      dsimp only at pp
      cases hgn : g[n]? with
      | none => rw [hgn] at pp; exact pp.elim
      | some ob =>
        rw [hgn] at pp
        obtain ⟨t', ht', orp⟩ := r.addr hgn
        rw [hn] at ht'; cases ht'
        cases ob with
        | lst ds => obtain ⟨vs, hH, q⟩ := orp; exact .inl ⟨t, vs, rfl, .inl (.of hH), pp _ H μ .refl r (by rw [q.length]; exact .int _)⟩
        | _ => exact pp.elim
    | str s =>
      dsimp only at pp
      by_cases z : s.length ≤ SZ
      · rw [if_pos z] at pp; exact .inr ⟨s, rfl, Nat.le_trans z sz_line, pp _ H μ .refl r (.int _)⟩
      · rw [if_neg z] at pp; exact pp.elim
    | _ => exact pp.elim) he hg (by decide) (by decide) hs hpl
theorem r_tuple (hm : X.mg "tuple" = none) (he : PE3 ca X e me) (hg : Gl X "tuple" := by rfl) (hs : starEach [e] X.env = [(false, eval e X.env)] := by rfl) (hpl : (backTo pos (starEach [] X.env)).any (·.1) = false := by rfl) :
    PE3 ca X (.Call (.Name "tuple" p) [e] [] pos) (mOp1 pTuple me) :=
  r_ty (r := fun xs H Q => ∃ p ys, xs = [V.ref p] ∧ ((SqL X.K H p ys ∧ ∀ l, H l = none → Q (.ref l) (upd H l (.tup ys))) ∨ (SqT X.K H p ys ∧ Q (.ref p) H))) (fun _ _ => call_tuple_of) hm boot_tuple (fun Φ σ H μ g y d Q r q pp => by
    unfold pTuple at pp
    cases q with
    | @tup t vs ds ht hs => exact ⟨t, vs, rfl, .inr ⟨ht, pp _ H μ .refl r (.tup ht hs)⟩⟩
    | @fl t vs ds ht hs => exact ⟨t, vs, rfl, .inl ⟨ht.sq, fun l hl => pp _ _ μ (ext_new hl) (r.new hl) (.tup (.of upd_same) (hs.mono (ext_new hl)))⟩⟩
    | @ref n t hn =>
      dsimp only at pp
      cases hgn : g[n]? with
      | none => rw [hgn] at pp; exact pp.elim
      | some ob =>
        rw [hgn] at pp
        obtain ⟨t', ht', orp⟩ := r.addr hgn
        rw [hn] at ht'; cases ht'
        cases ob with
        | lst ds => obtain ⟨vs, hH, q⟩ := orp; exact ⟨t, vs, rfl, .inl ⟨.of hH, fun l hl => pp _ _ μ (ext_new hl) (r.new hl) (.tup (.of upd_same) (q.mono (ext_new hl)))⟩⟩
        | _ => exact pp.elim
    | _ => exact pp.elim) he hg (by decide) (by decide) hs hpl
theorem r_append (ho : PE3 ca X o mo) (he : PE3 ca X e me) (hbase : attributeBase o "append" X.env (eval o X.env) = eval o X.env := by rfl)
    (hfew : ((backTo pos (starEach [e] X.env)).all (fun x => !x.1) && (backToKw pos (keywordEach [] X.env)).all (fun x => x.1.isSome) && decide ([e].length + ([] : List Keyword).length + (if ([] : List Keyword).isEmpty then 0 else 1) < 30)) = true := by rfl)
    (hline : (apos.endLine == pos.line) = true := by rfl) (hs : starEach [e] X.env = (false, eval e X.env) :: starEach [] X.env := by rfl) (hplain : (backTo pos (starEach [] X.env)).any (·.1) = false := by rfl) :
    PE3 ca X (.Call (.Attribute o "append" apos) [e] [] pos) (mAppend mo me) :=
  fun pn Φ => conseq (pe_bm (X := xat X ca pn Φ) PySem.F.plainAttrs_list PySem.F.slot_list_append PySem.F.type_list_append mt_append (ho pn Φ) (r_cons he r_nil hs pn Φ) hbase hfew hline hs hplain) fun σ H Q ⟨σ3, g, μ, R, q⟩ => up_mono (bindE R q) fun x H1 hQ => by
    obtain ⟨d, g1, μ1, e1, R1, q1, p1⟩ := hQ
    cases q1 with
    | @ref n t hn =>
      dsimp only at p1
      cases hgn : g1[n]? with
      | none => rw [hgn] at p1; exact p1.elim
      | some ob =>
        rw [hgn] at p1
        obtain ⟨t', ht', orp⟩ := R1.g.addr hgn
        rw [hn] at ht'; cases ht'
        cases ob with
        | lst ds0 =>
          obtain ⟨vs0, hH0, _⟩ := orp
          dsimp only at p1
          refine ⟨.inl ⟨rfl, _, .of hH0⟩, σ3, g1, μ1, R1, ?_⟩
          unfold mCons mNil
          cases hm : me σ3 g1 with
          | raise _ _ => rw [hm] at p1; exact p1
          | stuck => rw [hm] at p1; exact p1.elim
          | ok y g2 =>
            rw [hm, Res.bind_ok] at p1
            rw [Res.bind_ok, Res.bind_ok]
            intro vs H2 μ2 e2 r2 q2
            cases q2 with
            | @cons vy _ _ _ h1 h2 =>
              cases h2
              cases hg2 : g2[n]? with
              | none => rw [hg2] at p1; exact p1.elim
              | some ob2 =>
                rw [hg2] at p1
                obtain ⟨t', ht', orp⟩ := r2.addr hg2
                rw [e2.at hn] at ht'; cases ht'
                cases ob2 with
                | lst ds =>
                  obtain ⟨ws, hH, qs⟩ := orp
                  dsimp only at p1
                  by_cases z : ds.length < SZ
                  · rw [if_pos z] at p1
                    have ex : Ext X.K μ2 H2 μ2 (upd H2 t (.lst (ws ++ [vy]))) := ext_set hH (by intro _ z; cases z) (by intro _ _ z; cases z)
                    refine ⟨t, ws, _, rfl, rfl, hH, by rw [qs.length]; exact Nat.lt_of_lt_of_le z sz_line, p1 _ _ μ2 (e2.trans ex) ?_ .non⟩
                    exact r2.set (e2.at hn) hH (by intro _ z; cases z) (by intro _ _ z; cases z) ⟨_, upd_same, (qs.mono ex).append (.cons (h1.mono ex) .nil)⟩
                  · rw [if_neg z] at p1; exact p1.elim
                | _ => exact p1.elim
        | _ => exact p1.elim
    | _ => exact p1.elim
end
end L3

end
section
namespace L3
open PySem PySem.Spec PyProof.Rows L2
noncomputable def IsIt (b : Bool) (h : Heap) (i l : Addr) (k : Nat) : Prop := if b = true then h.IsListIter i l k else h.IsTupleIter i l k
noncomputable def IsSq (b : Bool) (h : Heap) (l : Addr) (xs : Array Value) : Prop := if b = true then h.IsList l xs else h.IsTuple l xs
theorem IsIt.at {b : Bool} {h h' : Heap} {i l : Addr} {k : Nat} (x : IsIt b h i l k) (hk : ∀ o, h.get? i = some o → h'.get? i = some o) : IsIt b h' i l k := by
  cases b
  · exact Heap.IsTupleIter.at (show h.IsTupleIter i l k from x) hk
  · exact Heap.IsListIter.at (show h.IsListIter i l k from x) hk
theorem IsSq.at {b : Bool} {h h' : Heap} {l : Addr} {xs : Array Value} (x : IsSq b h l xs) (hk : ∀ o, h.get? l = some o → h'.get? l = some o) : IsSq b h' l xs := by
  cases b
  · obtain ⟨o, e, c⟩ := (show h.IsTuple l xs from x); exact ⟨o, hk o e, c⟩
  · obtain ⟨o, e, c⟩ := (show h.IsList l xs from x); exact ⟨o, hk o e, c⟩
theorem IsIt.lt {b : Bool} {h : Heap} {i l : Addr} {k : Nat} (x : IsIt b h i l k) : i < h.objs.size := by
  cases b
  · obtain ⟨o, e, _⟩ := (show h.IsTupleIter i l k from x); exact Heap.lt_size e
  · obtain ⟨o, e, _⟩ := (show h.IsListIter i l k from x); exact Heap.lt_size e
theorem IsSq.lt {b : Bool} {h : Heap} {l : Addr} {xs : Array Value} (x : IsSq b h l xs) : l < h.objs.size := by
  cases b
  · obtain ⟨o, e, _⟩ := (show h.IsTuple l xs from x); exact Heap.lt_size e
  · obtain ⟨o, e, _⟩ := (show h.IsList l xs from x); exact Heap.lt_size e
section
variable {prog : Program} {w : World} {A : Around} {E : Value → Shared → Prop} {s : Shared}
theorem IsSq.push {b : Bool} {h : Heap} {l : Addr} {xs : Array Value} (x : IsSq b h l xs) (o : Obj) : IsSq b (h.push o) l xs := x.at fun _ e => Heap.get?_push_of_some _ e
end
end L3

end
section
namespace L3
open PySem PySem.Spec PyProof.Rows L2
noncomputable def Sq (b : Bool) (K : PySem.W.Frag) (H : Hp) (a : Addr) (xs : List V) : Prop := if b = true then SqL K H a xs else SqT K H a xs
theorem Sq.inj {b : Bool} {X : Cx} {pins : List (Addr × Obj)} {σ : L2.St} {H : Hp} {s : Shared} {a : Addr} {xs ys : List V} (I : Inv X pins σ H s) (h : Sq b X.K H a xs) (h' : Sq b X.K H a ys) : xs = ys := by
  cases b
  · exact I.tuple_inj h h'
  · exact I.list_inj h h'
section
variable {X : Cx} {ca : Nat → Addr} {e1 e2 : Expr} {m1 m2 : ME} {p pos tp : Pos} {elts : List Expr} {kk : Nat}
theorem seqOf_sq {K : PySem.W.Frag} {μ : List Addr} {H : Hp} {g : G} {v : V} {d : D} {b : Bool} {ds : List D} (r : GRep K ca μ H g) (q : Den K μ H v d) (h : seqOf g d = some (b, ds)) : ∃ a vs, v = .ref a ∧ Sq b K H a vs ∧ Dens K μ H vs ds := by
  cases q with
  | @tup a vs es ht hs => cases h; exact ⟨a, vs, rfl, ht, hs⟩
  | @fl a vs es ht hs => cases h; exact ⟨a, vs, rfl, ht.sq, hs⟩
  | @ref n a hn =>
    unfold seqOf at h
    dsimp only at h
    cases hg : g[n]? with
    | none => rw [hg] at h; cases h
    | some o =>
      rw [hg] at h
      obtain ⟨a', ha', ob⟩ := r.addr hg
      rw [hn] at ha'; cases ha'
      cases o with
      | lst es => cases h; obtain ⟨vs, hH, q⟩ := ob; exact ⟨a, vs, rfl, SqL.of hH, q⟩
      | _ => cases h
  | _ => cases h
theorem seqOf_kind {K : PySem.W.Frag} {μ : List Addr} {H : Hp} {g g' : G} {μ' : List Addr} {H' : Hp} {d : D} {v : V} {b b' : Bool} {ds ds' : List D} (h : seqOf g d = some (b, ds)) (h' : seqOf g' d = some (b', ds')) : b = b' := by
  unfold seqOf at h h'
  cases d with
  | tup es => cases h; cases h'; rfl
  | fl es => cases h; cases h'; rfl
  | ref n =>
    dsimp only at h h'
    have k1 : b = true := by
      cases hg : g[n]? with
      | none => rw [hg] at h; cases h
      | some o => rw [hg] at h; cases o <;> cases h <;> rfl
    have k2 : b' = true := by
      cases hg : g'[n]? with
      | none => rw [hg] at h'; cases h'
      | some o => rw [hg] at h'; cases o <;> cases h' <;> rfl
    rw [k1, k2]
  | _ => cases h
end
end L3

end
section
namespace L3
open PySem PySem.Spec PyProof.Rows L2
theorem kit_tab (K : PySem.W.Frag) (t c : Ty) : PySem.W.kitOne K (.type t.name) (.type c.name) = some (tyLe t c) := by
  cases t <;> cases c <;> kernel_rfl
section
variable {X : Cx} {ca : Nat → Addr} {a b c e : Expr} {ma mb mc me : ME} {pos p p2 : Pos} {k : Nat}
theorem call_isin (c : Ty) : CallR X (.builtin "isinstance") (fun xs H Q => ∃ x g μ d t, xs = [x, .ty c.name] ∧ GRep X.K ca μ H g ∧ Den X.K μ H x d ∧ tyOf g d = some t ∧ Q (.bl (tyLe t c)) H) := by
  intro pins s σ H xs us Q I rv h
  obtain ⟨x, g, μ, d, t, rfl, r, q, ht, qq⟩ := h
  obtain ⟨u, u2, rfl, ru, ru2⟩ := rv.two
  cases ru2
  have fin : ∀ tk, EP X pins σ Q (.bool (tyLe t c)) { s with toks := tk } := fun tk => ⟨.bl _, H, I.tok tk, rfl, qq⟩
  cases q with
  | non => cases ht; exact isinst_ok I ru .non (kit_tab X.K .non c) fin
  | bl y => cases ht; exact isinst_ok I ru (.bl y) (kit_tab X.K .bool c) fin
  | int y => cases ht; exact isinst_ok I ru (.int y) (kit_tab X.K .int c) fin
  | str y => cases ht; exact isinst_ok I ru (.str y) (kit_tab X.K .str c) fin
  | @tup a vs ds hq hs =>
    cases ht
    cases ru
    obtain ⟨its, _, ⟨o, h1, h2, _⟩, _⟩ := I.tuple hq
    exact PySem.W.kia_one PySem.W.kitx_tuple I.kIn ⟨o, h1, h2⟩ (kit_tab X.K .tuple c) (fun z => nomatch z) fin
  | @fl a vs ds hq hs =>
    cases ht
    cases ru
    obtain ⟨its, _, p, _⟩ := I.list hq.sq
    obtain ⟨o, h1, h2, _⟩ := p.isList
    exact PySem.W.kia_one PySem.W.kitx_list I.kIn ⟨o, h1, h2⟩ (kit_tab X.K .list c) (fun z => nomatch z) fin
  | @ref n a hn =>
    unfold tyOf at ht
    dsimp only at ht
    cases hg : g[n]? with
    | none => rw [hg] at ht; cases ht
    | some o =>
      rw [hg] at ht
      obtain ⟨a', ha', ob⟩ := r.addr hg
      rw [hn] at ha'; cases ha'
      cases o with
      | lst ds => cases ht; obtain ⟨vs, hH, _⟩ := ob; exact isinst_ok I ru (.lst hH) (kit_tab X.K .list c) fin
      | dct ks => cases ht; obtain ⟨kv, hH, _⟩ := ob; exact isinst_ok I ru (.dK hH) (kit_tab X.K .dict c) fin
      | ins _ _ => cases ht
      | exc _ => cases ht
theorem r_isin {x : Str} (c : Ty) (hi : X.mg "isinstance" = none) (hm : X.mg x = none) (hv : bootBuiltins x = some (.type c.name)) (he : PE3 ca X e me) (hgi : Gl X "isinstance" := by rfl) (hg : Gl X x := by rfl) (hnm : x ≠ "__name__" := by decide) (hdb : (x == ("__debug__" : Str)) = false := by decide)
    (hs : starEach [e, .Name x p2] X.env = (false, eval e X.env) :: starEach [.Name x p2] X.env := by rfl) (hs2 : starEach [.Name x p2] X.env = (false, eval (.Name x p2) X.env) :: starEach [] X.env := by rfl) (hpl : (backTo pos (starEach [.Name x p2] X.env)).any (·.1) = false := by rfl) :
    PE3 ca X (.Call (.Name "isinstance" p) [e, .Name x p2] [] pos) (mOp1 (pIsin c) me) :=
  fun pn Φ => conseq (pe_callB (X := xat X ca pn Φ) (call_isin (ca := ca) c) hgi hi boot_isinstance (pa_cons (X := xat X ca pn Φ) (he pn Φ) (pa_cons (X := xat X ca pn Φ) (pe_bltn (X := xat X ca pn Φ) (v := .ty c.name) hg hm hv rfl hnm hdb) pa_nil hs2) hs) (by decide) (by decide) hs hpl) fun σ H Q ⟨σ3, g, μ, R, q⟩ =>
    up_mono (bindE R q) fun y H1 hQ => by
      obtain ⟨d, g1, μ1, e1, R1, q1, p1⟩ := hQ
      unfold pIsin at p1
      cases ht : tyOf g1 d with
      | none => rw [ht] at p1; exact p1.elim
      | some t => rw [ht] at p1; exact ⟨y, g1, μ1, d, t, rfl, R1.g, q1, ht, p1 _ H1 μ1 .refl R1.g (.bl _)⟩
end
end L3

end
section
namespace L3
open PySem PySem.Spec PyProof.Rows L2
section
variable {prog : Program} {w : World} {A : Around} {E : Value → Shared → Prop} {s : Shared}
theorem getItem_tuple_all {t sl : Addr} {items : Array Value} {vl vu : Value} {lo hi : Option Int} {Q : Value → Shared → Prop} (ht : IsTup s.heap t items) (hs : s.heap.IsSliceOf sl vl vu .none) (pl : IsPart vl lo) (pu : IsPart vu hi)
    (h1 : HT.sIx items.size 0 lo = 0) (h2 : HT.sIx items.size items.size hi = items.size) (h : Q (.ref t) s) : wpAny (model prog w) A (getItem (.ref t) (.ref sl)) Q E s := by
  obtain ⟨os, hos, hcs, hds⟩ := id hs
  have hTs : s.TypeIs (.ref sl) "slice" := ⟨os, hos, hcs⟩
  unfold getItem
  try with_reducible refine wpAny_holding ?_
  first | refine wpAny_bind (wpAny_pure ?_) | skip
  refine wpAny_bind (wpAny_sequenceKey ht.typeIs (by decide) ?_)
  refine wpAny_bind (wpAny_callSpecial?_slot (name := Str.ofString "__getitem__") ht.typeIs PyProof.Rows.slot_tuple_getitem (wpAny_call_entry PyProof.Rows.slot_tuple_getitem ht.typeIs entry_tuple_getitem ?_ (args_tuple_getitem _ _)))
  show wpAny _ _ (Builtin.Tuple.tupleItemsOf (.ref t) >>= _) _ _ s
  refine wpAny_bind (tupleItemsOf_ ht (wpAny_bind (wpAny_typeOf hTs ?_)))
  rw [if_pos (by decide)]
  refine wpAny_bind (HT.sliceApplied_gen hs pl pu ?_)
  rw [h1, h2]
  show wpAny _ _ (if (((0 : Nat) : Int) == 0 && (1 : Int) == 1 && (items.size - 0) == items.size) = true then _ else _) _ _ s
  rw [if_pos (by simp)]
  unfold Builtin.Tuple.tupleIsExact
  refine wpAny_bind (wpAny_bind (wpAny_typeOf ht.typeIs (wpAny_pure ?_)))
  rw [if_pos (by decide)]
  exact wpAny_bind (wpAny_rule (wpAny_pure ⟨_, rfl, wpAny_pure h⟩))
end
theorem sIx_D (n d : Nat) (o : Option Int) : HT.sIx n d o = sIxD n d o := by cases o <;> rfl
theorem Dens.cut {K : PySem.W.Frag} {μ : List Addr} {H : Hp} {vs : List V} {ds : List D} (lo hi : Option Int) (h : Dens K μ H vs ds) : Dens K μ H (cutV vs lo hi) (cutD ds lo hi) := by
  unfold cutV cutD
  rw [sIx_D, sIx_D, h.length]
  exact (h.drop _).take _
section
variable {X : Cx} {ca : Nat → Addr} {e : Expr} {me : ME} {lo hi : Option Expr} {ml mh : MO} {pos p2 : Pos}
theorem sl_tupAll : SlR X (fun x lo hi H Q => ∃ a xs, x = .ref a ∧ SqT X.K H a xs ∧ (HT.sIx xs.length 0 lo = 0 ∧ HT.sIx xs.length xs.length hi = xs.length) ∧ Q (.ref a) H) := by
  intro pins s σ H x v vl vu lo hi sl Q I rx hs pl pu h
  obtain ⟨a, xs, rfl, hx, hw, q⟩ := h
  cases rx
  obtain ⟨its, r, ht, hz⟩ := I.tuple hx
  have hlen : its.toArray.size = xs.length := by rw [List.size_toArray]; exact r.length.symm
  refine ⟨"tuple", _, PyProof.Rows.slot_tuple_getitem.lookup, ht.typeIs, ?_⟩
  exact getItem_tuple_all ht hs pl pu (by rw [hlen]; exact hw.1) (by rw [hlen]; exact hw.2) ⟨.ref a, H, I, rfl, q⟩
noncomputable def upO (K : PySem.W.Frag) (ca : Nat → Addr) (Φ : XS) (m : MO) : TO := fun σ H Q => ∃ σ3 g μ, Rep K ca μ σ3 g σ H ∧ match m σ3 g with
  | .ok o g' => ∀ H' μ', Ext K μ H μ' H' → GRep K ca μ' H' g' → Q o H'
  | .raise x g' => RaP K ca Φ σ H μ x g'
  | .stuck => False
noncomputable def PO3 (ca : Nat → Addr) (X : Cx) (e : Option Expr) (m : MO) : Prop := ∀ pn Φ, PO (xat X ca pn Φ) e (upO X.K ca Φ m)
theorem r_noPart : PO3 ca X none mNoPart := fun pn Φ pins s σ H Q I ⟨_, _, μ, R, p⟩ => po_none (X := xat X ca pn Φ) pins s σ H Q I (p H μ .refl R.g)
theorem r_part (he : PE3 ca X e me) : PO3 ca X (some e) (mPart me) := fun pn Φ pins s σ H Q I hQ => by
  obtain ⟨σ3, g, μ, R, p⟩ := hQ
  refine po_some (X := xat X ca pn Φ) (he pn Φ) pins s σ H Q I ⟨σ3, g, μ, R, ?_⟩
  unfold mPart at p
  cases hm : me σ3 g with
  | raise _ _ => rw [hm] at p; exact p
  | stuck => rw [hm] at p; exact p
  | ok d g1 =>
    rw [hm, Res.bind_ok] at p
    intro v H1 μ1 e1 r1 q1
    cases q1 with
    | int i => exact ⟨i, rfl, p H1 μ1 e1 r1⟩
    | _ => exact p.elim
theorem sIx0 (o : Option Int) : HT.sIx 0 0 o = 0 := by
  rw [sIx_D]
  cases o with
  | none => rfl
  | some i =>
    unfold sIxD
    dsimp only
    split <;> omega
theorem r_slice (he : PE3 ca X e me) (hl : PO3 ca X lo ml) (hh : PO3 ca X hi mh) : PE3 ca X (.Subscript e (.Slice lo hi none p2) pos) (mSlice me ml mh) := fun pn Φ =>
  conseq (pe_slice (X := xat X ca pn Φ) (sl_tupAll.or sl_list) (he pn Φ) (hl pn Φ) (hh pn Φ)) fun σ H Q ⟨σ3, g, μ, R, p⟩ => up_mono (bindE R p) fun x H1 hQ => by
    obtain ⟨d, g1, μ1, e1, R1, q1, p1⟩ := hQ
    refine ⟨σ3, g1, μ1, R1, ?_⟩
    cases hm : ml σ3 g1 with
    | raise _ _ => rw [hm] at p1; exact p1
    | stuck => rw [hm] at p1; exact p1
    | ok l g2 =>
      rw [hm, Res.bind_ok] at p1
      intro H2 μ2 e2 r2
      refine ⟨σ3, g2, μ2, R1.go e2 r2, ?_⟩
      cases hm2 : mh σ3 g2 with
      | raise _ _ => rw [hm2] at p1; exact RaP.go e2 p1
      | stuck => rw [hm2] at p1; exact p1
      | ok u g3 =>
        rw [hm2, Res.bind_ok] at p1
        intro H3 μ3 e3 r3
        have p3 := Post.go (e2.trans e3) p1
        have q3 := (q1.mono e2).mono e3
        unfold pSlice at p3
        cases q3 with
        | @tup a vs ds ht hs =>
          cases hs with
          | nil => exact .inl ⟨a, [], rfl, ht, ⟨sIx0 l, sIx0 u⟩, p3 _ H3 μ3 .refl r3 (.tup ht .nil)⟩
          | cons _ _ => exact p3.elim
        | @fl a vs ds ht hs =>
          refine .inr ⟨a, vs, rfl, ht.sq, fun t ht' => p3 _ _ (μ3 ++ [t]) (ext_push ht') (r3.push ht' ⟨_, upd_same, (hs.cut l u).mono (ext_push ht')⟩) (.ref ?_)⟩
          rw [← r3.len]; simp
        | _ => exact p3.elim
end
end L3

end
section
namespace L3
open PySem PySem.Spec PyProof.Rows L2
section
variable {prog : Program} {w : World} {A : Around} {E : Value → Shared → Prop} {s : Shared} {K : PySem.W.Frag} {C e : Addr} {oe : Obj} {vs : Array Value}
end
section
variable {X : Cx} {ca : Nat → Addr} {e : Expr} {me : ME} {pos p p2 : Pos} {all cs : List Nat}
end
section
variable {K : PySem.W.Frag} {C : Addr} {x : Str} {mg : Str → Option Value} {h : Heap}
end
section
variable {X : Cx} {ca : Nat → Addr} {e : Expr} {es : List Expr} {mr : MA} {np cpos pos : Pos} {c : Nat} {x : Str}
end
end L3

end
section
namespace L3
open PySem PySem.Spec PyProof.Rows L2
section
variable {prog : Program} {w : World} {A : Around} {E : Value → Shared → Prop} {s : Shared} {K : PySem.W.Frag} {ca : Nat → Addr} {C D e : Addr} {oe : Obj} {cs no : List Nat} {b : Bool}
end
section
variable {X : Cx} {ca : Nat → Addr} {pins : List (Addr × Obj)} {σ : L2.St} {H : Hp} {s : Shared} {a : Addr} {x : Xc}
end
end L3

end
section
namespace L3
open PySem PySem.Spec PyProof.Rows L2
section
variable {X : Cx} {ca : Nat → Addr} {body suite : List Stmt} {b0 : Stmt} {mb mc : MS} {np hpos pos : Pos} {C : Addr} {cs no : List Nat} {T n : Str}
end
end L3

end
section
namespace L3
open PySem PySem.Spec PyProof.Rows L2
noncomputable def bchk (sc scope : Scope) (N Nb : List Str) (no : Nat) (cap : List Nat) : Bool :=
  decide (scope.kind = .function) && scope.names.all (fun y => decide (y.2 ≠ .cell)) && scope.names.all (fun y => decide (y.2 ≠ .local) || decide (scope.names.lookup y.1 = some .local)) &&
  scope.names.all (fun y => decide (y.2 ≠ .free) || decide (sc.names.lookup y.1 = some .cell) || decide (sc.names.lookup y.1 = some .free)) && decide (Nb.length = no + cap.length) &&
  (List.range cap.length).all fun j => match cap[j]?, Nb[no + j]? with
    | some i, some x => decide (N[i]? = some x) && decide (scope.names.lookup x = some .free) && (decide (sc.names.lookup x = some .cell) || decide (sc.names.lookup x = some .free))
    | _, _ => false
theorem bscope_mk {X : Cx} {scope sc : Scope} {N Nb : List Str} {no : Nat} {cap : List Nat} (hsc : X.env.scope = sc) (hN : X.N = N) (h : bchk sc scope N Nb no cap = true) : BScope X scope Nb no cap := by
  subst hsc hN
  unfold bchk at h
  simp only [Bool.and_eq_true, decide_eq_true_eq] at h
  obtain ⟨⟨⟨⟨⟨h1, h2⟩, h3⟩, h4⟩, h5⟩, h6⟩ := h
  rw [List.all_eq_true] at h2 h3 h4 h6
  refine ⟨h1, fun y hy => of_decide_eq_true (h2 y hy), fun y hy e => ?_, fun y hy e => ?_, h5, fun j i hj => ?_⟩
  · rcases Bool.or_eq_true_iff.mp (h3 y hy) with z | z
    · exact absurd e (of_decide_eq_true z)
    · exact of_decide_eq_true z
  · rcases Bool.or_eq_true_iff.mp (h4 y hy) with z | z
    · rcases Bool.or_eq_true_iff.mp z with z | z
      · exact absurd e (of_decide_eq_true z)
      · exact .inl (of_decide_eq_true z)
    · exact .inr (of_decide_eq_true z)
  · have hl : j < cap.length := (List.getElem?_eq_some_iff.mp hj).1
    have z := h6 j (List.mem_range.mpr hl)
    rw [hj] at z
    cases hx : Nb[no + j]? with
    | none => rw [hx] at z; cases z
    | some x =>
      rw [hx] at z
      simp only [Bool.and_eq_true, Bool.or_eq_true, decide_eq_true_eq] at z
      obtain ⟨⟨z1, z2⟩, z3⟩ := z
      refine ⟨x, rfl, z1, z2, .inr z3, fun q => ?_⟩
      have q : X.env.scope.names.lookup x = some .local := q
      rcases z3 with z | z
      · rw [z] at q; cases q
      · rw [z] at q; cases q
section
variable {X : Cx} {ca : Nat → Addr} {pos : Pos} {x : Str}
theorem r_gint {i : Int} (h : ∃ k, X.mg x = some (.int i k)) (hg : Gl X x := by rfl) (hd : (x == ("__debug__" : Str)) = false := by decide) : PE3 ca X (.Name x pos) (mLit (.int i)) := by
  obtain ⟨k, h⟩ := h
  exact r_glob h (v := .int i) ⟨k, rfl⟩ (fun _ _ _ => .int i) hg hd
end
theorem bt_str : bootBuiltins "str" = some (.type Ty.str.name) := by decide +kernel
section
variable {P : Program} {w : World} {K : PySem.W.Frag} {mg : Str → Option Value} {base : Heap} {ca : Nat → Addr}
theorem law_sp {F : MF} {H : Hp} {a : Addr} {ns : List Int} (hO : Only H) (hS : SqL K H a (ns.map V.int)) (h : ∃ g', F [.fl (ns.map D.int)] [] = .ok (.bl true) g') : spM K ca 1 F [.ref a] H (fun v _ => v = .bl true) fun _ _ _ => False := by
  obtain ⟨g', h⟩ := h
  have hF : SqF K H a (ns.map V.int) := by
    rcases hS with (h | ⟨o, h⟩) | h
    · rcases hO a with z | ⟨o, xs, z⟩
      · rw [h] at z; cases z
      · rw [h] at z; cases z
    · exact .inl ⟨o, h⟩
    · exact .inr (.inr h)
  refine ⟨rfl, [.fl (ns.map D.int)], [], [], ⟨rfl, .nil, fun n a o h => by simp at h⟩, .cons (.fl hF (Dens.ints ns)) .nil, ?_⟩
  rw [h]
  intro v H' μ' e r q
  cases q
  rfl
end
end L3

end
section
namespace L3
open PySem PySem.Spec
theorem len0 {α : Type} {us : List α} (h : us.length = 0) : us = [] := List.eq_nil_of_length_eq_zero h
theorem len1 {α : Type} {us : List α} (h : us.length = 1) : ∃ a0, us = [a0] := by
  cases us with
  | nil => cases h
  | cons a r =>
    have e := len0 (Nat.succ.inj h)
    subst e
    exact ⟨a, rfl⟩
theorem len2 {α : Type} {us : List α} (h : us.length = 2) : ∃ a0 a1, us = [a0, a1] := by
  cases us with
  | nil => cases h
  | cons a r =>
    obtain ⟨b0, rfl⟩ := len1 (Nat.succ.inj h)
    exact ⟨a, b0, rfl⟩
theorem len3 {α : Type} {us : List α} (h : us.length = 3) : ∃ a0 a1 a2, us = [a0, a1, a2] := by
  cases us with
  | nil => cases h
  | cons a r =>
    obtain ⟨b0, b1, rfl⟩ := len2 (Nat.succ.inj h)
    exact ⟨a, b0, b1, rfl⟩
noncomputable def noStar : Expr → Bool
  | .Starred .. => false
  | _ => true
theorem star_cons {e : Expr} {es : List Expr} {env : Env} (h : noStar e = true) : starEach (e :: es) env = (false, eval e env) :: starEach es env := by
  cases e <;> first | rfl | exact absurd h (by simp [noStar])

variable {P : Program} {w : World} {K : PySem.W.Frag} {mg : Str → Option Value} {base : Heap} {ca : Nat → Addr} {X : L2.Cx}
theorem r_cns {e : Expr} {es : List Expr} {me : ME} {mr : MA} (ha : PE3 ca X e me) (hr : PA3 ca X es mr) (hs : noStar e = true := by rfl) : PA3 ca X (e :: es) (mCons me mr) := r_cons ha hr (star_cons hs)
noncomputable def noComp : Expr → Bool
  | .ListComp .. => false
  | .SetComp .. => false
  | .DictComp .. => false
  | _ => true
theorem swap_no {e : Expr} {t : Option Expr} {l : Nat} {env : Env} (h : noComp e = true) : swapsWith e t l env = pure false := by
  cases e <;> first | rfl | exact absurd h (by simp [noComp])
theorem r_sto (i : Nat) {x : Str} {pos pos' : Pos} {e : Expr} {me : ME} (hN : X.N.Nodup) (he : PE3 ca X e me) (hi : X.N[i]? = some x := by rfl) (hx : L2.Loc X.env.scope x := by first | exact Or.inl rfl | exact Or.inr rfl)
    (hs : noComp e = true := by rfl) (hf : X.fn x = true ∨ X.env.scope.names.lookup x = some .local := by first | exact .inl rfl | exact .inr rfl) :
    PS3 ca X (.Assign [.Name x pos'] e pos) (mAsg (gSet i) me) := r_set i hN he hi hx (swap_no hs) hf
end L3

end
section
namespace L3
open PySem
noncomputable def cP (i j : Int) : Prop := 0 ≤ j ∧ j ≤ 1000 ∧ i.natAbs < 1000000
noncomputable instance (i j : Int) : Decidable (cP i j) := inferInstanceAs (Decidable (_ ∧ _ ∧ _))
noncomputable def pPow (x y : D) (g : G) : Res D := match x, y with
  | .int i, .int j => if cP i j then .ok (.int (i ^ j.toNat)) g else .stuck
  | _, _ => .stuck
end L3

end
section
namespace L3
open PySem PySem.Spec PyProof.Rows L2
theorem r_pow {X : Cx} {ca : Nat → Addr} {a b : Expr} {ma mb : ME} {pos : Pos} (ha : PE3 ca X a ma) (hb : PE3 ca X b mb) : PE3 ca X (.BinOp a .Pow b pos) (mOp2 pPow ma mb) :=
  r_bin (fun _ _ => op_pow) (prim_ii (fun Φ σ i j g Q H μ r p => by
    unfold pPow at p
    by_cases z : cP i j
    · dsimp only at p; rw [if_pos z] at p; exact ⟨⟨z.1, Int.le_trans z.2.1 (by decide), Nat.lt_of_lt_of_le z.2.2 (by decide)⟩, p _ H μ .refl r (.int _)⟩
    · dsimp only at p; rw [if_neg z] at p; exact p.elim) (two_ints fun x y g => by cases x <;> cases y <;> first | exact .inl ⟨_, _, rfl, rfl⟩ | exact .inr rfl)) ha hb
end L3

end
section
namespace L3
open PySem
noncomputable def srcEnum (d : D) (g : G) : Res Src := match seqOf g d with
  | some (true, ds) => .ok ⟨fun g i => (match seqOf g d with
    | some (_, es) => (match es[i]? with
      | some x => some (some (.tup [.int i, x]))
      | none => some none)
    | none => none), ds.length⟩ g
  | _ => .stuck
noncomputable def mItEnum (a : ME) : MI := fun σ g => (a σ g).bind srcEnum
end L3

end
section
namespace L3
open PySem PySem.Spec PyProof.Rows L2
noncomputable def Ite (K : PySem.W.Frag) (a : Addr) : It :=
  ⟨fun i H => ∃ xs x, SqL K H a xs ∧ xs[i]? = some x,
   fun i H v H' => ∃ p x, H p = none ∧ v = .ref p ∧ H' = upd H p (.tup [.int (i : Int), x]) ∧ ∀ xs, SqL K H a xs → xs[i]? = some x,
   fun i H => ∃ xs, SqL K H a xs ∧ xs.length ≤ i⟩
noncomputable def EnTn (e it l : Addr) (i : Nat) (h : Heap) : Prop := (∃ old, IsEnum h e it (i : Int) old) ∧ h.IsListIter it l i
theorem turn_enum {P : Program} {w : World} {K : PySem.W.Frag} {elts : List Expr} {kk : Nat} {tp : Pos} (e it l : Addr) (hei : e ≠ it) :
    Turn P w K (.Tuple elts kk tp) (Ite K l) [e, it] e (EnTn e it l) where
  mem := by simp
  obj := fun i h st b hb => by
    obtain ⟨⟨old, hE⟩, hI⟩ := st
    have hb' : b = e ∨ b = it := by simpa using hb
    rcases hb' with rfl | rfl
    · exact ⟨_, hE, fun v q => by cases q⟩
    · obtain ⟨o, eo, c, d⟩ := hI
      exact ⟨o, eo, fun v z => by rw [d] at z; cases z⟩
  keep := fun i h h' st k => by
    obtain ⟨⟨old, hE⟩, hI⟩ := st
    exact ⟨⟨old, k e (by simp) _ hE⟩, hI.at fun o x => k it (by simp) o x⟩
  item := by
    intro X hP hw hK hc i pins s σ H E I hf st hg
    subst hP hw hK
    obtain ⟨xs, x, q1, hx⟩ := hg
    obtain ⟨its, r1, p1, hz1⟩ := I.list q1
    obtain ⟨u, hu, ru⟩ := r1.get hx
    obtain ⟨⟨old, hE⟩, hI⟩ := st
    have fe := hf e (by simp)
    have fi := hf it (by simp)
    refine wpAny_pyNext_enum_item hE hI p1.isList (x := u) (by simpa using hu) hei fun h' ho hit' hT hsz hk => ?_
    have hp : H s.heap.objs.size = none := I.hok.fresh (Nat.le_refl _)
    have inC : ∀ b, b ∈ [e, it] → FpOk X pins H b := fun b hb => hf b hb
    have hk' : ∀ b o, b ∉ [e, it] → s.heap.get? b = some o → h'.get? b = some o := fun b o hb ee => hk b o (fun q => hb (by simp [q])) (fun q => hb (by simp [q])) ee
    have nC : ∀ b v, H b = some v → b ∉ [e, it] := fun b v ee hb => by rw [(inC b hb).1] at ee; cases ee
    have nP : ∀ b v, H b = some v → b ≠ s.heap.objs.size := fun b v ee => ne_of_none ee hp
    have I1 : Inv X pins σ (upd H s.heap.objs.size (.tup [.int (i : Int), x])) { s with heap := h', toks := s.toks + 1 } := by
      refine I.step (g' := s.gens) (t' := s.toks + 1) (d' := s.drawn) (ch := [e, it]) (fun b hb => ⟨(inC b hb).2.2.2.1, (inC b hb).2.1, (inC b hb).2.2.2.2.1, (inC b hb).2.2.2.2.2⟩) (fun b o _ _ hb ee _ => hk' b o hb ee) (fun b o _ _ hb ee _ => ⟨o.slots, hk' b o hb ee⟩)
        (fun b o hb ee n => by rw [upd_ne (Nat.ne_of_lt (Heap.lt_size ee))]; exact n) (fun b o hb ee => ⟨o, hk' b o hb ee⟩) (fun b v ee => by rw [upd_ne (nP b _ ee)]; exact ee) (fun b o v ee => by rw [upd_ne (nP b _ ee)]; exact ee) (fun b ps ee => ⟨#[], by rw [upd_ne (nP b _ ee), ee]; simp⟩)
        (fun m hm => ?_) (fun b v ee => ?_) I.bare
      · obtain ⟨o, es, ep, hoo, rr⟩ := hm
        exact ⟨o, es, ep, hk' _ o (fun hb => (inC _ hb).2.1 rfl) hoo, rr⟩
      · by_cases hb : b = s.heap.objs.size
        · subst hb
          rw [upd_same] at ee; cases ee
          exact ⟨by rw [sizeLine_eq]; show 2 ≤ 16777216; decide, [.int (i : Int) s.toks, u], .cons ⟨_, rfl⟩ (.cons ru .nil), ⟨_, hT, rfl, rfl, _, rfl⟩⟩
        · rw [upd_ne hb] at ee
          refine (I.hok b v ee).stay (fun c' v' hc' q => ?_) (fun c' q => by rw [upd_ne (nP c' _ q)]; exact q) fun c' xs' q => by rw [upd_ne (nP c' _ q)]; exact q
          rcases hc' with rfl | hc'
          · exact hk' _ _ (nC _ _ ee) q
          · exact hk' _ _ (nC _ _ hc') q
    refine ⟨_, rfl, wpAny_letOwnedTupleGo_enum (s := { s with heap := h', toks := s.toks + 1 }) ho fun h'' hE'' hs'' => ?_⟩
    have hpe : s.heap.objs.size ≠ e := Nat.ne_of_gt (Heap.lt_size hE)
    have I2 : Inv X pins σ (upd H s.heap.objs.size (.tup [.int (i : Int), x])) { s with heap := h'', toks := s.toks + 1 } := Inv.turned (s := { s with heap := h', toks := s.toks + 1 }) (t' := s.toks + 1) I1 (fun b o hb ee => hs''.extBut b o hb ee) (by rw [upd_ne (Ne.symm hpe)]; exact fe.1) fe.2.1 fe.2.2.2.1 fe.2.2.2.2.1 fe.2.2.2.2.2
    have e2 : (i : Int) + 1 = ((i + 1 : Nat) : Int) := by omega
    rw [e2] at hE''
    refine ⟨.ref s.heap.objs.size, _, I2, rfl, ⟨_, x, hp, rfl, rfl, fun xs' q => by rw [I.list_inj q q1]; exact hx⟩, ⟨⟨_, hE''⟩, hit'.at fun o ee => hs''.extBut _ o (Ne.symm hei) ee⟩, fun b hb => ?_⟩
    have lt : b < s.heap.objs.size := by
      have hb' : b = e ∨ b = it := by simpa using hb
      rcases hb' with rfl | rfl
      · exact Heap.lt_size hE
      · obtain ⟨o, eo, _⟩ := hI
        exact Heap.lt_size eo
    rw [upd_ne (Nat.ne_of_lt lt)]
    exact (hf b hb).1
  done := by
    intro X hP hw hK hc i pins s σ H E I hf st hg
    subst hP hw hK
    obtain ⟨xs, q1, hl⟩ := hg
    obtain ⟨its, r1, p1, hz1⟩ := I.list q1
    have hlen := r1.length
    obtain ⟨⟨old, hE⟩, hI⟩ := st
    obtain ⟨f0, f1, f2, f3, f4, f5⟩ := hf it (by simp)
    exact wpAny_pyNext_enum_end (I.ok.hd hc) hE hI p1.isList (Array.getElem?_eq_none (by simp; omega)) fun h' eb => ⟨rfl, I.turned (t' := s.toks) (fun b o hb ee => eb b o hb ee) f0 f1 f3 f4 f5⟩
  self := fun _ _ _ _ _ st h => by
    obtain ⟨⟨old, hE⟩, _⟩ := st
    exact wpAny_pyIter_enum hE h
section
variable {X : Cx} {ca : Nat → Addr} {e1 : Expr} {m1 : ME} {p pos tp : Pos} {elts : List Expr} {kk : Nat}
theorem pi_enum {ta : TA} (hg : Gl X "enumerate") (hm : X.mg "enumerate" = none) (ha : PA X [e1] ta) (hs : starEach [e1] X.env = [(false, eval e1 X.env)]) :
    PI X (.Tuple elts kk tp) (.Call (.Name "enumerate" p) [e1] [] pos) (fun σ H R => ta σ H fun vs H1 => ∃ a xs, vs = [.ref a] ∧ SqL X.K H1 a xs ∧ R (Ite X.K a) H1) := by
  intro pins s σ H R I h
  refine Call_ (ld_blt I hg hm boot_enumerate (PyProof.Rows.callWith_type1 (thn (ha pos pins s σ H _ I h) fun us s1 ⟨vs, H1, I1, r1, q1⟩ => ?_) hs rfl))
  obtain ⟨a, xs, rfl, hq, q⟩ := q1
  cases r1 with
  | cons ru rr =>
    cases rr
    cases ru
    obtain ⟨its, v1, p1, hz⟩ := I1.list hq
    refine call_enumerate_list p1.isList fun h' hE hI hsz hk => wpAny_pyIter_enum hE ?_
    have I2 : Inv X pins σ H1 { s1 with heap := h' } := I1.kept (t' := s1.toks) hk
    refine ⟨s1.heap.objs.size + 1, _, _, _, H1, rfl, I2, turn_enum _ s1.heap.objs.size a (Nat.succ_ne_self _), ⟨⟨_, hE⟩, hI⟩, fun b hb => ?_, q⟩
    have hb' : b = s1.heap.objs.size + 1 ∨ b = s1.heap.objs.size := by simpa using hb
    have hle : s1.heap.objs.size ≤ b := by rcases hb' with h | h <;> rw [h] <;> first | exact Nat.le_refl _ | exact Nat.le_add_right _ _
    exact I1.fpOk hle (I1.hok.fresh hle)
theorem sim_enum {K : PySem.W.Frag} {μ : List Addr} {H : Hp} {g : G} {v1 : V} {d1 : D} {xs : List D} {t : Nat} (q1 : Den K μ H v1 d1) (h1 : seqOf g d1 = some (true, xs)) {a1 : Addr} (e1 : v1 = .ref a1) :
    Sim K ca μ H ⟨fun g i => (match seqOf g d1 with
    | some (_, es) => (match es[i]? with
      | some x => some (some (.tup [.int i, x]))
      | none => some none)
    | none => none), t⟩ (Ite K a1) := by
  intro i H1 μ1 g1 ex r
  dsimp only
  cases k1 : seqOf g1 d1 with
  | none => trivial
  | some p1 =>
    obtain ⟨c1, xs1⟩ := p1
    have f1 := seqOf_kind (K := K) (μ := μ) (H := H) (μ' := μ) (H' := H) (v := v1) h1 k1
    subst f1
    obtain ⟨z1, vs, w1, s1, d1s⟩ := seqOf_sq r (q1.mono ex) k1
    rw [e1] at w1; cases w1
    dsimp only
    cases hx : xs1[i]? with
    | none =>
      refine ⟨vs, s1, ?_⟩
      rw [d1s.length]; exact List.getElem?_eq_none_iff.mp hx
    | some x =>
      obtain ⟨vx, hvx, qx⟩ := d1s.get hx
      refine ⟨⟨vs, vx, s1, hvx⟩, fun v H' yl => ?_⟩
      obtain ⟨pp, x', hp, rfl, rfl, u1⟩ := yl
      have := u1 vs s1
      rw [hvx] at this; cases this
      exact ⟨ext_new hp, r.new hp, .tup (.of upd_same) (.cons (.int _) (.cons (qx.mono (ext_new hp)) .nil))⟩
theorem r_itEnum (hm : X.mg "enumerate" = none) (h1 : PE3 ca X e1 m1) (hg : Gl X "enumerate" := by rfl) (hs : starEach [e1] X.env = [(false, eval e1 X.env)] := by rfl) : PI3 ca X (.Tuple elts kk tp) (.Call (.Name "enumerate" p) [e1] [] pos) (mItEnum m1) :=
  fun pn Φ => conseqI (pi_enum (X := xat X ca pn Φ) hg hm (r_cons h1 r_nil hs pn Φ) hs) fun σ H R hQ => by
    obtain ⟨σ3, g, μ, Rp, q⟩ := hQ
    refine ⟨σ3, g, μ, Rp, ?_⟩
    unfold mItEnum at q
    unfold mCons mNil
    cases hm1 : m1 σ3 g with
    | raise _ _ => rw [hm1] at q; exact q
    | stuck => rw [hm1] at q; exact q.elim
    | ok d1 g1 =>
      rw [hm1, Res.bind_ok] at q
      rw [Res.bind_ok, Res.bind_ok]
      intro vs H1 μ1 ex r1 q1
      unfold srcEnum at q
      cases hs1 : seqOf g1 d1 with
      | none => rw [hs1] at q; exact q.elim
      | some p1 =>
        obtain ⟨b, ds⟩ := p1
        rw [hs1] at q
        cases b with
        | false => exact q.elim
        | true =>
          cases q1 with
          | @cons v _ _ _ n1 q1 =>
            cases q1
            obtain ⟨a, ws, rfl, sq, dn⟩ := seqOf_sq r1 n1 hs1
            exact ⟨a, ws, rfl, sq, q _ H1 μ1 ex r1 (sim_enum n1 hs1 rfl)⟩
end
end L3

end
section
namespace L2
open PySem PySem.Spec PyProof.Rows

section
variable {κ : Type} [DecidableEq κ]
noncomputable def valV (kvs : List (κ × V)) (k : κ) : Option V := (kvs.find? fun kv => decide (kv.1 = k)).map (·.2)
noncomputable def putK (kvs : List (κ × V)) (k : κ) (v : V) : List (κ × V) :=
  if (kvs.any fun kv => decide (kv.1 = k)) = true then kvs.map (fun kv => if kv.1 = k then (kv.1, v) else kv) else kvs ++ [(k, v)]
noncomputable def dropK (kvs : List (κ × V)) (k : κ) : List (κ × V) := kvs.filter fun kv => decide (kv.1 ≠ k)

theorem valV_pos {p : κ × V} {r : List (κ × V)} {k : κ} (e : p.1 = k) : valV (p :: r) k = some p.2 := by simp [valV, List.find?_cons, e]
theorem valV_neg {p : κ × V} {r : List (κ × V)} {k : κ} (e : ¬ p.1 = k) : valV (p :: r) k = valV r k := by simp [valV, List.find?_cons, e]
theorem length_putK (kvs : List (κ × V)) (k : κ) (v : V) : (putK kvs k v).length ≤ kvs.length + 1 := by
  unfold putK
  split
  · rw [List.length_map]; omega
  · rw [List.length_append, List.length_cons, List.length_nil]; omega
theorem RelO.getD {o : Option V} {u : Option Value} {d : V} {d' : Value} (r : RelO o u) (rd : RelV d d') : RelV (o.getD d) (u.getD d') := by
  cases o with
  | none => cases u with
    | none => exact rd
    | some _ => exact (show False from r).elim
  | some _ => cases u with
    | none => exact (show False from r).elim
    | some _ => exact r

theorem KV.val {kvs : List (κ × V)} {vs : List (κ × Value)} (r : KV kvs vs) (k : κ) : RelO (valV kvs k) (valueAt vs k) := by
  unfold KV at r
  induction r with
  | nil => exact True.intro
  | @cons p q ps qs h t ih =>
    obtain ⟨h1, h2⟩ := h
    by_cases e : p.1 = k
    · have e' : q.1 = k := h1.symm.trans e
      have b : valueAt (q :: qs) k = some q.2 := by simp [valueAt, List.find?_cons, e']
      rw [valV_pos e, b]; exact h2
    · have e' : ¬ q.1 = k := fun z => e (h1.trans z)
      have b : valueAt (q :: qs) k = valueAt qs k := by simp [valueAt, List.find?_cons, e']
      rw [valV_neg e, b]; exact ih
theorem KV.any {kvs : List (κ × V)} {vs : List (κ × Value)} (r : KV kvs vs) (k : κ) : (kvs.any fun kv => decide (kv.1 = k)) = vs.any fun kv => decide (kv.1 = k) := by
  unfold KV at r
  induction r with
  | nil => rfl
  | cons h t ih => rw [List.any_cons, List.any_cons, ih, h.1]
theorem KV.repl {kvs : List (κ × V)} {vs : List (κ × Value)} (r : KV kvs vs) (k : κ) {y : V} {u : Value} (ry : RelV y u) :
    KV (kvs.map fun kv => if kv.1 = k then (kv.1, y) else kv) (vs.map fun kv => if kv.1 = k then (kv.1, u) else kv) := by
  unfold KV at r ⊢
  induction r with
  | nil => exact .nil
  | @cons p q ps qs h t ih =>
    rw [List.map_cons, List.map_cons]
    refine .cons ?_ ih
    obtain ⟨h1, h2⟩ := h
    by_cases e : p.1 = k
    · rw [if_pos e, if_pos (h1.symm.trans e)]; exact ⟨h1, ry⟩
    · rw [if_neg e, if_neg (fun z => e (h1.trans z))]; exact ⟨h1, h2⟩
theorem KV.put {kvs : List (κ × V)} {vs : List (κ × Value)} (r : KV kvs vs) (k : κ) {y : V} {u : Value} (ry : RelV y u) : KV (putK kvs k y) (stored vs k u) := by
  unfold putK stored
  rw [r.any k]
  by_cases e : (vs.any fun kv => decide (kv.1 = k)) = true
  · rw [if_pos e, if_pos e]; exact r.repl k ry
  · rw [if_neg e, if_neg e]; exact Paired.snoc r ⟨rfl, ry⟩
theorem KV.drop {kvs : List (κ × V)} {vs : List (κ × Value)} (r : KV kvs vs) (k : κ) : KV (dropK kvs k) (without vs k) := by
  unfold KV at r ⊢
  unfold dropK without
  induction r with
  | nil => exact .nil
  | @cons p q ps qs h t ih =>
    obtain ⟨h1, h2⟩ := h
    rw [List.filter_cons, List.filter_cons]
    by_cases e : p.1 = k
    · have a : ¬ decide (p.1 ≠ k) = true := by simp [e]
      have b : ¬ decide (q.1 ≠ k) = true := by simp [h1.symm.trans e]
      rw [if_neg a, if_neg b]; exact ih
    · have e' : ¬ q.1 = k := fun z => e (h1.trans z)
      have a : decide (p.1 ≠ k) = true := by simp [e]
      have b : decide (q.1 ≠ k) = true := by simp [e']
      rw [if_pos a, if_pos b]; exact .cons ⟨h1, h2⟩ ih
theorem KV.length {kvs : List (κ × V)} {vs : List (κ × Value)} (r : KV kvs vs) : kvs.length = vs.length := Paired.length r
end


theorem kV_is {P : Program} {w : World} {k : Key} {u : Value} (r : RelV (kV k) u) : (mixKind P w).is k u = true := by
  cases k with
  | inl i => obtain ⟨t, e⟩ := (show ∃ t, u = Value.int i t from r); subst e; exact mixKind_int P w i t
  | inr x => obtain ⟨t, e⟩ := (show ∃ t, u = Value.str x t from r); subst e; exact mixKind_str P w x t
section
variable {P : Program} {w : World} {H : Hp} {h : Heap} {a : Addr}
theorem rd_of {u : HO} (ok : HOk P w H h) (e : Rd H a u) : ObjOk P w H h a u := e.ok ok
theorem dk_rd {kvs : List (Key × V)} (ok : HOk P w H h) (e : Rd H a (.dK kvs)) : kvs.length ≤ sizeLine ∧ (a == sysModules) = false ∧ ∃ vs, KV kvs vs ∧ h.DictOf (mixKind P w) a vs :=
  show ObjOk P w H h a (.dK kvs) from rd_of ok e
theorem dk_of {kvs : List (Key × V)} (ok : HOk P w H h) (e : H a = some (.dK kvs)) : kvs.length ≤ sizeLine ∧ (a == sysModules) = false ∧ ∃ vs, KV kvs vs ∧ h.DictOf (mixKind P w) a vs := dk_rd ok (.inl e)
end

section
variable {X : Cx} {pins : List (Addr × Obj)} {σ : St} {H : Hp} {s : Shared} {a : Addr} {y v : V} {u r : Value} {o : Option V} {A : Around} {E : Value → Shared → Prop}

theorem Inv.big (I : Inv X pins σ H s) : sysModules < s.heap.objs.size := by
  have h : mainGlobals < s.heap.objs.size := (I.mod.glob.keeps I.bk).lt
  exact Nat.lt_trans (by decide) h

theorem dk_new {P : Program} {w : World} {H' : Hp} {h' : Heap} {kvs : List (Key × V)} {vs : List (Key × Value)} (z : kvs.length ≤ sizeLine) (hd : (a == sysModules) = false) (rel : KV kvs vs) (dd : h'.DictOf (mixKind P w) a vs) :
    ObjOk P w H' h' a (.dK kvs) := ⟨z, hd, vs, rel, dd⟩
end

section
variable {X : Cx} {pins : List (Addr × Obj)} {σ : St} {H : Hp} {s : Shared} {a : Addr} {kvs : List (Key × V)} {k : Key} {u : Value} {A : Around} {E : Value → Shared → Prop}
end


section
variable {X : Cx} {o i e value : Expr} {pos pos' tpos : Pos} {td ty tv : TE}
end


section
variable {X : Cx} {pos : Pos}
end

section
variable {X : Cx} {pins : List (Addr × Obj)} {σ : St} {H : Hp} {s : Shared} {a : Addr} {y d : V} {u r : Value} {o : Option V} {A : Around} {E : Value → Shared → Prop}
end

section
variable {X : Cx} {o e f : Expr} {apos cpos : Pos} {td ty tx : TE}
end

section
variable {X : Cx} {pins : List (Addr × Obj)} {σ : St} {H : Hp} {s : Shared} {a : Addr} {kvs : List (Key × V)} {A : Around} {E : Value → Shared → Prop}
end


section
variable {X : Cx} {pins : List (Addr × Obj)} {σ : St} {H : Hp} {s : Shared} {a : Addr} {y : V} {u : Value} {A : Around} {E : Value → Shared → Prop}
end
end L2

end
section
namespace L3
open PySem
noncomputable abbrev DK := Sum Int Str
noncomputable def dGet (ks : List (DK × D)) (k : DK) : Option D := (ks.find? fun p => decide (p.1 = k)).map (·.2)
noncomputable def dPut (ks : List (DK × D)) (k : DK) (v : D) : List (DK × D) := if (ks.any fun p => decide (p.1 = k)) = true then ks.map fun p => if p.1 = k then (p.1, v) else p else ks ++ [(k, v)]
noncomputable def dDrop (ks : List (DK × D)) (k : DK) : List (DK × D) := ks.filter fun p => decide (p.1 ≠ k)
noncomputable def mDGet2 (o k x : ME) : ME := fun σ g => (o σ g).bind fun a g1 => match a with
  | .ref n => (match g1[n]? with
    | some (.dct _) => (k σ g1).bind fun y g2 => (x σ g2).bind fun z g3 => (match y with
      | .int i => (match g3[n]? with
        | some (.dct ks) => .ok ((dGet ks (.inl i)).getD z) g3
        | _ => .stuck)
      | _ => .stuck)
    | _ => .stuck)
  | _ => .stuck
end L3

end
section
namespace L3
open PySem PySem.Spec PyProof.Rows L2
section
variable {K : PySem.W.Frag} {μ : List Addr} {H : Hp}
theorem KRel.get {kv : List (Key × V)} {ks : List (Key × D)} (r : KRel K μ H kv ks) (k : Key) : (valV kv k = none ∧ dGet ks k = none) ∨ ∃ v d, valV kv k = some v ∧ dGet ks k = some d ∧ Den K μ H v d := by
  unfold KRel at r
  induction r with
  | nil => exact .inl ⟨rfl, rfl⟩
  | @cons p q ps qs h t ih =>
    obtain ⟨h1, h2⟩ := h
    by_cases e : p.1 = k
    · refine .inr ⟨p.2, q.2, valV_pos e, ?_, h2⟩
      unfold dGet; rw [List.find?_cons, decide_eq_true (h1.symm.trans e)]; rfl
    · have e' : dGet (q :: qs) k = dGet qs k := by
        unfold dGet; rw [List.find?_cons, decide_eq_false (fun z => e (h1.trans z))]
      rw [valV_neg e, e']; exact ih
theorem KRel.put {kv : List (Key × V)} {ks : List (Key × D)} {v : V} {d : D} (r : KRel K μ H kv ks) (k : Key) (h : Den K μ H v d) : KRel K μ H (putK kv k v) (dPut ks k d) := by
  have ha : (kv.any fun p => decide (p.1 = k)) = ks.any fun p => decide (p.1 = k) := by
    unfold KRel at r
    induction r with
    | nil => rfl
    | cons h t ih => rw [List.any_cons, List.any_cons, ih, h.1]
  unfold putK dPut
  rw [ha]
  by_cases e : (ks.any fun p => decide (p.1 = k)) = true
  · rw [if_pos e, if_pos e]
    clear ha e
    unfold KRel at r ⊢
    induction r with
    | nil => exact .nil
    | @cons p q ps qs hp t ih =>
      rw [List.map_cons, List.map_cons]
      refine .cons ?_ ih
      obtain ⟨h1, h2⟩ := hp
      by_cases e : p.1 = k
      · rw [if_pos e, if_pos (h1.symm.trans e)]; exact ⟨h1, h⟩
      · rw [if_neg e, if_neg (fun z => e (h1.trans z))]; exact ⟨h1, h2⟩
  · rw [if_neg e, if_neg e]; exact Paired.snoc r ⟨rfl, h⟩
theorem KRel.drop {kv : List (Key × V)} {ks : List (Key × D)} (r : KRel K μ H kv ks) (k : Key) : KRel K μ H (dropK kv k) (dDrop ks k) := by
  unfold KRel at r ⊢
  unfold dropK dDrop
  induction r with
  | nil => exact .nil
  | @cons p q ps qs h t ih =>
    obtain ⟨h1, h2⟩ := h
    rw [List.filter_cons, List.filter_cons, ← h1]
    by_cases e : decide (p.1 ≠ k) = true
    · rw [if_pos e, if_pos e]; exact .cons ⟨h1, h2⟩ ih
    · rw [if_neg e, if_neg e]; exact ih
end
section
variable {X : Cx}
theorem mt_dget2 : MtR X "dict.get" (fun x vs H Q => ∃ a kvs k d, x = .ref a ∧ vs = [kV k, d] ∧ H a = some (.dK kvs) ∧ Q ((valV kvs k).getD d) H) := by
  intro pins s σ H x vs v us Q I rx rv h
  obtain ⟨a, kvs, k, d, rfl, rfl, e, q⟩ := h
  cases rx
  cases rv with
  | cons ry r2 => cases r2 with
    | cons rd r3 =>
      cases r3
      obtain ⟨z, hd, vs, rel, dd⟩ := dk_of I.hok e
      exact call_meetsIn PySem.F.slot_dict_get dd.typeIs PySem.F.entry_dict_get (PySem.F.args_dict_get_3 _ _ _) (meets_dict_get_default (mixKind X.prog X.w) a (kV_is ry) hd _) ⟨_, dd.mapOf, _, H, I.tok _, (rel.val k).getD rd, q⟩
end
section
variable {X : Cx} {ca : Nat → Addr} {o e f : Expr} {mo me mf : ME} {p pos apos : Pos}
theorem r_dget2 (ho : PE3 ca X o mo) (he : PE3 ca X e me) (hf : PE3 ca X f mf) (hbase : attributeBase o "get" X.env (eval o X.env) = eval o X.env := by rfl)
    (hfew : ((backTo pos (starEach [e, f] X.env)).all (fun x => !x.1) && (backToKw pos (keywordEach [] X.env)).all (fun x => x.1.isSome) && decide ([e, f].length + ([] : List Keyword).length + (if ([] : List Keyword).isEmpty then 0 else 1) < 30)) = true := by rfl)
    (hline : (apos.endLine == pos.line) = true := by rfl) (hs : starEach [e, f] X.env = (false, eval e X.env) :: starEach [f] X.env := by rfl) (hs2 : starEach [f] X.env = (false, eval f X.env) :: starEach [] X.env := by rfl) (hplain : (backTo pos (starEach [f] X.env)).any (·.1) = false := by rfl) :
    PE3 ca X (.Call (.Attribute o "get" apos) [e, f] [] pos) (mDGet2 mo me mf) :=
  fun pn Φ => conseq (pe_bm (X := xat X ca pn Φ) PySem.F.plainAttrs_dict PySem.F.slot_dict_get PySem.F.type_dict_get mt_dget2 (ho pn Φ) (r_cons he (r_cons hf r_nil hs2) hs pn Φ) hbase hfew hline hs hplain) fun σ H Q ⟨σ3, g, μ, R, q⟩ => up_mono (bindE R q) fun x H1 hQ => by
    obtain ⟨d, g1, μ1, e1, R1, q1, p1⟩ := hQ
    cases q1 with
    | @ref n t hn =>
      dsimp only at p1
      cases hgn : g1[n]? with
      | none => rw [hgn] at p1; exact p1.elim
      | some ob =>
        rw [hgn] at p1
        obtain ⟨t', ht', orp⟩ := R1.g.addr hgn
        rw [hn] at ht'; cases ht'
        cases ob with
        | dct ks0 =>
          obtain ⟨kv0, hH0, _⟩ := orp
          dsimp only at p1
          refine ⟨.inr (.inr (.inl ⟨rfl, .inl ⟨_, hH0⟩⟩)), σ3, g1, μ1, R1, ?_⟩
          unfold mCons mNil
          cases hm : me σ3 g1 with
          | raise _ _ => rw [hm] at p1; exact p1
          | stuck => rw [hm] at p1; exact p1.elim
          | ok y g2 =>
            rw [hm, Res.bind_ok] at p1
            rw [Res.bind_ok]
            cases hm2 : mf σ3 g2 with
            | raise _ _ => rw [hm2] at p1; exact p1
            | stuck => rw [hm2] at p1; exact p1.elim
            | ok z g3 =>
              rw [hm2, Res.bind_ok] at p1
              rw [Res.bind_ok, Res.bind_ok, Res.bind_ok]
              intro vs H2 μ2 e2 r2 q2
              cases q2 with
              | cons h1 h2 => cases h2 with
                | cons h2 h3 =>
                  cases h3
                  cases h1 with
                  | int i =>
                    dsimp only at p1
                    cases hg2 : g3[n]? with
                    | none => rw [hg2] at p1; exact p1.elim
                    | some ob2 =>
                      rw [hg2] at p1
                      obtain ⟨t', ht', orp⟩ := r2.addr hg2
                      rw [e2.at hn] at ht'; cases ht'
                      cases ob2 with
                      | dct ks =>
                        obtain ⟨kv, hH, qs⟩ := orp
                        dsimp only at p1
                        refine ⟨t, kv, .inl i, _, rfl, rfl, hH, p1 _ _ μ2 e2 r2 ?_⟩
                        rcases qs.get (.inl i) with ⟨a, b⟩ | ⟨v, d, a, b, c⟩
                        · rw [a, b]; exact h2
                        · rw [a, b]; exact c
                      | _ => exact p1.elim
                  | _ => exact p1.elim
        | _ => exact p1.elim
    | _ => exact p1.elim
end
end L3

end
section
namespace L3
open PySem
noncomputable def minZ : List Int → Option Int
  | [] => none
  | i :: r => (match minZ r with
    | none => some i
    | some j => some (if j < i then j else i))
noncomputable def maxZ : List Int → Option Int
  | [] => none
  | i :: r => (match maxZ r with
    | none => some i
    | some j => some (if i < j then j else i))
noncomputable def pMinL (x : D) (g : G) : Res D := match x with
  | .ref n => (match g[n]? with
    | some (.lst ds) => (match intsD ds with
      | some is => (match minZ is with
        | some i => .ok (.int i) g
        | none => .stuck)
      | none => .stuck)
    | _ => .stuck)
  | _ => .stuck
noncomputable def pMaxL (x : D) (g : G) : Res D := match x with
  | .ref n => (match g[n]? with
    | some (.lst ds) => (match intsD ds with
      | some is => (match maxZ is with
        | some i => .ok (.int i) g
        | none => .stuck)
      | none => .stuck)
    | _ => .stuck)
  | _ => .stuck
noncomputable def pStr (x : D) (g : G) : Res D := match x with
  | .int i => if 0 ≤ i ∧ i < 1000000 then .ok (.str (Str.ofString (toString i))) g else .stuck
  | _ => .stuck
theorem minZ_mem : ∀ {is : List Int} {M : Int}, minZ is = some M → M ∈ is ∧ ∀ a ∈ is, M ≤ a
  | [], _, h => by cases h
  | i :: r, M, h => by
    unfold minZ at h
    cases hr : minZ r with
    | none =>
      rw [hr] at h
      cases h
      cases r with
      | nil => exact ⟨List.mem_cons_self .., fun a ha => by rw [List.mem_singleton.mp ha]; exact Int.le_refl _⟩
      | cons j r' =>
        unfold minZ at hr
        cases h2 : minZ r' with
        | none => rw [h2] at hr; cases hr
        | some k => rw [h2] at hr; cases hr
    | some j =>
      rw [hr] at h
      dsimp only at h
      obtain ⟨q1, q2⟩ := minZ_mem hr
      by_cases z : j < i
      · rw [if_pos z] at h; cases h
        exact ⟨List.mem_cons_of_mem _ q1, fun a ha => by
          rcases List.mem_cons.mp ha with e | e
          · omega
          · exact q2 a e⟩
      · rw [if_neg z] at h; cases h
        exact ⟨List.mem_cons_self .., fun a ha => by
          rcases List.mem_cons.mp ha with e | e
          · omega
          · have := q2 a e; omega⟩
theorem maxZ_mem : ∀ {is : List Int} {M : Int}, maxZ is = some M → M ∈ is ∧ ∀ a ∈ is, a ≤ M
  | [], _, h => by cases h
  | i :: r, M, h => by
    unfold maxZ at h
    cases hr : maxZ r with
    | none =>
      rw [hr] at h
      cases h
      cases r with
      | nil => exact ⟨List.mem_cons_self .., fun a ha => by rw [List.mem_singleton.mp ha]; exact Int.le_refl _⟩
      | cons j r' =>
        unfold maxZ at hr
        cases h2 : maxZ r' with
        | none => rw [h2] at hr; cases hr
        | some k => rw [h2] at hr; cases hr
    | some j =>
      rw [hr] at h
      dsimp only at h
      obtain ⟨q1, q2⟩ := maxZ_mem hr
      by_cases z : i < j
      · rw [if_pos z] at h; cases h
        exact ⟨List.mem_cons_of_mem _ q1, fun a ha => by
          rcases List.mem_cons.mp ha with e | e
          · omega
          · exact q2 a e⟩
      · rw [if_neg z] at h; cases h
        exact ⟨List.mem_cons_self .., fun a ha => by
          rcases List.mem_cons.mp ha with e | e
          · omega
          · have := q2 a e; omega⟩
end L3

end
section
namespace L3
open PySem PySem.Spec PyProof.Rows L2
section
variable {X : Cx}
end
section
variable {X : Cx} {ca : Nat → Addr} {a b e f o : Expr} {ma mb me mf mo : ME} {p pos apos : Pos}
theorem intsAre_of : ∀ {ns : List Int} {us : List Value}, Vals (ns.map V.int) us → IntsAre us ns
  | [], _, h => by cases h; exact .nil
  | n :: ns, _, h => by
    cases h with
    | cons h1 h2 =>
      obtain ⟨t, rfl⟩ := h1
      exact .cons n t (intsAre_of h2)
theorem call_minL (hc : X.calm = true) : CallR X (.builtin "min") (fun xs H Q => ∃ (a : Addr) (ns : List Int) (M : Int), xs = [.ref a] ∧ SqL X.K H a (ns.map V.int) ∧ minZ ns = some M ∧ Q (.int M) H) := by
  intro pins s σ H xs us Q I rv h
  obtain ⟨a, ns, M, rfl, hq, hM, q⟩ := h
  obtain ⟨u, rfl, ru⟩ := rv.one
  cases ru
  obtain ⟨its, r, pl, hz⟩ := I.list hq
  have hi := intsAre_of r
  obtain ⟨m1, m2⟩ := minZ_mem hM
  obtain ⟨xs, hxs⟩ := hi.allInts.items
  have hl := pl.isList
  rw [hxs] at hl
  have hns : numsOf (intItems xs).toList = ns := by rw [← hxs]; exact hi.numsOf
  rw [nums_intItems] at hns
  have hlen : xs.size = ns.length := by rw [← hns, List.length_map, Array.length_toList]
  have hsz : 0 < xs.size := by rw [hlen]; exact List.length_pos_of_mem m1
  refine min_intList (I.ok.hd hc) hl hsz fun v h' tk hv hk => ?_
  obtain ⟨t, rfl⟩ := intItems_at hv
  obtain ⟨h1, h2⟩ := argBest_lt (numAt xs) (xs.size - 1)
  have e : numAt xs (argBest (fun i j => decide (numAt xs i < numAt xs j)) (xs.size - 1)) = M := by
    have b1 : numAt xs (argBest (fun i j => decide (numAt xs i < numAt xs j)) (xs.size - 1)) ∈ ns := by
      rw [← hns, numAt_eq]; exact getD_mem (by rw [List.length_map, Array.length_toList]; omega)
    have b2 : numAt xs (argBest (fun i j => decide (numAt xs i < numAt xs j)) (xs.size - 1)) ≤ M := by
      rw [← hns] at m1
      obtain ⟨j, hj, e⟩ := mem_getD m1
      rw [List.length_map, Array.length_toList] at hj
      rw [← e, ← numAt_eq]; exact h2 j (by omega)
    have b3 := m2 _ b1
    omega
  exact ⟨.int M, H, I.kept hk, ⟨t, by rw [← e]⟩, q⟩
theorem call_maxL (hc : X.calm = true) : CallR X (.builtin "max") (fun xs H Q => ∃ (a : Addr) (ns : List Int) (M : Int), xs = [.ref a] ∧ SqL X.K H a (ns.map V.int) ∧ maxZ ns = some M ∧ Q (.int M) H) := by
  intro pins s σ H xs us Q I rv h
  obtain ⟨a, ns, M, rfl, hq, hM, q⟩ := h
  obtain ⟨u, rfl, ru⟩ := rv.one
  cases ru
  obtain ⟨its, r, pl, hz⟩ := I.list hq
  have hi := intsAre_of r
  obtain ⟨m1, m2⟩ := maxZ_mem hM
  obtain ⟨xs, hxs⟩ := hi.allInts.items
  have hl := pl.isList
  rw [hxs] at hl
  have hns : numsOf (intItems xs).toList = ns := by rw [← hxs]; exact hi.numsOf
  rw [nums_intItems] at hns
  have hlen : xs.size = ns.length := by rw [← hns, List.length_map, Array.length_toList]
  have hsz : 0 < xs.size := by rw [hlen]; exact List.length_pos_of_mem m1
  refine max_intList (I.ok.hd hc) hl hsz fun v h' tk hv hk => ?_
  obtain ⟨t, rfl⟩ := intItems_at hv
  obtain ⟨h1, h2⟩ := argBest_gt (numAt xs) (xs.size - 1)
  have e : numAt xs (argBest (fun i j => decide (numAt xs i > numAt xs j)) (xs.size - 1)) = M := by
    have b1 : numAt xs (argBest (fun i j => decide (numAt xs i > numAt xs j)) (xs.size - 1)) ∈ ns := by
      rw [← hns, numAt_eq]; exact getD_mem (by rw [List.length_map, Array.length_toList]; omega)
    have b2 : numAt xs (argBest (fun i j => decide (numAt xs i > numAt xs j)) (xs.size - 1)) ≥ M := by
      rw [← hns] at m1
      obtain ⟨j, hj, e⟩ := mem_getD m1
      rw [List.length_map, Array.length_toList] at hj
      rw [← e, ← numAt_eq]; exact h2 j (by omega)
    have b3 := m2 _ b1
    omega
  exact ⟨.int M, H, I.kept hk, ⟨t, by rw [← e]⟩, q⟩
theorem prim_listZ {Z : List Int → Option Int} {f : D → G → Res D} {Φ : XS} {σ : L2.St} {H : Hp} {μ : List Addr} {g : G} {y : V} {d : D} {Q : VK} (hf : ∀ x g, f x g = match x with
    | .ref n => (match g[n]? with
      | some (.lst ds) => (match intsD ds with
        | some is => (match Z is with
          | some i => .ok (.int i) g
          | none => .stuck)
        | none => .stuck)
      | _ => .stuck)
    | _ => .stuck) (r : GRep X.K ca μ H g) (q : Den X.K μ H y d) (pp : Post X.K ca Φ σ Q H μ (f d g)) : ∃ (a : Addr) (ns : List Int) (M : Int), [y] = [V.ref a] ∧ SqL X.K H a (ns.map V.int) ∧ Z ns = some M ∧ Q (.int M) H := by
  rw [hf] at pp
  cases q with
  | @ref n t hn =>
    dsimp only at pp
    cases hgn : g[n]? with
    | none => rw [hgn] at pp; exact pp.elim
    | some ob =>
      rw [hgn] at pp
      obtain ⟨t', ht', orp⟩ := r.addr hgn
      rw [hn] at ht'; cases ht'
      cases ob with
      | lst ds =>
        obtain ⟨vs, hH, q⟩ := orp
        dsimp only at pp
        cases hi : intsD ds with
        | none => rw [hi] at pp; exact pp.elim
        | some is =>
          rw [hi] at pp
          dsimp only at pp
          cases hz : Z is with
          | none => rw [hz] at pp; exact pp.elim
          | some M =>
            rw [hz] at pp
            have ew := dens_ints q hi
            subst ew
            exact ⟨t, is, M, rfl, .of hH, hz, pp _ H μ .refl r (.int _)⟩
      | _ => exact pp.elim
  | _ => exact pp.elim
theorem r_minL (hc : X.calm = true) (hm : X.mg "min" = none) (he : PE3 ca X e me) (hg : Gl X "min" := by rfl) (hs : starEach [e] X.env = [(false, eval e X.env)] := by rfl) (hpl : (backTo pos (starEach [] X.env)).any (·.1) = false := by rfl) :
    PE3 ca X (.Call (.Name "min" p) [e] [] pos) (mOp1 pMinL me) :=
  r_blt (r := fun xs H Q => ∃ (a : Addr) (ns : List Int) (M : Int), xs = [V.ref a] ∧ SqL X.K H a (ns.map V.int) ∧ minZ ns = some M ∧ Q (.int M) H) (fun pn Φ => call_minL (X := xat X ca pn Φ) hc) hm boot_min (fun Φ σ H μ g y d Q r q pp => prim_listZ (fun _ _ => rfl) r q pp) he hg (by decide) (by decide) hs hpl
theorem r_maxL (hc : X.calm = true) (hm : X.mg "max" = none) (he : PE3 ca X e me) (hg : Gl X "max" := by rfl) (hs : starEach [e] X.env = [(false, eval e X.env)] := by rfl) (hpl : (backTo pos (starEach [] X.env)).any (·.1) = false := by rfl) :
    PE3 ca X (.Call (.Name "max" p) [e] [] pos) (mOp1 pMaxL me) :=
  r_blt (r := fun xs H Q => ∃ (a : Addr) (ns : List Int) (M : Int), xs = [V.ref a] ∧ SqL X.K H a (ns.map V.int) ∧ maxZ ns = some M ∧ Q (.int M) H) (fun pn Φ => call_maxL (X := xat X ca pn Φ) hc) hm boot_max (fun Φ σ H μ g y d Q r q pp => prim_listZ (fun _ _ => rfl) r q pp) he hg (by decide) (by decide) hs hpl
theorem r_strI (hm : X.mg "str" = none) (he : PE3 ca X e me) (hg : Gl X "str" := by rfl) (hs : starEach [e] X.env = [(false, eval e X.env)] := by rfl) (hpl : (backTo pos (starEach [] X.env)).any (·.1) = false := by rfl) :
    PE3 ca X (.Call (.Name "str" p) [e] [] pos) (mOp1 pStr me) :=
  r_ty (fun _ _ => call_str_int) hm boot_str (fun Φ σ H μ g y d Q r q pp => by
    unfold pStr at pp
    cases q with
    | int i =>
      dsimp only at pp
      by_cases z : 0 ≤ i ∧ i < 1000000
      · rw [if_pos z] at pp
        refine ⟨i, rfl, ?_, pp _ H μ .refl r (.str _)⟩
        have h : i.natAbs < 2 ^ 1920 := Nat.lt_of_lt_of_le (show i.natAbs < 1000000 by omega) (by decide +kernel)
        by_cases h0 : i.natAbs = 0
        · rw [h0]; decide
        · exact (Nat.log2_lt h0).mpr h
      · rw [if_neg z] at pp; exact pp.elim
    | _ => exact pp.elim) he hg (by decide) (by decide) hs hpl
end
end L3

end
section
namespace L3
open PySem
noncomputable def pFdivB (x y : D) (g : G) : Res D := match x, y with
  | .int i, .int j => if 0 < j ∧ j.natAbs.log2 < 9000 then .ok (.int (i / j)) g else .stuck
  | _, _ => .stuck
noncomputable def mItRangeB (a b : ME) : MI := fun σ g => (a σ g).bind fun d g1 => (b σ g1).bind fun d' g2 => match d, d' with
  | .int i, .int j => .ok (srcRange i (j - i).toNat) g2
  | _, _ => .stuck
noncomputable def strsD : List D → Option (List Str)
  | [] => some []
  | .str s :: r => (strsD r).map (s :: ·)
  | _ :: _ => none
noncomputable def sumL (ss : List Str) : Nat := (ss.map (·.length)).sum
noncomputable def pCat (ds : List D) (g : G) : Res D := match strsD ds with
  | some ss => if sumL ss ≤ SZ then .ok (.str (ss.foldl (· ++ ·) Str.empty)) g else .stuck
  | none => .stuck
noncomputable def pJoin (x y : D) (g : G) : Res D := match x, y with
  | .str sep, .ref n => (match g[n]? with
    | some (.lst ds) => (match strsD ds with
      | some ss => if sep.length ≤ 16 ∧ sumL ss + ss.length ≤ SZ then .ok (.str (Str.join sep ss)) g else .stuck
      | none => .stuck)
    | _ => .stuck)
  | _, _ => .stuck
noncomputable def mSM (f : D → D → G → Res D) (o e : ME) : ME := fun σ g => (o σ g).bind fun x g1 => match x with
  | .str s => (e σ g1).bind fun y g2 => f (.str s) y g2
  | _ => .stuck
noncomputable def mCat (m : MA) : ME := fun σ g => match m σ g with
  | .ok ds g1 => pCat ds g1
  | _ => .stuck
theorem smOk {f : D → D → G → Res D} {a b : ME} {σ : S3} {s : Str} {y : D} {g g1 g2 : G} {R : Res D} (ha : a σ g = .ok (.str s) g1) (hb : b σ g1 = .ok y g2) (h : f (.str s) y g2 = R) : mSM f a b σ g = R := by unfold mSM; rw [ha, Res.bind_ok]; dsimp only; rw [hb, Res.bind_ok, h]
noncomputable def pairsD : List D → Option (List (Int × D))
  | [] => some []
  | .tup [.int i, d] :: r => (pairsD r).map ((i, d) :: ·)
  | _ :: _ => none
noncomputable def dictOf (ps : List (Int × D)) : List (DK × D) := ps.foldl (fun ks p => dPut ks (.inl p.1) p.2) []
noncomputable def pDictT (x : D) (g : G) : Res D := match x with
  | .tup ds => (match pairsD ds with
    | some ps => if ps.length ≤ SZ then .ok (.ref g.length) (g ++ [.dct (dictOf ps)]) else .stuck
    | none => .stuck)
  | _ => .stuck
end L3

end
section
namespace DT
open PySem PySem.Spec PyProof.Rows
theorem miss_keys : typeLookup (.type "tuple") (Str.ofString "keys") = pure none := by rw [typeLookup_type, builtinLookup_eq_fast]; kernel_rfl
theorem entry_loop : entryFor table "dict.update.loop" = some Builtin.«dict.update.loop» := entryFor_of_tree (by kernel_rfl)
theorem plain_loop : plainId "dict.update.loop" = true := by decide +kernel
section
variable {prog : Program} {w : World} {A : Around} {E : Value → Shared → Prop} {s : Shared}
theorem noKeys {a : Addr} {o : Obj} {items : Array Value} {n : Nat} {Q : Option Value → Shared → Prop} (hx : s.heap.get? a = some o) (hc : o.cls = .type "tuple") (hdat : o.data = .seq items n) (hd : o.dict = none) (hA : A.handled = none)
    (h : ∀ h' tk e, Heap.NewExcOf s.heap h' e "AttributeError" → Q none { s with heap := h', toks := tk }) : wpAny (model prog w) A (getAttr? (.ref a) (Str.ofString "keys")) Q E s := by
  obtain ⟨c, dct, dat, sl⟩ := o
  simp only at hc hdat hd
  subst hc hdat hd
  obtain ⟨hp, g, d, tk, os⟩ := s
  have hTy : ∀ tk', (⟨hp, g, d, tk', os⟩ : Shared).TypeIs (.ref a) "tuple" := fun _ => ⟨_, hx, rfl⟩
  have f1 := sub_AttributeError
  have f3 := F.slot_tuple_getattribute.lookup
  have f4 := F.slot_tuple_getattribute.bind (.ref a)
  have f5 := am_tuple_getattr_none
  unfold getAttr? getAttrBy? getAttrBy
  repeat (any_goals (first | assumption | exact hTy _ | ((with_reducible show wpAny _ _ (call (Value.builtin "tuple.__getattribute__") _ _) _ _ _); refine call_meets F.slot_tuple_getattribute (hTy _) am_entry_tuple_getattribute (F.args_tuple_getattribute_2 _ _) (meets_getattribute_miss_tuple a items n sl (Str.ofString "keys") _ miss_keys (by decide) (by size_fits)) ⟨hx, hA, fun h' tk' e hx' => ?_⟩) | wp_step))
  obtain ⟨t', u', he⟩ := hx'.there
  have hq := h _ tk' _ hx'.of
  show wpAny _ _ (getattributeRaised _ _ _ _ _ _ _) _ _ _
  unfold getattributeRaised
  repeat (any_goals (first | assumption | wp_step))
theorem loop {K : Type} [DecidableEq K] {knd : KeyKind prog w K} {R : Result → Shared → Prop} {d it t : Addr} {items : Array Value} {ps : List (K × Value)} {res : Value} (hh : A.handled = none) (hdt : d ≠ t) (hdi : d ≠ it) (hti : t ≠ it)
    (hps : ∀ (h : Heap), (∀ b o, b ≠ d → b ≠ it → s.heap.get? b = some o → h.get? b = some o) → h.IsTuple t items ∧ ∀ (i : Nat) (p : K × Value), ps[i]? = some p → ∃ b key n o, items[i]? = some (.ref b) ∧ h.get? b = some o ∧ o.cls = .type "tuple" ∧ o.data = .seq #[key, p.2] n ∧ knd.is p.1 key = true)
    (hl : items.size = ps.length) (hz : ps.length ≤ sizeLine) : ∀ (k i : Nat) (s' : Shared), ps.length - i = k → i ≤ ps.length → (∀ b o, b ≠ d → b ≠ it → s.heap.get? b = some o → s'.heap.get? b = some o) → s'.heap.IsTupleIter it t i → s'.heap.DictOf knd d (merged [] (ps.take i)) →
    (∀ s1 : Shared, (∀ b o, b ≠ d → b ≠ it → s.heap.get? b = some o → s1.heap.get? b = some o) → s1.gens = s'.gens → s1.drawn = s'.drawn → s1.os = s'.os → s1.heap.DictOf knd d (merged [] ps) → R (.ok (.ret res)) s1) →
    codeAny (model prog w) A (.builtin "dict.update.loop" ⟨[.ref d, .ref it, rawInt i, res], []⟩) R s' := by
  intro k
  induction k with
  | zero =>
    intro i s' hk hi kp hit hd hR
    have hin : i = ps.length := by omega
    refine codeAny_builtin entry_loop ?_
    rw [Around.under_plainId plain_loop _]
    unfold Builtin.«dict.update.loop»
    refine wpAny_bind (wpAny_pyNext_tuple_end (show A.in1.handled = none from hh) hit (hps s'.heap kp).1 (Array.getElem?_eq_none (by omega)) fun h' eb => ?_)
    show wpAny _ _ (Builtin.Dict.addKeywords d [] >>= fun _ => ret res) _ _ _
    refine wpAny_bind (wpAny_pure (wpAny_pure ?_))
    refine hR _ (fun b o b1 b2 e => eb b o b2 (kp b o b1 b2 e)) rfl rfl rfl ?_
    have : ps.take i = ps := List.take_of_length_le (by omega)
    rw [this] at hd
    obtain ⟨o, es, ep, ho, r⟩ := hd
    exact ⟨o, es, ep, eb d o hdi ho, r⟩
  | succ k ih =>
    intro i s' hk hi kp hit hd hR
    have hlt : i < ps.length := by omega
    have hp : ps[i]? = some ps[i] := List.getElem?_eq_getElem hlt
    obtain ⟨b, key, n, o, hb, ho, hc, hdat, hkey⟩ := (hps s'.heap kp).2 i ps[i] hp
    refine codeAny_builtin entry_loop ?_
    rw [Around.under_plainId plain_loop _]
    unfold Builtin.«dict.update.loop»
    refine wpAny_bind (wpAny_pyNext_tuple_item hit (hps s'.heap kp).1 hb fun h1 hit1 sb1 => ?_)
    have kp1 : ∀ b o, b ≠ d → b ≠ it → s.heap.get? b = some o → h1.get? b = some o := fun b o b1 b2 e => sb1.extBut b o b2 (kp b o b1 b2 e)
    obtain ⟨b', key', n', o', hb', ho', hc', hdat', hkey'⟩ := (hps h1 kp1).2 i ps[i] hp
    rw [hb] at hb'; cases hb'
    refine wpAny_bind (wpAny_holding ?_)
    refine wpAny_bind (wpAny_tryCatch ?_)
    unfold Builtin.Dict.pairItems
    have hT : ({ s' with heap := h1 } : Shared).TypeIs (.ref b) "tuple" := ⟨o', ho', hc'⟩
    refine wpAny_bind (wpAny_typeOf hT ?_)
    show wpAny _ _ (if ((Value.type "tuple" == Value.type "list") || (Value.type "tuple" == Value.type "tuple")) = true then _ else _) _ _ _
    rw [if_pos (by decide)]
    refine wpAny_bind (wpAny_seqItems ho' hdat' (wpAny_pure ?_))
    show wpAny _ _ (holding [key', ps[i].2] (dictSet d key' ps[i].2)) _ _ _
    refine wpAny_holding ?_
    have hd1 : h1.DictOf knd d (merged [] (ps.take i)) := by
      obtain ⟨o, es, ep, ho, r⟩ := hd
      exact ⟨o, es, ep, sb1.extBut d o hdi ho, r⟩
    have hml : (merged [] (ps.take i)).length ≤ sizeLine := by
      have := merged_length_le ([] : List (K × Value)) (ps.take i)
      have h2 : (ps.take i).length ≤ ps.length := by rw [List.length_take]; omega
      simp only [List.length_nil] at this
      omega
    refine wpAny_dictSet_pairs (s := { s' with heap := h1 }) (hsz := hml) hkey' hd1 fun h2 hd2 sb2 => ?_
    refine wpAny_pure ⟨plainId_quiet plain_loop _, ?_⟩
    have e1 : rawInt ((i : Int) + 1) = rawInt ((i + 1 : Nat) : Int) := rfl
    show codeAny (model prog w) A (.builtin "dict.update.loop" ⟨[.ref d, .ref it, rawInt ((i : Int) + 1), res], []⟩) R _
    rw [e1]
    refine ih (i + 1) { s' with heap := h2, toks := s'.toks + 1 } (by omega) (by omega) (fun b o b1 b2 e => sb2.extBut b o b1 (kp1 b o b1 b2 e)) ?_ ?_ hR
    · obtain ⟨o, e, r⟩ := hit1
      exact ⟨o, sb2.extBut it o (Ne.symm hdi) e, r⟩
    · rw [merged_take_succ _ _ _ _ hp]; exact hd2
theorem call_pairs {K : Type} [DecidableEq K] {knd : KeyKind prog w K} {Q : Value → Shared → Prop} {t : Addr} {o : Obj} {items : Array Value} {n : Nat} {ps : List (K × Value)} (hh : A.handled = none) (hx : s.heap.get? t = some o) (hc : o.cls = .type "tuple") (hdat : o.data = .seq items n) (hdn : o.dict = none)
    (hps : ∀ (i : Nat) (p : K × Value), ps[i]? = some p → ∃ b key n o, items[i]? = some (.ref b) ∧ s.heap.get? b = some o ∧ o.cls = .type "tuple" ∧ o.data = .seq #[key, p.2] n ∧ knd.is p.1 key = true)
    (hl : items.size = ps.length) (hz : ps.length ≤ sizeLine)
    (h : ∀ s1 : Shared, (∀ b o, s.heap.get? b = some o → s1.heap.get? b = some o) → s1.gens = s.gens → s1.drawn = s.drawn → s1.os = s.os → s1.heap.DictOf knd s.heap.objs.size (merged [] ps) → Q (.ref s.heap.objs.size) s1) :
    wpAny (model prog w) A (call (.type "dict") [.ref t]) Q E s := by
  refine callType_codes (Q₁ := fun obj s₁ => obj = .ref s.heap.objs.size ∧ s₁ = { s with heap := s.heap.push { cls := .type "dict", data := .dict #[] } }) F.kt_called_dict (F.kt_typeCall_dict_1 _) F.entry_dict_init (kt_code_dict_new _ ⟨rfl, rfl⟩) ?_
  rintro obj s₁ ⟨rfl, rfl⟩
  have hnew : (s.heap.push { cls := .type "dict", data := .dict #[] }).DictOf knd s.heap.objs.size [] := Heap.DictOf.new s.heap
  have htd : t < s.heap.objs.size := Heap.lt_size hx
  refine ⟨hnew.typeIs, F.args_dict_init_2 _ _, ?_⟩
  unfold Builtin.«dict.__init__»
  refine wpAny_bind ?_
  unfold Builtin.Dict.selfAndRest
  refine wpAny_bind (wpAny_notOrdered_dict hnew.typeIs ?_)
  show wpAny _ _ (pure (s.heap.objs.size, [Value.ref t])) _ _ _
  refine wpAny_pure ?_
  show wpAny _ _ (Builtin.Dict.updateFrom "dict.__init__" s.heap.objs.size (.ref t) [] .none) _ _ _
  unfold Builtin.Dict.updateFrom
  have hx1 : (s.heap.push { cls := .type "dict", data := .dict #[] }).get? t = some o := Heap.get?_push_of_some _ hx
  refine wpAny_bind (wpAny_typeOf (T := "tuple") ⟨o, hx1, hc⟩ ?_)
  rw [if_pos (by decide)]
  refine wpAny_bind (noKeys (s := { s with heap := s.heap.push { cls := .type "dict", data := .dict #[] } }) hx1 hc hdat hdn (show A.in1.handled = none from hh) fun h2 tk e hE => ?_)
  have hx2 : h2.get? t = some o := hE.keeps _ _ hx1
  rw [if_pos (show (none : Option Value).isNone = true from rfl)]
  refine wpAny_bind (wpAny_rule ?_)
  refine wpAny_bind (wpAny_pyIter_tuple (s := { s with heap := h2, toks := tk }) (items := items) ⟨o, hx2, hc, n, hdat⟩ ?_)
  refine wpAny_pure ⟨plainId_quiet plain_loop _, ?_⟩
  have hds : s.heap.objs.size < h2.objs.size := by
    obtain ⟨o', es, ep, ho', r⟩ := hnew
    exact Heap.lt_size (hE.keeps _ _ ho')
  refine loop (s := { s with heap := h2.push { cls := .type "tuple_iterator", data := .fields #[.ref t, .int 0 0] }, toks := tk }) (knd := knd) (d := s.heap.objs.size) (it := h2.objs.size) (t := t) (items := items) (ps := ps) (res := .none) (show A.in1.handled = none from hh) (Nat.ne_of_gt htd) (Nat.ne_of_lt hds) (Nat.ne_of_lt (Nat.lt_trans htd hds)) (fun h3 k3 => ?_) hl hz ps.length 0 _ (by omega) (by omega) (fun b o _ _ e => e) ⟨_, Heap.get?_push_size _ rfl, rfl, rfl⟩ ?_ fun s1 k1 g1 d1 o1 D1 => ?_
  · have kk : ∀ b o, s.heap.get? b = some o → h3.get? b = some o := fun b o e => by
      have lt := Heap.lt_size e
      exact k3 b o (Nat.ne_of_lt lt) (Nat.ne_of_lt (Nat.lt_trans lt hds)) (Heap.get?_push_of_some _ (hE.keeps _ _ (Heap.get?_push_of_some _ e)))
    refine ⟨⟨o, kk _ _ hx, hc, n, hdat⟩, fun i p hp => ?_⟩
    obtain ⟨b, key, m, ob, a1, a2, a3⟩ := hps i p hp
    exact ⟨b, key, m, ob, a1, kk _ _ a2, a3⟩
  · obtain ⟨o', es, ep, ho', r⟩ := hnew
    exact ⟨o', es, ep, Heap.get?_push_of_some _ (hE.keeps _ _ ho'), r⟩
  · refine ⟨rfl, h s1 (fun b o e => ?_) g1 d1 o1 D1⟩
    have lt := Heap.lt_size e
    exact k1 b o (Nat.ne_of_lt lt) (Nat.ne_of_lt (Nat.lt_trans lt hds)) (Heap.get?_push_of_some _ (hE.keeps _ _ (Heap.get?_push_of_some _ e)))
end
end DT

end
section
namespace L3
open PySem PySem.Spec PyProof.Rows L2
section
variable {X : Cx} {ca : Nat → Addr} {a b : Expr} {ma mb : ME} {p pos : Pos} {tg : Expr}
theorem op_fdivB : OpR X (binaryOp .FloorDiv) (rI (fun _ j => 0 < j ∧ j.natAbs.log2 < 9000) fun i j => .int (i / j)) := opI fun i j _ _ _ _ _ hc q => by
  have h1 : (0 : Int) < j := hc.1
  exact floordiv_int (by omega) (by rw [Int.fdiv_eq_ediv_of_nonneg i (by omega)]; exact q) (.inl (PyProof.noPylong_of_log2 hc.2))
theorem r_fdivB (ha : PE3 ca X a ma) (hb : PE3 ca X b mb) : PE3 ca X (.BinOp a .FloorDiv b pos) (mOp2 pFdivB ma mb) :=
  r_bin (fun _ _ => op_fdivB) (prim_ii (fun Φ σ i j g Q H μ r p => by
    unfold pFdivB at p
    by_cases z : 0 < j ∧ j.natAbs.log2 < 9000
    · dsimp only at p; rw [if_pos z] at p; exact ⟨z, p _ H μ .refl r (.int _)⟩
    · dsimp only at p; rw [if_neg z] at p; exact p.elim) (two_ints fun x y g => by cases x <;> cases y <;> first | exact .inl ⟨_, _, rfl, rfl⟩ | exact .inr rfl)) ha hb
theorem turn_long {P : Program} {w : World} {K : PySem.W.Frag} (it : Addr) (lo : Int) (n : Nat) : Turn P w K tg (Itr lo n) [it] it (fun i h => IsLongIter h it (lo + (i : Nat) * 1) ((n : Int) - (i : Nat)) 1) where
  mem := by simp
  obj := fun i h st b hb => by
    have e : b = it := by simpa using hb
    subst e
    exact ⟨_, st, fun v z => by
      have z' : Data.fields _ = Data.cell v := z
      cases z'⟩
  keep := fun i h h' st k => k it (by simp) _ st
  item := by
    intro X hP hw hK hc i pins s σ H E I hf st hg
    subst hP hw hK
    obtain ⟨f0, f1, f2, f3, f4, f5⟩ := hf it (by simp)
    have W := Walks.longrange (prog := X.prog) (w := X.w) (I.ok.hd hc) it lo 1 n
    refine W.item i s _ _ hg st fun v h' tk hv st' kk => ?_
    obtain ⟨t, rfl⟩ := hv
    have I1 : Inv X pins σ H { s with heap := h', toks := tk } := I.turned (fun b o hb e => kk b o (by simpa using hb) e) f0 f1 f3 f4 f5
    refine ⟨_, rfl, go_of (s := { s with heap := h', toks := tk }) (n := "longrange_iterator") st' rfl rfl (by decide) ⟨.int (lo + i), H, I1, ⟨t, ?_⟩, ⟨rfl, rfl⟩, st', fun b hb => (hf b hb).1⟩⟩
    rw [Int.mul_one]
  done := by
    intro X hP hw hK hc i pins s σ H E I hf st hg
    subst hP hw hK
    obtain ⟨f0, f1, f2, f3, f4, f5⟩ := hf it (by simp)
    exact wpAny_pyNext_long_end (I.ok.hd hc) st (by have : n ≤ i := hg; omega) fun h' eb => ⟨rfl, I.turned (t' := s.toks) (fun b o hb e => eb b o hb e) f0 f1 f3 f4 f5⟩
  self := fun _ _ _ _ _ st h => wpAny_pyIter_longiter st h
theorem range_itB {pins : List (Addr × Obj)} {σ : L2.St} {H : Hp} {s : Shared} {R : It → Hp → Prop} {E : Value → Shared → Prop} {lo hi : Int} {t u v : Tok} {tk : Nat} (I : Inv X pins σ H s)
    (q : R (Itr lo (hi - lo).toNat) H) : wpAny (model X.prog X.w) X.A (pyIter (.ref s.heap.objs.size)) (PIE X pins σ tg R) E { s with heap := s.heap.push { cls := .type "range", data := .fields #[.int lo t, .int hi u, .int 1 v] }, toks := tk } := by
  have I1 : Inv X pins σ H { s with heap := s.heap.push { cls := .type "range", data := .fields #[.int lo t, .int hi u, .int 1 v] }, toks := tk } := I.kept fun b o e => Heap.get?_push_of_some _ e
  have e1 : lo + ((0 : Nat) : Int) * 1 = lo := by simp
  have e2 : (((hi - lo).toNat : Nat) : Int) - ((0 : Nat) : Int) = Builtin.Range.rangeSize lo hi 1 := by rw [rangeSize_one]; split <;> omega
  have fp : ∀ b ∈ [(s.heap.push { cls := .type "range", data := .fields #[.int lo t, .int hi u, .int 1 v] }).objs.size], FpOk X pins H b := fun b hb => by
    have e : b = (s.heap.push { cls := .type "range", data := .fields #[.int lo t, .int hi u, .int 1 v] }).objs.size := by simpa using hb
    subst e
    exact I1.fpOk (Nat.le_refl _) (I1.hok.fresh (Nat.le_refl _))
  by_cases hs : Builtin.Range.small lo hi 1 = true
  · refine wpAny_pyIter_range (IsRange.new ..) hs ?_
    refine ⟨_, [(s.heap.push { cls := .type "range", data := .fields #[.int lo t, .int hi u, .int 1 v] }).objs.size], _, _, H, rfl, I1.kept (t' := tk) fun b o e => Heap.get?_push_of_some _ e, turn_range _ lo (hi - lo).toNat, ?_, fp, q⟩
    show IsRangeIter _ _ (lo + ((0 : Nat) : Int) * 1) ((((hi - lo).toNat : Nat) : Int) - ((0 : Nat) : Int)) 1
    rw [e1, e2]
    exact Heap.get?_push_size _ rfl
  · refine wpAny_pyIter_longrange (IsRange.new ..) (by simpa using hs) ?_
    refine ⟨_, [(s.heap.push { cls := .type "range", data := .fields #[.int lo t, .int hi u, .int 1 v] }).objs.size], _, _, H, rfl, I1.kept (t' := tk) fun b o e => Heap.get?_push_of_some _ e, turn_long _ lo (hi - lo).toNat, ?_, fp, q⟩
    show IsLongIter _ _ (lo + ((0 : Nat) : Int) * 1) ((((hi - lo).toNat : Nat) : Int) - ((0 : Nat) : Int)) 1
    rw [e1, e2]
    exact Heap.get?_push_size _ rfl
theorem pi_rangeB {ta : TA} (hg : Gl X "range") (hm : X.mg "range" = none) (ha : PA X [a, b] ta) (hs : starEach [a, b] X.env = [(false, eval a X.env), (false, eval b X.env)]) (hs2 : starEach [b] X.env = [(false, eval b X.env)]) :
    PI X tg (.Call (.Name "range" p) [a, b] [] pos) (fun σ H R => ta σ H fun vs H1 => ∃ i j : Int, vs = [.int i, .int j] ∧ R (Itr i (j - i).toNat) H1) := by
  intro pins s σ H R I h
  refine Call_ (ld_blt I hg hm boot_range (PyProof.Rows.callWith_type1 (thn (ha pos pins s σ H _ I h) fun us s1 ⟨vs, H1, I1, r1, q1⟩ => ?_) (by rw [hs, hs2]) (by rw [hs2]; rfl)))
  obtain ⟨i, j, e, q⟩ := q1
  subst e
  cases r1 with
  | cons r rr =>
    cases rr with
    | cons r' rr =>
      cases rr
      obtain ⟨t, rfl⟩ := r
      obtain ⟨t', rfl⟩ := r'
      exact call_range_2 (range_itB I1 q)
theorem r_rangeB (hm : X.mg "range" = none) (he : PE3 ca X a ma) (he2 : PE3 ca X b mb) (hg : Gl X "range" := by rfl) (hs : starEach [a, b] X.env = [(false, eval a X.env), (false, eval b X.env)] := by rfl) (hs2 : starEach [b] X.env = [(false, eval b X.env)] := by rfl)
    (hs3 : starEach [a, b] X.env = (false, eval a X.env) :: starEach [b] X.env := by rfl) : PI3 ca X tg (.Call (.Name "range" p) [a, b] [] pos) (mItRangeB ma mb) :=
  fun pn Φ => conseqI (pi_rangeB (X := xat X ca pn Φ) hg hm (r_cons he (r_cons he2 r_nil hs2) hs3 pn Φ) hs hs2) fun σ H R hQ => by
    obtain ⟨σ3, g, μ, Rp, p⟩ := hQ
    refine ⟨σ3, g, μ, Rp, ?_⟩
    unfold mItRangeB at p
    unfold mCons mNil
    cases hm : ma σ3 g with
    | raise _ _ => rw [hm] at p; exact p
    | stuck => rw [hm] at p; exact p.elim
    | ok d g1 =>
      rw [hm, Res.bind_ok] at p
      rw [Res.bind_ok]
      cases hm2 : mb σ3 g1 with
      | raise _ _ => rw [hm2] at p; exact p
      | stuck => rw [hm2] at p; exact p.elim
      | ok d2 g2 =>
        rw [hm2, Res.bind_ok] at p
        rw [Res.bind_ok, Res.bind_ok, Res.bind_ok]
        intro vs H1 μ1 e1 r1 q1
        cases q1 with
        | cons h1 h2 =>
          cases h2 with
          | cons h2 h3 =>
            cases h3
            cases h1 with
            | int i =>
              cases h2 with
              | int j => exact ⟨i, j, rfl, p _ H1 μ1 e1 r1 (sim_range X.K μ1 H1 i (j - i).toNat)⟩
              | _ => exact p.elim
            | _ => cases h2 <;> exact p.elim
end
section
variable {X : Cx} {ca : Nat → Addr} {e e1 e2 : Expr} {es : List Expr} {me : ME} {mr : MA} {pos : Pos}
theorem pe_fmt {te : TE} (he : PE X e te) : PE X (.FormattedValue e (-1) none pos) (fun σ H Q => te σ H fun x H1 => ∃ i : Int, x = .int i ∧ i.natAbs.log2 < 1920 ∧ Q (.str (toString i)) H1) := by
  intro pins s σ H Q I h
  refine FormattedValue_plain (thn (he pins s σ H _ I h) fun v s1 ⟨x, H1, I1, r1, q1⟩ => ?_)
  obtain ⟨i, rfl, hz, q⟩ := q1
  obtain ⟨t, rfl⟩ := r1
  exact formatField_int_small hz ⟨.str _, H1, I1.tok _, ⟨_, rfl⟩, q⟩
theorem log_small {i : Int} (z : 0 ≤ i ∧ i < 1000000) : i.natAbs.log2 < 1920 := by
  have h : i.natAbs < 2 ^ 1920 := Nat.lt_of_lt_of_le (show i.natAbs < 1000000 by omega) (by decide +kernel)
  by_cases h0 : i.natAbs = 0
  · rw [h0]; decide
  · exact (Nat.log2_lt h0).mpr h
theorem r_fmt (he : PE3 ca X e me) : PE3 ca X (.FormattedValue e (-1) none pos) (mOp1 pStr me) :=
  fun pn Φ => conseq (pe_fmt (X := xat X ca pn Φ) (he pn Φ)) fun σ H Q ⟨σ3, g, μ, R, q⟩ => up_mono (bindE R q) fun x H1 hQ => by
    obtain ⟨d, g1, μ1, e1, R1, q1, p1⟩ := hQ
    unfold pStr at p1
    cases q1 with
    | int i =>
      dsimp only at p1
      by_cases z : 0 ≤ i ∧ i < 1000000
      · rw [if_pos z] at p1
        exact ⟨i, rfl, log_small z, p1 _ H1 μ1 .refl R1.g (.str _)⟩
      · rw [if_neg z] at p1; exact p1.elim
    | _ => exact p1.elim
noncomputable def PJ3 (ca : Nat → Addr) (X : Cx) (es : List Expr) (m : MA) : Prop := ∀ (pn : List (Addr × Obj)) (Φ : XS) (pins : List (Addr × Obj)) (s : Shared) (σ : L2.St) (H : Hp) (acc : Str) (Q : Str → Shared → Prop) (σ3 : S3) (g : G) (μ : List Addr) (ds : List D) (g' : G) (ss : List Str),
  Inv (xat X ca pn Φ) pins σ H s → Rep X.K ca μ σ3 g σ H → m σ3 g = .ok ds g' → strsD ds = some ss → acc.length + sumL ss ≤ sizeLine →
  (∀ s' H' μ', Ext X.K μ H μ' H' → GRep X.K ca μ' H' g' → Inv (xat X ca pn Φ) pins σ H' s' → Q (ss.foldl (· ++ ·) acc) s') → Joins (model X.prog X.w) X.A (xat X ca pn Φ).xe (evalEach es X.env) acc Q s
theorem r_jnil : PJ3 ca X [] mNil := fun pn Φ pins s σ H acc Q σ3 g μ ds g' ss I R hm hs hz q => by
  cases hm
  cases hs
  exact q s H μ .refl R.g I
theorem r_jcons (he : PE3 ca X e me) (hr : PJ3 ca X es mr) : PJ3 ca X (e :: es) (mCons me mr) := fun pn Φ pins s σ H acc Q σ3 g μ ds g' ss I R hm hs hz q => by
  unfold mCons at hm
  cases h1 : me σ3 g with
  | raise _ _ => rw [h1] at hm; cases hm
  | stuck => rw [h1] at hm; cases hm
  | ok d g1 =>
    rw [h1, Res.bind_ok] at hm
    cases h2 : mr σ3 g1 with
    | raise _ _ => rw [h2] at hm; cases hm
    | stuck => rw [h2] at hm; cases hm
    | ok ds2 g2 =>
      rw [h2, Res.bind_ok] at hm
      cases hm
      cases d with
      | str y =>
        unfold strsD at hs
        cases h3 : strsD ds2 with
        | none => rw [h3] at hs; cases hs
        | some ss2 =>
          rw [h3] at hs
          cases hs
          have hz2 : acc.length + (y.length + sumL ss2) ≤ sizeLine := hz
          refine Joins_cons (thn (he pn Φ pins s σ H (fun x H1 => x = .str y ∧ ∃ μ1, Ext X.K μ H μ1 H1 ∧ GRep X.K ca μ1 H1 g1) I ⟨σ3, g, μ, R, ?_⟩) fun v s1 ⟨x, H1, I1, r1, q1⟩ => ?_)
          · rw [h1]
            intro v H1 μ1 e1 r1 q1
            cases q1
            exact ⟨rfl, μ1, e1, r1⟩
          · obtain ⟨rfl, μ1, e1, r2⟩ := q1
            obtain ⟨t, rfl⟩ := r1
            refine ⟨y, t, rfl, by rw [strLen_append]; omega, ?_⟩
            refine hr pn Φ pins s1 σ H1 (acc ++ y) Q σ3 g1 μ1 ds2 g' ss2 I1 (R.go e1 r2) h2 h3 (by rw [strLen_append]; omega) fun s' H' μ' e' r' I' => ?_
            exact q s' H' μ' (e1.trans e') r' I'
      | _ => cases hs
theorem fold_len (ss : List Str) : ∀ acc : Str, (ss.foldl (· ++ ·) acc).length = acc.length + sumL ss := by
  unfold sumL
  induction ss with
  | nil => intro acc; simp
  | cons s r ih => intro acc; rw [List.foldl_cons, ih, strLen_append, List.map_cons, List.sum_cons]; omega
theorem r_joined (h : PJ3 ca X (e1 :: e2 :: es) mr) : PE3 ca X (.JoinedStr (e1 :: e2 :: es) pos) (mCat mr) := fun pn Φ pins s σ H Q I ⟨σ3, g, μ, R, q⟩ => by
  unfold mCat at q
  cases hm : mr σ3 g with
  | raise _ _ => rw [hm] at q; exact q.elim
  | stuck => rw [hm] at q; exact q.elim
  | ok ds g1 =>
    rw [hm] at q
    dsimp only at q
    unfold pCat at q
    cases hs : strsD ds with
    | none => rw [hs] at q; exact q.elim
    | some ss =>
      rw [hs] at q
      dsimp only at q
      by_cases z : sumL ss ≤ SZ
      · rw [if_pos z] at q
        have hz : Str.empty.length + sumL ss ≤ sizeLine := by
          have e0 : Str.empty.length = 0 := rfl
          have := sz_line
          omega
        refine wpAny_JoinedStr (h pn Φ pins s σ H Str.empty _ σ3 g μ ds g1 ss I R hm hs hz fun s' H' μ' e' r' I' => ?_)
        exact ⟨by rw [fold_len]; exact hz, .str _, H', I'.tok _, ⟨_, rfl⟩, q _ H' μ' e' r' (.str _)⟩
      · rw [if_neg z] at q; exact q.elim
end
section
variable {X : Cx} {ca : Nat → Addr} {o e : Expr} {mo me : ME} {pos apos : Pos}
theorem r_sm {name : Str} {id : String} {r : V → List V → Hp → VK → Prop} {f : D → D → G → Res D} (slot : Slot "str" name id) (hty : typeOf (.builtin id) = pure (.type "method_descriptor")) (hm : ∀ pn Φ, MtR (xat X ca pn Φ) id r)
    (hp : ∀ (Φ : XS) (σ : L2.St) (H : Hp) (μ : List Addr) (g : G) (s : Str) (y : V) (d : D) (Q : VK), GRep X.K ca μ H g → Den X.K μ H y d → Post X.K ca Φ σ Q H μ (f (.str s) d g) → r (.str s) [y] H Q) (ho : PE3 ca X o mo) (he : PE3 ca X e me)
    (hbase : attributeBase o name X.env (eval o X.env) = eval o X.env)
    (hfew : ((backTo pos (starEach [e] X.env)).all (fun x => !x.1) && (backToKw pos (keywordEach [] X.env)).all (fun x => x.1.isSome) && decide ([e].length + ([] : List Keyword).length + (if ([] : List Keyword).isEmpty then 0 else 1) < 30)) = true)
    (hline : (apos.endLine == pos.line) = true) (hs : starEach [e] X.env = (false, eval e X.env) :: starEach [] X.env) (hplain : (backTo pos (starEach [] X.env)).any (·.1) = false) :
    PE3 ca X (.Call (.Attribute o name apos) [e] [] pos) (mSM f mo me) :=
  fun pn Φ => conseq (pe_bm (X := xat X ca pn Φ) PySem.F.plainAttrs_str slot hty (hm pn Φ) (ho pn Φ) (r_cons he r_nil hs pn Φ) hbase hfew hline hs hplain) fun σ H Q ⟨σ3, g, μ, R, q⟩ => up_mono (bindE R q) fun x H1 hQ => by
    obtain ⟨d, g1, μ1, e1, R1, q1, p1⟩ := hQ
    cases q1 with
    | str s =>
      dsimp only at p1
      refine ⟨rfl, σ3, g1, μ1, R1, ?_⟩
      unfold mCons mNil
      cases hm : me σ3 g1 with
      | raise _ _ => rw [hm] at p1; exact p1
      | stuck => rw [hm] at p1; exact p1.elim
      | ok y g2 =>
        rw [hm, Res.bind_ok] at p1
        rw [Res.bind_ok, Res.bind_ok]
        intro vs H2 μ2 e2 r2 q2
        cases q2 with
        | cons h1 h2 =>
          cases h2
          exact hp Φ σ H2 μ2 g2 s _ y Q r2 h1 (p1.go e2)
    | _ => exact p1.elim
theorem strs_are : ∀ {ys : List Str} {its : List Value}, Vals (ys.map V.str) its → StrsAre its ys
  | [], _, r => by cases r; exact .nil
  | y :: ys, _, r => by
    cases r with
    | cons h t =>
      obtain ⟨k, rfl⟩ := h
      exact .cons y k (strs_are t)
theorem mt_join : MtR X "str.join" (fun x vs H Q => ∃ (sep : Str) (a : Addr) (ys : List Str), x = .str sep ∧ vs = [.ref a] ∧ SqL X.K H a (ys.map V.str) ∧ sep.length ≤ 16 ∧ sumL ys + ys.length ≤ SZ ∧ Q (.str (Str.join sep ys)) H) := by
  intro pins s σ H x vs v us Q I rx rv h
  obtain ⟨sep, a, ys, rfl, rfl, hq, h1, h2, q⟩ := h
  obtain ⟨t, rfl⟩ := rx
  obtain ⟨u, rfl, ru⟩ := rv.one
  cases ru
  obtain ⟨its, r, pl, hz⟩ := I.list hq
  refine join_listW pl.isList (strs_are r) h1 (Nat.le_trans h2 (by decide)) fun t' k => ⟨.str (Str.join sep ys), H, I.tok _, ⟨t', ?_⟩, q⟩
  rw [show Txt.join sep ys = Str.join sep ys from StrLaws.glued_eq_join sep ys]
theorem dens_strs {K : PySem.W.Frag} {μ : List Addr} {H : Hp} : ∀ {vs : List V} {ds : List D} {ss : List Str}, Dens K μ H vs ds → strsD ds = some ss → vs = ss.map V.str
  | _, _, ss, .nil, h => by cases h; rfl
  | _, _, ss, .cons (ds := ds) h1 h2, h => by
    cases h1 with
    | str i =>
      unfold strsD at h
      cases hr : strsD ds with
      | none => rw [hr] at h; cases h
      | some ms => rw [hr] at h; cases h; rw [List.map_cons, dens_strs h2 hr]
    | _ => cases h
theorem r_join (ho : PE3 ca X o mo) (he : PE3 ca X e me) (hbase : attributeBase o "join" X.env (eval o X.env) = eval o X.env := by rfl)
    (hfew : ((backTo pos (starEach [e] X.env)).all (fun x => !x.1) && (backToKw pos (keywordEach [] X.env)).all (fun x => x.1.isSome) && decide ([e].length + ([] : List Keyword).length + (if ([] : List Keyword).isEmpty then 0 else 1) < 30)) = true := by rfl)
    (hline : (apos.endLine == pos.line) = true := by rfl) (hs : starEach [e] X.env = (false, eval e X.env) :: starEach [] X.env := by rfl) (hplain : (backTo pos (starEach [] X.env)).any (·.1) = false := by rfl) :
    PE3 ca X (.Call (.Attribute o "join" apos) [e] [] pos) (mSM pJoin mo me) :=
  r_sm (r := fun x vs H Q => ∃ (sep : Str) (a : Addr) (ys : List Str), x = V.str sep ∧ vs = [V.ref a] ∧ SqL X.K H a (ys.map V.str) ∧ sep.length ≤ 16 ∧ sumL ys + ys.length ≤ SZ ∧ Q (V.str (Str.join sep ys)) H) PySem.F.slot_str_join PySem.F.type_str_join (fun pn Φ => mt_join (X := xat X ca pn Φ)) (fun Φ σ H μ g s y d Q r q pp => by
    unfold pJoin at pp
    cases q with
    | @ref n t hn =>
      dsimp only at pp
      cases hgn : g[n]? with
      | none => rw [hgn] at pp; exact pp.elim
      | some ob =>
        rw [hgn] at pp
        obtain ⟨t', ht', orp⟩ := r.addr hgn
        rw [hn] at ht'; cases ht'
        cases ob with
        | lst ds =>
          obtain ⟨vs, hH, q⟩ := orp
          dsimp only at pp
          cases hi : strsD ds with
          | none => rw [hi] at pp; exact pp.elim
          | some ss =>
            rw [hi] at pp
            dsimp only at pp
            by_cases z : s.length ≤ 16 ∧ sumL ss + ss.length ≤ SZ
            · rw [if_pos z] at pp
              have ew := dens_strs q hi
              subst ew
              exact ⟨s, t, ss, rfl, rfl, .of hH, z.1, z.2, pp _ H μ .refl r (.str _)⟩
            · rw [if_neg z] at pp; exact pp.elim
        | _ => exact pp.elim
    | _ => exact pp.elim) ho he hbase hfew hline hs hplain
end
end L3

end
section
namespace L3
open PySem PySem.Spec PyProof.Rows L2
noncomputable abbrev PV (K : PySem.W.Frag) (H : Hp) : List V → List (Int × V) → Prop := Paired fun v p => ∃ b, v = .ref b ∧ SqT K H b [.int p.1, p.2]
noncomputable def foldK (acc : List (Key × V)) (ps : List (Int × V)) : List (Key × V) := ps.foldl (fun ks p => putK ks (.inl p.1) p.2) acc
theorem foldK_len (ps : List (Int × V)) : ∀ acc : List (Key × V), (foldK acc ps).length ≤ acc.length + ps.length := by
  induction ps with
  | nil => intro acc; exact Nat.le_refl _
  | cons p r ih =>
    intro acc
    have h1 := ih (putK acc (.inl p.1) p.2)
    have h2 := length_putK acc (.inl p.1) p.2
    show (foldK (putK acc (.inl p.1) p.2) r).length ≤ _
    rw [List.length_cons]
    omega
theorem foldK_rel : ∀ {ps : List (Int × V)} {qs : List (Key × Value)} {acc : List (Key × V)} {accV : List (Key × Value)}, Paired (fun (p : Int × V) (q : Key × Value) => q.1 = .inl p.1 ∧ RelV p.2 q.2) ps qs → KV acc accV → KV (foldK acc ps) (merged accV qs)
  | _, _, acc, accV, .nil, h => h
  | _, _, acc, accV, .cons (a := p) (b := q) r t, h => by
    show KV (foldK (putK acc (.inl p.1) p.2) _) (merged (stored accV q.1 q.2) _)
    rw [r.1]
    exact foldK_rel t (h.put _ r.2)
section
variable {X : Cx} {ca : Nat → Addr} {e : Expr} {me : ME} {p pos : Pos}
theorem pairs_of {pins : List (Addr × Obj)} {σ : L2.St} {H : Hp} {s : Shared} (I : Inv X pins σ H s) : ∀ {vs : List V} {ps : List (Int × V)} {its : List Value}, PV X.K H vs ps → Vals vs its → ∃ qs : List (Key × Value), Paired (fun (p : Int × V) (q : Key × Value) => q.1 = .inl p.1 ∧ RelV p.2 q.2) ps qs ∧ qs.length = its.length ∧
    ∀ (i : Nat) (q : Key × Value), qs[i]? = some q → ∃ b key n o, its[i]? = some (.ref b) ∧ s.heap.get? b = some o ∧ o.cls = .type "tuple" ∧ o.data = .seq #[key, q.2] n ∧ (mixKind X.prog X.w).is q.1 key = true
  | _, _, _, .nil, r => by
    cases r
    exact ⟨[], .nil, rfl, fun i q h => by simp at h⟩
  | _, _, _, .cons (b := p) h t, r => by
    cases r with
    | cons rv rt =>
      obtain ⟨qs, a1, a2, a3⟩ := pairs_of I t rt
      obtain ⟨b, rfl, hb⟩ := h
      cases rv
      obtain ⟨us, ru, ⟨o, ho, hc, n, hd⟩, _⟩ := I.tuple hb
      obtain ⟨u1, u2, rfl, r1, r2⟩ := ru.two
      obtain ⟨k, rfl⟩ := r1
      refine ⟨(.inl p.1, u2) :: qs, .cons ⟨rfl, r2⟩ a1, by simp [a2], fun i q hq => ?_⟩
      cases i with
      | zero =>
        simp at hq
        subst hq
        exact ⟨b, .int p.1 k, n, o, rfl, ho, hc, hd, kV_is (k := .inl p.1) ⟨k, rfl⟩⟩
      | succ i =>
        simp at hq
        obtain ⟨b', key', n', o', c1, c2⟩ := a3 i q hq
        exact ⟨b', key', n', o', by simpa using c1, c2⟩
theorem call_dictT (hc : X.calm = true) : CallR X (.type "dict") (fun xs H Q => ∃ (a : Addr) (vs : List V) (ps : List (Int × V)), xs = [.ref a] ∧ SqT X.K H a vs ∧ PV X.K H vs ps ∧ ∀ l, H l = none → Q (.ref l) (upd H l (.dK (foldK [] ps)))) := by
  intro pins s σ H xs us Q I rv h
  obtain ⟨a, vs, ps, rfl, hq, hp, q⟩ := h
  obtain ⟨u, rfl, ru⟩ := rv.one
  cases ru
  obtain ⟨its, r, ⟨o, hx, hcl, hdn, n, hdat⟩, hz⟩ := I.tupleD hq
  obtain ⟨qs, a1, a2, a3⟩ := pairs_of I hp r
  have hl1 : ps.length = qs.length := Paired.length a1
  have hl2 := r.length
  refine DT.call_pairs (knd := mixKind X.prog X.w) (ps := qs) (I.ok.hd hc) hx hcl hdat hdn (fun i q hq => ?_) (by simp [a2]) (by omega) fun s1 kp g1 d1 o1 D1 => ?_
  · obtain ⟨b, key, m, ob, c1, c2⟩ := a3 i q hq
    exact ⟨b, key, m, ob, by simpa using c1, c2⟩
  · obtain ⟨h1, gs, dr, tk, os⟩ := s1
    simp only at g1 d1 o1
    subst g1 d1 o1
    have zz : (foldK [] ps).length ≤ sizeLine := by
      have := foldK_len ps []
      simp only [List.length_nil] at this
      omega
    exact ⟨.ref s.heap.objs.size, _, I.laid (a := s.heap.objs.size) (o := .dK (foldK [] ps)) (t' := tk) kp (Nat.le_refl _) (dk_new zz (beq_eq_false_iff_ne.mpr (Ne.symm (Nat.ne_of_lt I.big))) (foldK_rel a1 .nil) D1), rfl, q _ (I.hok.fresh (Nat.le_refl _))⟩
theorem pv_of {K : PySem.W.Frag} {μ : List Addr} {H : Hp} : ∀ {vs : List V} {ds : List D} {ps : List (Int × D)}, Dens K μ H vs ds → pairsD ds = some ps → ∃ qs : List (Int × V), PV K H vs qs ∧ Paired (fun (q : Int × V) (p : Int × D) => q.1 = p.1 ∧ Den K μ H q.2 p.2) qs ps
  | _, _, ps, .nil, h => by cases h; exact ⟨[], .nil, .nil⟩
  | _, _, ps, .cons (ds := ds) h1 h2, h => by
    cases h1 with
    | @tup b us es hb hs =>
      unfold pairsD at h
      split at h
      · cases (show False from by rename_i q; cases q)
      · rename_i heq
        cases heq
        cases hr : pairsD ds with
        | none => rw [hr] at h; cases h
        | some r =>
          rw [hr] at h
          cases h
          obtain ⟨qs, q1, q2⟩ := pv_of h2 hr
          cases hs with
          | cons z1 z2 =>
            cases z2 with
            | cons z2 z3 =>
              cases z3
              cases z1
              exact ⟨(_, _) :: qs, .cons ⟨b, rfl, hb⟩ q1, .cons ⟨rfl, z2⟩ q2⟩
      · cases h
    | _ => unfold pairsD at h; cases h
theorem krel_fold {K : PySem.W.Frag} {μ : List Addr} {H : Hp} : ∀ {qs : List (Int × V)} {ps : List (Int × D)} {acc : List (Key × V)} {accD : List (Key × D)}, Paired (fun (q : Int × V) (p : Int × D) => q.1 = p.1 ∧ Den K μ H q.2 p.2) qs ps → KRel K μ H acc accD → KRel K μ H (foldK acc qs) (ps.foldl (fun ks p => dPut ks (.inl p.1) p.2) accD)
  | _, _, acc, accD, .nil, h => h
  | _, _, acc, accD, .cons (a := q) (b := p) r t, h => by
    show KRel K μ H (foldK (putK acc (.inl q.1) q.2) _) (List.foldl _ (dPut accD (.inl p.1) p.2) _)
    rw [r.1]
    exact krel_fold t (h.put _ r.2)
theorem r_dictT (hc : X.calm = true) (hm : X.mg "dict" = none) (he : PE3 ca X e me) (hg : Gl X "dict" := by rfl) (hs : starEach [e] X.env = [(false, eval e X.env)] := by rfl) (hpl : (backTo pos (starEach [] X.env)).any (·.1) = false := by rfl) :
    PE3 ca X (.Call (.Name "dict" p) [e] [] pos) (mOp1 pDictT me) :=
  r_ty (r := fun xs H Q => ∃ (a : Addr) (vs : List V) (ps : List (Int × V)), xs = [.ref a] ∧ SqT X.K H a vs ∧ PV X.K H vs ps ∧ ∀ l, H l = none → Q (.ref l) (upd H l (.dK (foldK [] ps)))) (fun pn Φ => call_dictT (X := xat X ca pn Φ) hc) hm boot_dict (fun Φ σ H μ g y d Q r q pp => by
    unfold pDictT at pp
    cases q with
    | @tup t vs ds ht hs =>
      dsimp only at pp
      cases hi : pairsD ds with
      | none => rw [hi] at pp; exact pp.elim
      | some ps =>
        rw [hi] at pp
        dsimp only at pp
        by_cases z : ps.length ≤ SZ
        · rw [if_pos z] at pp
          obtain ⟨qs, q1, q2⟩ := pv_of hs hi
          refine ⟨t, vs, qs, rfl, ht, q1, fun l hl => pp _ _ (μ ++ [l]) (ext_push hl) (r.push hl ⟨_, upd_same, ?_⟩) (.ref (by rw [← r.len]; simp))⟩
          exact (krel_fold q2 (.nil : KRel X.K μ H [] [])).mono (ext_push hl)
        · rw [if_neg z] at pp; exact pp.elim
    | _ => exact pp.elim) he hg (by decide) (by decide) hs hpl
end
end L3

end
section
namespace L3
open PySem
noncomputable def b_drawn_l1 : MS := (mSeq (mAsg (gSet 7) (mDGet2 (mVar 3) (mVar 6) (mLit (.int 0))))
  (mExpr (mAppend (mVar 5) (mIfE (mTest (mOp2 pEq (mVar 6) (mVar 2))) (mCat (mCons (mLit (.str (Str.ofString "["))) (mCons (mOp1 pStr (mVar 1)) (mCons (mLit (.str (Str.ofString ":"))) (mCons (mOp1 pStr (mVar 7)) (mCons (mLit (.str (Str.ofString "]"))) mNil)))))) (mOp1 pStr (mVar 7))))))
noncomputable def b_drawn : MS := (mSeq (mAsg (gSet 1) (mOp2 pIx (mVar 0) (mLit (.int 0))))
  (mSeq (mAsg (gSet 2) (mOp2 pIx (mVar 0) (mLit (.int 1))))
  (mSeq (mAsg (gSet 3) (mOp1 pDictT (mOp2 pIx (mVar 0) (mLit (.int 2)))))
  (mSeq (mAsg (gSet 4) (mOp2 pAdd (mOpA newL (mCons (mVar 2) mNil)) (mComp (mItSeq (mOp2 pIx (mVar 0) (mLit (.int 2)))) 2 [] (gTup3 [(gSet 0), (gSet 1)]) mTrue (mVar 0))))
  (mSeq (mAsg (gSet 5) (mOpA newL mNil))
  (mSeq (mFor (mItRangeB (mOp1 pMinL (mVar 4)) (mOp2 pAdd (mOp1 pMaxL (mVar 4)) (mLit (.int 1)))) (gSet 6) b_drawn_l1)
  (mRet (mSM pJoin (mLit (.str (Str.ofString ""))) (mVar 5)))))))))
noncomputable def f_drawn : MF := mDef 1 7 b_drawn
noncomputable def b_L_next : MS := (mSeq (mSetIx (mVar 1) (mLit (.int 0)) (mOp2 pAdd (mOp2 pIx (mVar 1) (mLit (.int 0))) (mLit (.int 1))))
  (mSeq (mAsg (gSet 2) (mLit (.int 0)))
  (mSeq (mIf (mTest (mOp2 pGt (mOp1 pLen (mVar 0)) (mLit (.int 0)))) (mAsg (gSet 2) (mOp2 pIx (mVar 0) (mOp2 pMod (mOp2 pIx (mVar 1) (mLit (.int 0))) (mOp1 pLen (mVar 0))))) mSkip)
  (mSeq (mAsg (gSet 3) (mOp2 pMod (mOp2 pMul (mOp2 pAdd (mOp2 pAdd (mOp2 pMod (mVar 2) (mLit (.int 2147483647))) (mOp2 pMul (mOp2 pMul (mOp2 pIx (mVar 1) (mLit (.int 0))) (mOp2 pIx (mVar 1) (mLit (.int 0)))) (mLit (.int 7919)))) (mLit (.int 11))) (mLit (.int 48271))) (mLit (.int 2147483647))))
  (mRet (mOp2 pMod (mOp2 pMul (mVar 3) (mVar 3)) (mLit (.int 1999999973))))))))
noncomputable def f_L_next : MF := mDef 2 2 b_L_next
noncomputable def b_L_drawn_l1 : MS := (mSeq (mAsg (gSet 7) (mSM pJoin (mLit (.str (Str.ofString ""))) (mComp (mItSeq (mVar 3)) 2 [6] (gTup3 [(gSet 0), (gSet 1)]) (mTest (mOp2 pEq (mVar 0) (mVar 2))) (mOp1 pStr (mVar 1)))))
  (mSeq (mIf (mTest (mOp2 pEq (mVar 7) (mLit (.str (Str.ofString ""))))) (mAsg (gSet 7) (mLit (.str (Str.ofString "0")))) mSkip)
  (mSeq (mIf (mTest (mOp2 pEq (mVar 6) (mVar 2))) (mAsg (gSet 7) (mOp2 pAdd (mOp2 pAdd (mOp2 pAdd (mOp2 pAdd (mLit (.str (Str.ofString "["))) (mOp1 pStr (mVar 1))) (mLit (.str (Str.ofString ":")))) (mVar 7)) (mLit (.str (Str.ofString "]"))))) mSkip)
  (mAsg (gSet 5) (mOp2 pAdd (mVar 5) (mVar 7))))))
noncomputable def b_L_drawn : MS := (mSeq (mAsg (gTup3 [(gSet 1), (gSet 2), (gSet 3)]) (mVar 0))
  (mSeq (mAsg (gSet 4) (mOp2 pAdd (mOpA newL (mCons (mVar 2) mNil)) (mComp (mItSeq (mVar 3)) 2 [] (gTup3 [(gSet 0), (gSet 1)]) mTrue (mVar 0))))
  (mSeq (mAsg (gSet 5) (mLit (.str (Str.ofString ""))))
  (mSeq (mFor (mItRangeB (mOp1 pMinL (mVar 4)) (mOp2 pAdd (mOp1 pMaxL (mVar 4)) (mLit (.int 1)))) (gSet 6) b_L_drawn_l1)
  (mRet (mVar 5))))))
noncomputable def f_L_drawn : MF := mDef 1 7 b_L_drawn
noncomputable def b_L_shot_by_l1 : MS := (mSeq (mAsg (gSet 8) (mCall f_L_next (mCons (mVar 0) (mCons (mVar 1) mNil))))
  (mSeq (mExpr (mAppend (mVar 6) (mOpA pTup (mCons (mVar 5) (mCons (mOp2 pAdd (mLit (.int 1)) (mOp2 pMod (mVar 8) (mLit (.int 7)))) mNil)))))
  (mAsg (gSet 5) (mOp2 pAdd (mOp2 pAdd (mVar 5) (mLit (.int 1))) (mOp2 pMul (mOp2 pMod (mOp2 pFdiv (mVar 8) (mLit (.int 7))) (mLit (.int 4))) (mOp2 pMod (mOp2 pFdiv (mVar 8) (mLit (.int 28))) (mLit (.int 3))))))))
noncomputable def b_L_shot_by : MS := (mSeq (mAsg (gSet 3) (mCall f_L_next (mCons (mVar 0) (mCons (mVar 1) mNil))))
  (mSeq (mAsg (gSet 4) (mOp2 pFdivB (mOp2 pAdd (mOp2 pSub (mOp2 pMod (mVar 2) (mOp2 pSub (mOp2 pMul (mLit (.int 2)) (mOp2 pPow (mLit (.int 10)) (mLit (.int 59)))) (mLit (.int 1)))) (mOp2 pPow (mLit (.int 10)) (mLit (.int 59)))) (mLit (.int 1))) (mOp2 pIx (mOpA newL (mCons (mLit (.int 1)) (mCons (mOp2 pPow (mLit (.int 10)) (mLit (.int 57))) mNil))) (mOp2 pMod (mVar 3) (mLit (.int 2))))))
  (mSeq (mAsg (gSet 5) (mOp2 pSub (mVar 4) (mOp2 pMod (mOp2 pFdiv (mVar 3) (mLit (.int 2))) (mLit (.int 12)))))
  (mSeq (mAsg (gSet 6) (mOpA newL mNil))
  (mSeq (mFor (mItRange1 (mOp2 pMod (mOp2 pFdiv (mVar 3) (mLit (.int 24))) (mLit (.int 8)))) (gSet 7) b_L_shot_by_l1)
  (mRet (mOpA pTup (mCons (mOp2 pMod (mOp2 pFdiv (mVar 3) (mLit (.int 200))) (mLit (.int 12))) (mCons (mVar 4) (mCons (mOp1 pTuple (mVar 6)) mNil))))))))))
noncomputable def f_L_shot_by : MF := mDef 3 6 b_L_shot_by
noncomputable def b_law_l1 : MS := (mSeq (mAsg (gSet 3) (mCall f_L_shot_by (mCons (mVar 0) (mCons (mVar 1) (mCons (mVar 2) mNil)))))
  (mSeq (mAsg (gSet 4) (mCall f_drawn (mCons (mVar 3) mNil)))
  (mIf (mOrT (mNotT (mTest (mOp1 (pIsin .str) (mVar 4)))) (mTest (mOp2 pNe (mVar 4) (mCall f_L_drawn (mCons (mVar 3) mNil))))) (mRet (mLit (.bl false))) mSkip)))
noncomputable def b_law : MS := (mSeq (mAsg (gSet 1) (mOpA newL (mCons (mLit (.int 0)) mNil)))
  (mSeq (mFor (mItSeq (mOp2 pAdd (mComp (mItEnum (mSlice (mVar 0) mNoPart (mPart (mLit (.int 45))))) 2 [] (gTup3 [(gSet 0), (gSet 1)]) (mTest (mOp2 pEq (mOp2 pMod (mVar 0) (mLit (.int 3))) (mLit (.int 0)))) (mVar 1)) (mOpA newL (mCons (mLit (.int 0)) (mCons (mOp1 pLen (mVar 0)) mNil))))) (gSet 2) b_law_l1)
  (mRet (mLit (.bl true)))))
noncomputable def f_law : MF := mDef 1 4 b_law
end L3

end
section
namespace L3
open PySem
structure Keeps (S : List Nat) (g g' : G) : Prop where
  len : g.length ≤ g'.length
  at' : ∀ n o, n ∉ S → g[n]? = some o → g'[n]? = some o
theorem Keeps.refl {S : List Nat} {g : G} : Keeps S g g := ⟨Nat.le_refl _, fun _ _ _ h => h⟩
theorem Keeps.trans {S : List Nat} {g g1 g2 : G} (a : Keeps S g g1) (b : Keeps S g1 g2) : Keeps S g g2 := ⟨Nat.le_trans a.len b.len, fun n o h e => b.at' n o h (a.at' n o h e)⟩
theorem Keeps.mono {S T : List Nat} {g g1 : G} (a : Keeps S g g1) (h : ∀ n ∈ S, n ∈ T) : Keeps T g g1 := ⟨a.len, fun n o q e => a.at' n o (fun z => q (h n z)) e⟩
theorem Keeps.all {S : List Nat} {g g1 : G} (a : Keeps [] g g1) : Keeps S g g1 := a.mono (by simp)
theorem Keeps.push {S : List Nat} {g : G} (o : GO) : Keeps S g (g ++ [o]) := ⟨by simp, fun n u _ e => by
  have hl : n < g.length := (List.getElem?_eq_some_iff.mp e).1
  rw [List.getElem?_append_left hl]; exact e⟩
theorem Keeps.set {g : G} (n : Nat) (o : GO) : Keeps [n] g (g.set n o) := ⟨by simp, fun m u h e => by
  rw [List.getElem?_set_ne (fun z => h (by simp [z]))]; exact e⟩
theorem get_push {g : G} (o : GO) : (g ++ [o])[g.length]? = some o := by simp
theorem get_lt {g : G} {n : Nat} {o : GO} (h : g[n]? = some o) : n < g.length := (List.getElem?_eq_some_iff.mp h).1
theorem get_set {g : G} {n : Nat} {o u : GO} (h : g[n]? = some o) : (g.set n u)[n]? = some u := by rw [List.getElem?_set_self (get_lt h)]
noncomputable def exits : Out → Prop
  | .rt _ _ => True
  | .raise _ _ _ => True
  | _ => False
theorem forL_gen {src : Src} {t : MG} {body : MS} {n : Nat} (I : Nat → S3 → G → Prop) (R : Out → Prop)
    (step : ∀ i σ g, i < n → I i σ g → ∃ d σ1, src.at' g i = some (some d) ∧ t d σ = some σ1 ∧ ((∃ σ2 g2, (body σ1 g = .nx σ2 g2 ∨ body σ1 g = .ct σ2 g2) ∧ I (i + 1) σ2 g2) ∨ (exits (body σ1 g) ∧ R (body σ1 g))))
    (stop : ∀ σ g, I n σ g → src.at' g n = some none) : ∀ (f i : Nat) (σ : S3) (g : G), n - i < f → i ≤ n → I i σ g → (∃ σ' g', forL src t body f i σ g = .nx σ' g' ∧ I n σ' g') ∨ (exits (forL src t body f i σ g) ∧ R (forL src t body f i σ g))
  | 0, _, _, _, h, _, _ => by omega
  | f + 1, i, σ, g, hf, hi, h => by
    unfold forL
    by_cases e : i = n
    · subst e
      rw [stop σ g h]
      exact .inl ⟨σ, g, rfl, h⟩
    · obtain ⟨d, σ1, h1, h2, h3⟩ := step i σ g (by omega) h
      rw [h1]
      dsimp only
      rw [h2]
      dsimp only
      rcases h3 with ⟨σ2, g2, h3 | h3, h4⟩ | ⟨h3, h4⟩
      · rw [h3]; exact forL_gen I R step stop f (i + 1) σ2 g2 (by omega) (by omega) h4
      · rw [h3]; exact forL_gen I R step stop f (i + 1) σ2 g2 (by omega) (by omega) h4
      · cases hb : body σ1 g with
        | rt d g' => rw [hb] at h4; exact .inr ⟨trivial, h4⟩
        | raise x σ' g' => rw [hb] at h4; exact .inr ⟨trivial, h4⟩
        | nx _ _ => rw [hb] at h3; exact h3.elim
        | bk _ _ => rw [hb] at h3; exact h3.elim
        | ct _ _ => rw [hb] at h3; exact h3.elim
        | stuck => rw [hb] at h3; exact h3.elim
theorem for_range {t : MG} {body : MS} {lo : Int} {n : Nat} {σ : S3} {g : G} (I : Nat → S3 → G → Prop) (h0 : I 0 σ g)
    (step : ∀ i σ g, i < n → I i σ g → ∃ σ1 σ2 g2, t (.int (lo + i)) σ = some σ1 ∧ body σ1 g = .nx σ2 g2 ∧ I (i + 1) σ2 g2) : ∃ σ' g', forL (srcRange lo n) t body (n + 1) 0 σ g = .nx σ' g' ∧ I n σ' g' := by
  have := forL_gen (src := srcRange lo n) (t := t) (body := body) (n := n) I (fun _ => False) (fun i σ g hi h => by
    obtain ⟨σ1, σ2, g2, a, b, c⟩ := step i σ g hi h
    exact ⟨.int (lo + i), σ1, by simp [srcRange, hi], a, .inl ⟨σ2, g2, .inl b, c⟩⟩) (fun σ g _ => by simp [srcRange]) (n + 1) 0 σ g (by omega) (by omega) h0
  rcases this with h | h
  · exact h
  · exact h.2.elim
theorem for_src {src : Src} {t : MG} {body : MS} {n : Nat} {σ : S3} {g : G} (hn : src.top = n) (I : Nat → S3 → G → Prop) (h0 : I 0 σ g)
    (step : ∀ i σ g, i < n → I i σ g → ∃ d σ1 σ2 g2, src.at' g i = some (some d) ∧ t d σ = some σ1 ∧ body σ1 g = .nx σ2 g2 ∧ I (i + 1) σ2 g2)
    (stop : ∀ σ g, I n σ g → src.at' g n = some none) : ∃ σ' g', forL src t body (src.top + 1) 0 σ g = .nx σ' g' ∧ I n σ' g' := by
  rw [hn]
  have := forL_gen (src := src) (t := t) (body := body) (n := n) I (fun _ => False) (fun i σ g hi h => by
    obtain ⟨d, σ1, σ2, g2, a, b, c, e⟩ := step i σ g hi h
    exact ⟨d, σ1, a, b, .inl ⟨σ2, g2, .inl c, e⟩⟩) stop (n + 1) 0 σ g (by omega) (by omega) h0
  rcases this with h | h
  · exact h
  · exact h.2.elim
theorem compL_gen {src : Src} {t : MG} {c : MT} {e : ME} {n : Nat} (I : Nat → S3 → G → List D → Prop)
    (step : ∀ i σ g acc, i < n → I i σ g acc → ∃ d σ1 g1, src.at' g i = some (some d) ∧ t d σ = some σ1 ∧ ((∃ y g2, c σ1 g = .ok true g1 ∧ e σ1 g1 = .ok y g2 ∧ I (i + 1) σ1 g2 (acc ++ [y])) ∨ (c σ1 g = .ok false g1 ∧ I (i + 1) σ1 g1 acc)))
    (stop : ∀ σ g acc, I n σ g acc → src.at' g n = some none) : ∀ (f i : Nat) (σ : S3) (g : G) (acc : List D), n - i < f → i ≤ n → I i σ g acc → ∃ ds σ' g', compL src t c e f i σ g acc = .ok ds g' ∧ I n σ' g' ds
  | 0, _, _, _, _, h, _, _ => by omega
  | f + 1, i, σ, g, acc, hf, hi, h => by
    unfold compL
    by_cases q : i = n
    · subst q
      rw [stop σ g acc h]
      exact ⟨acc, σ, g, rfl, h⟩
    · obtain ⟨d, σ1, g1, h1, h2, h3⟩ := step i σ g acc (by omega) h
      rw [h1]
      dsimp only
      rw [h2]
      dsimp only
      rcases h3 with ⟨y, g2, h3, h4, h5⟩ | ⟨h3, h5⟩
      · rw [h3]; dsimp only; rw [if_pos rfl, h4]; exact compL_gen I step stop f (i + 1) σ1 g2 _ (by omega) (by omega) h5
      · rw [h3]; dsimp only; rw [if_neg Bool.false_ne_true]; exact compL_gen I step stop f (i + 1) σ1 g1 _ (by omega) (by omega) h5
end L3

end
section
namespace L3
open PySem
theorem seq_nx {a b : MS} {σ σ' : S3} {g g' : G} (h : a σ g = .nx σ' g') : mSeq a b σ g = b σ' g' := by unfold mSeq; rw [h]
theorem asg_ok {i : Nat} {a : ME} {σ : S3} {d : D} {g g' : G} (h : a σ g = .ok d g') : mAsg (gSet i) a σ g = .nx (σ.set i (some d)) g' := by unfold mAsg; rw [h]; rfl
theorem if_true' {c : MT} {a b : MS} {σ : S3} {g g' : G} (h : c σ g = .ok true g') : mIf c a b σ g = a σ g' := by unfold mIf; rw [h]; rfl
theorem if_false' {c : MT} {a b : MS} {σ : S3} {g g' : G} (h : c σ g = .ok false g') : mIf c a b σ g = b σ g' := by unfold mIf; rw [h]; rfl
theorem call_ok {f : MF} {a : MA} {σ : S3} {ds : List D} {g g' : G} (h : a σ g = .ok ds g') : mCall f a σ g = f ds g' := by unfold mCall; rw [h]; rfl
theorem expr_ok {a : ME} {σ : S3} {d : D} {g g' : G} (h : a σ g = .ok d g') : mExpr a σ g = .nx σ g' := by unfold mExpr; rw [h]
theorem ret_ok {a : ME} {σ : S3} {d : D} {g g' : G} (h : a σ g = .ok d g') : mRet a σ g = .rt d g' := by unfold mRet; rw [h]
theorem def_rt {k n : Nat} {b : MS} {ds : List D} {d : D} {g g' : G} (hl : ds.length = k) (h : b (ds.map some ++ List.replicate n none) g = .rt d g') : mDef k n b ds g = .ok d g' := by unfold mDef; rw [if_pos hl, h]
theorem at_mod (ns : List Int) (i : Int) (h : 0 < ns.length) : ∃ x, atD (ns.map D.int) (i % ns.length) = some (.int x) := by
  have h1 : 0 ≤ i % (ns.length : Int) := Int.emod_nonneg _ (by omega)
  have h2 : i % (ns.length : Int) < ns.length := Int.emod_lt_of_pos _ (by omega)
  have h3 : (i % (ns.length : Int)).toNat < ns.length := by omega
  refine ⟨ns[(i % (ns.length : Int)).toNat], ?_⟩
  unfold atD ixD
  rw [List.length_map, if_pos h1, if_pos h2]
  simp [h3]
theorem ix0 {a : Nat} {d : D} {g : G} (h : g[a]? = some (.lst [d])) : pIx (.ref a) (.int 0) g = .ok d g := by
  unfold pIx; dsimp only; rw [h]; rfl
theorem ixfl {ds : List D} {i : Int} {d : D} {g : G} (h : atD ds i = some d) : pIx (.fl ds) (.int i) g = .ok d g := by
  unfold pIx; dsimp only; rw [h]
theorem next_tail (c : Int) (x : D) (a : Nat) (k : Int) (g : G) (ga : g[a]? = some (.lst [.int k])) (hk : 0 ≤ k) (hk2 : k < 1000000001) : ∃ m, 0 ≤ m ∧ m < 1999999973 ∧ (mSeq (mAsg (gSet 3) (mOp2 pMod (mOp2 pMul (mOp2 pAdd (mOp2 pAdd (mOp2 pMod (mVar 2) (mLit (.int 2147483647))) (mOp2 pMul (mOp2 pMul (mOp2 pIx (mVar 1) (mLit (.int 0))) (mOp2 pIx (mVar 1) (mLit (.int 0)))) (mLit (.int 7919)))) (mLit (.int 11))) (mLit (.int 48271))) (mLit (.int 2147483647))))
      (mRet (mOp2 pMod (mOp2 pMul (mVar 3) (mVar 3)) (mLit (.int 1999999973))))) [some x, some (.ref a), some (.int c), none] g = .rt (.int m) g := by
  have c1 : cM k := ⟨by omega, by omega⟩
  have c2 : cM 7919 := ⟨by decide, by decide⟩
  have c3 : cM 48271 := ⟨by decide, by decide⟩
  have hr := Int.emod_lt_of_pos ((c % 2147483647 + k * k * 7919 + 11) * 48271) (show (0 : Int) < 2147483647 by decide)
  have hr0 := Int.emod_nonneg ((c % 2147483647 + k * k * 7919 + 11) * 48271) (show (2147483647 : Int) ≠ 0 by decide)
  have c4 : cM (((c % 2147483647 + k * k * 7919 + 11) * 48271) % 2147483647) := ⟨by omega, by omega⟩
  refine ⟨((c % 2147483647 + k * k * 7919 + 11) * 48271) % 2147483647 * (((c % 2147483647 + k * k * 7919 + 11) * 48271) % 2147483647) % 1999999973, Int.emod_nonneg _ (by decide), Int.emod_lt_of_pos _ (by decide), ?_⟩
  have e1 : (mOp2 pMod (mOp2 pMul (mOp2 pAdd (mOp2 pAdd (mOp2 pMod (mVar 2) (mLit (.int 2147483647))) (mOp2 pMul (mOp2 pMul (mOp2 pIx (mVar 1) (mLit (.int 0))) (mOp2 pIx (mVar 1) (mLit (.int 0)))) (mLit (.int 7919)))) (mLit (.int 11))) (mLit (.int 48271))) (mLit (.int 2147483647))) [some x, some (.ref a), some (.int c), none] g = .ok (.int (((c % 2147483647 + k * k * 7919 + 11) * 48271) % 2147483647)) g := by
    simp [mOp2, mVar, mLit, Res.bind, ix0 ga, pMod, pMul, pAdd, c1, c2, c3]
  rw [seq_nx (asg_ok e1)]
  generalize ((c % 2147483647 + k * k * 7919 + 11) * 48271) % 2147483647 = r at c4 ⊢
  refine ret_ok ?_
  simp [mOp2, mVar, mLit, Res.bind, pMod, pMul, c4]
theorem next_eq (ns : List Int) (a : Nat) (k : Int) (g : G) (hg : g[a]? = some (.lst [.int k])) (hk : 0 ≤ k) (hk2 : k < 1000000000) :
    ∃ m, 0 ≤ m ∧ m < 1999999973 ∧ f_L_next [.fl (ns.map .int), .ref a] g = .ok (.int m) (g.set a (.lst [.int (k + 1)])) := by
  have s1 : mSetIx (mVar 1) (mLit (.int 0)) (mOp2 pAdd (mOp2 pIx (mVar 1) (mLit (.int 0))) (mLit (.int 1))) [some (.fl (ns.map .int)), some (.ref a), none, none] g = .nx [some (.fl (ns.map .int)), some (.ref a), none, none] (g.set a (.lst [.int (k + 1)])) := by
    simp [mSetIx, mOp2, mVar, mLit, Res.bind, ix0 hg, pAdd, hg, ixD]
  have ga : (g.set a (.lst [.int (k + 1)]))[a]? = some (.lst [.int (k + 1)]) := get_set hg
  generalize g.set a (.lst [.int (k + 1)]) = g1 at s1 ga ⊢
  have s2 : mAsg (gSet 2) (mLit (.int 0)) [some (.fl (ns.map .int)), some (.ref a), none, none] g1 = .nx [some (.fl (ns.map .int)), some (.ref a), some (.int 0), none] g1 := rfl
  have s3 : ∃ c, mIf (mTest (mOp2 pGt (mOp1 pLen (mVar 0)) (mLit (.int 0)))) (mAsg (gSet 2) (mOp2 pIx (mVar 0) (mOp2 pMod (mOp2 pIx (mVar 1) (mLit (.int 0))) (mOp1 pLen (mVar 0))))) mSkip [some (.fl (ns.map .int)), some (.ref a), some (.int 0), none] g1 = .nx [some (.fl (ns.map .int)), some (.ref a), some (.int c), none] g1 := by
    by_cases hl : 0 < ns.length
    · obtain ⟨x, hx⟩ := at_mod ns (k + 1) hl
      have hl' : (0 : Int) < (ns.length : Int) := by omega
      refine ⟨x, ?_⟩
      rw [if_true' (g' := g1) (by simp [mTest, mOp2, mOp1, mVar, mLit, Res.bind, pLen, pGt, pCmp, hl])]
      refine asg_ok ?_
      simp only [mOp2, mOp1, mVar, mLit, Res.bind, List.getElem?_cons_succ, List.getElem?_cons_zero, ix0 ga, pLen, pMod, List.length_map, hl', if_true, ixfl hx]
    · cases ns with
      | nil => exact ⟨0, rfl⟩
      | cons x r => simp at hl
  obtain ⟨c, s3⟩ := s3
  obtain ⟨m, m1, m2, m3⟩ := next_tail c (.fl (ns.map .int)) a (k + 1) g1 ga (by omega) (by omega)
  refine ⟨m, m1, m2, def_rt rfl ?_⟩
  show b_L_next [some (.fl (ns.map .int)), some (.ref a), none, none] g = _
  unfold b_L_next
  rw [seq_nx s1, seq_nx s2, seq_nx s3, m3]
end L3

end
section
namespace L3
open PySem
theorem sz_lt {n : Nat} (h : n ≤ 1000) : n < SZ := Nat.lt_of_le_of_lt h (by decide)
theorem inR_of {n : Nat} (h : n ≤ 1000) : inR (n : Int) := by
  have : (n : Int) ≤ 1000 := by exact_mod_cast h
  constructor <;> omega
theorem range1_ok {a : ME} {n : Nat} {σ : S3} {g g' : G} (h : a σ g = .ok (.int n) g') (hr : inR (n : Int)) : mItRange1 a σ g = .ok (srcRange 0 n) g' := by
  unfold mItRange1; rw [h, Res.bind_ok]; dsimp only; rw [if_pos hr, Int.toNat_natCast]
theorem for_ok {it : MI} {t : MG} {body : MS} {src : Src} {σ : S3} {g g' : G} (h : it σ g = .ok src g') : mFor it t body σ g = forL src t body (src.top + 1) 0 σ g' := by
  unfold mFor; rw [h]
theorem eq_str (s t : Str) (g : G) : pEq (.str s) (.str t) g = .ok (.bl (s == t)) g := rfl
theorem cM_small {i : Int} (h0 : -1000000 ≤ i) (h1 : i ≤ 1000000) : cM i := ⟨by omega, by omega⟩
theorem mulL {i j : Int} {g : G} (h : cM i) : pMul (.int i) (.int j) g = .ok (.int (i * j)) g := if_pos (.inl h)
theorem modP {i j : Int} {g : G} (h : 0 < j) : pMod (.int i) (.int j) g = .ok (.int (i % j)) g := if_pos h
theorem divP {i j : Int} {g : G} (h : 0 < j) (h2 : j ≤ 1000000) : pFdiv (.int i) (.int j) g = .ok (.int (i / j)) g := if_pos ⟨h, by omega⟩
theorem op2_ok {f : D → D → G → Res D} {a b : ME} {σ : S3} {x y : D} {g g1 g2 : G} {R : Res D} (ha : a σ g = .ok x g1) (hb : b σ g1 = .ok y g2) (h : f x y g2 = R) : mOp2 f a b σ g = R := by unfold mOp2; rw [ha, Res.bind_ok, hb, Res.bind_ok, h]
theorem op1_ok {f : D → G → Res D} {a : ME} {σ : S3} {x : D} {g g1 : G} {R : Res D} (ha : a σ g = .ok x g1) (h : f x g1 = R) : mOp1 f a σ g = R := by unfold mOp1; rw [ha, Res.bind_ok, h]
theorem test_ok {a : ME} {σ : S3} {b : Bool} {g g1 : G} (ha : a σ g = .ok (.bl b) g1) : mTest a σ g = .ok b g1 := by unfold mTest; rw [ha, Res.bind_ok]
theorem cons_ok {a : ME} {r : MA} {x : D} {xs : List D} {σ : S3} {g g1 g2 : G} (h : a σ g = .ok x g1) (h2 : r σ g1 = .ok xs g2) : mCons a r σ g = .ok (x :: xs) g2 := by
  unfold mCons; rw [h, Res.bind_ok, h2]; rfl
theorem append_ex {n : Nat} {ds : List D} {y : D} {σ : S3} {g : G} {o e : ME} (ho : o σ g = .ok (.ref n) g) (h : g[n]? = some (.lst ds)) (he : e σ g = .ok y g) (hz : ds.length < SZ) :
    mExpr (mAppend o e) σ g = .nx σ (g.set n (.lst (ds ++ [y]))) := by
  refine expr_ok (d := .non) ?_
  simp [mAppend, ho, he, Res.bind, h, hz]
theorem eq_int (i j : Int) (g : G) : pEq (.int i) (.int j) g = .ok (.bl (i == j)) g := rfl
theorem comp_ok {it : MI} {n : Nat} {cap : List Nat} {t : MG} {c : MT} {e : ME} {σ : S3} {g g1 g2 : G} {src : Src} {ds : List D} {σ0 : S3} (h1 : it σ g = .ok src g1) (hz : src.top ≤ SZ) (hc : capt n cap σ = σ0) (h2 : compL src t c e (src.top + 1) 0 σ0 g1 [] = .ok ds g2) : mComp it n cap t c e σ g = .ok (.ref g2.length) (g2 ++ [.lst ds]) := by
  simp only [mComp, h1, hz, hc, h2, if_true]
theorem Keeps.seq {g g1 : G} (k : Keeps [] g g1) {d : D} {p : Bool × List D} (h : seqOf g d = some p) : seqOf g1 d = some p := by
  cases d with
  | ref n =>
    unfold seqOf at h ⊢
    dsimp only at h ⊢
    cases hg : g[n]? with
    | none => rw [hg] at h; cases h
    | some o => rw [hg] at h; rw [k.at' n o (by simp) hg]; exact h
  | _ => exact h
noncomputable def srcL (a : Nat) (n : Nat) : Src := ⟨fun g i => (match g[a]? with | some (.lst es) => some es[i]? | _ => none), n⟩
end L3

end
section
namespace L3
open PySem
theorem seq_to {a b : MS} {σ : S3} {g : G} {R : Out} (σ' : S3) (g' : G) (h : a σ g = .nx σ' g') (h2 : b σ' g' = R) : mSeq a b σ g = R := (seq_nx h).trans h2
theorem ift {c : MT} {a b : MS} {σ : S3} {g : G} {R : Out} (g' : G) (h : c σ g = .ok true g') (h2 : a σ g' = R) : mIf c a b σ g = R := (if_true' h).trans h2
theorem iff' {c : MT} {a b : MS} {σ : S3} {g : G} {R : Out} (g' : G) (h : c σ g = .ok false g') (h2 : b σ g' = R) : mIf c a b σ g = R := (if_false' h).trans h2
noncomputable def cellS (ms : List (Int × Int)) (x : Int) : List Int := (ms.filter fun m => decide (m.1 = x)).map (·.2)
noncomputable def sgn (ms : List (Int × Int)) (x : Int) : Int := ((cellS ms x).getLast?).getD 0
noncomputable def sI (i : Int) : Str := Str.ofString (toString i)
noncomputable def cellT (st p : Int) (ms : List (Int × Int)) (x : Int) : Str := if x = p then Str.ofString "[" ++ sI st ++ Str.ofString ":" ++ sI (sgn ms x) ++ Str.ofString "]" else sI (sgn ms x)
noncomputable def rowL (st p : Int) (ms : List (Int × Int)) (lo : Int) (n : Nat) : List Str := (List.range n).map fun i => cellT st p ms (lo + (i : Nat))
noncomputable def cat (ss : List Str) : Str := ss.foldl (· ++ ·) (Str.ofString "")
theorem str_nil : Str.ofString "" = ⟨#[]⟩ := by decide +kernel
theorem nil_app (s : Str) : Str.ofString "" ++ s = s := by
  rw [str_nil]
  show (⟨#[] ++ s.cps⟩ : Str) = s
  rw [Array.empty_append]
theorem app_nil (s : Str) : s ++ Str.ofString "" = s := by
  rw [str_nil]
  show (⟨s.cps ++ #[]⟩ : Str) = s
  rw [Array.append_empty]
theorem app_assoc (a b c : Str) : a ++ b ++ c = a ++ (b ++ c) := by
  show (⟨a.cps ++ b.cps ++ c.cps⟩ : Str) = ⟨a.cps ++ (b.cps ++ c.cps)⟩
  rw [Array.append_assoc]
theorem len_app (a b : Str) : (a ++ b).length = a.length + b.length := Array.size_append
theorem cat_from (ss : List Str) : ∀ a : Str, ss.foldl (· ++ ·) a = a ++ cat ss := by
  unfold cat
  induction ss with
  | nil => intro a; exact (app_nil a).symm
  | cons s r ih => intro a; rw [List.foldl_cons, List.foldl_cons, ih (a ++ s), ih (Str.ofString "" ++ s), nil_app, app_assoc]
theorem cat_cons (s : Str) (l : List Str) : cat (s :: l) = s ++ cat l := by rw [cat, List.foldl_cons, cat_from, nil_app]
theorem join_cat : ∀ ss : List Str, Str.join (Str.ofString "") ss = cat ss
  | [] => str_nil.symm
  | [s] => (nil_app s).symm
  | s :: t :: r => by
    show s ++ Str.ofString "" ++ Str.join (Str.ofString "") (t :: r) = _
    rw [join_cat (t :: r), app_nil, cat_cons s (t :: r)]
theorem cat_snoc (ss : List Str) (s : Str) : cat (ss ++ [s]) = cat ss ++ s := by unfold cat; rw [List.foldl_append]; rfl
theorem strsD_map (ss : List Str) : strsD (ss.map D.str) = some ss := by
  induction ss with
  | nil => rfl
  | cons s r ih => rw [List.map_cons, strsD, ih]; rfl
theorem sum_le {ss : List Str} {b : Nat} (h : ∀ s ∈ ss, s.length ≤ b) : sumL ss ≤ ss.length * b := by
  unfold sumL
  induction ss with
  | nil => simp
  | cons s r ih =>
    rw [List.map_cons, List.sum_cons, List.length_cons, Nat.succ_mul]
    have := h s (List.mem_cons_self ..)
    have := ih fun t ht => h t (List.mem_cons_of_mem _ ht)
    omega
theorem len_cat (ss : List Str) : (cat ss).length = sumL ss := by
  unfold sumL
  induction ss with
  | nil => rw [cat, List.foldl_nil, str_nil]; rfl
  | cons s r ih => rw [cat_cons, len_app, ih]; rfl
theorem small_str {i : Int} (h0 : 0 ≤ i) (h1 : i < 12) : (sI i).length ≤ 2 := by
  have : i = 0 ∨ i = 1 ∨ i = 2 ∨ i = 3 ∨ i = 4 ∨ i = 5 ∨ i = 6 ∨ i = 7 ∨ i = 8 ∨ i = 9 ∨ i = 10 ∨ i = 11 := by omega
  rcases this with h | h | h | h | h | h | h | h | h | h | h | h <;> subst h <;> decide +kernel
theorem str_ne {i : Int} (h0 : 0 ≤ i) (h1 : i < 12) : (sI i == Str.ofString "") = false := by
  have : i = 0 ∨ i = 1 ∨ i = 2 ∨ i = 3 ∨ i = 4 ∨ i = 5 ∨ i = 6 ∨ i = 7 ∨ i = 8 ∨ i = 9 ∨ i = 10 ∨ i = 11 := by omega
  rcases this with h | h | h | h | h | h | h | h | h | h | h | h <;> subst h <;> decide +kernel
theorem str_0 : sI 0 = Str.ofString "0" := by decide +kernel
theorem pStr_ok {i : Int} {g : G} (h0 : 0 ≤ i) (h1 : i < 12) : pStr (.int i) g = .ok (.str (sI i)) g := if_pos ⟨h0, by omega⟩
structure Marks (p : Int) (ms : List (Int × Int)) : Prop where
  up : ms.Pairwise fun a b => a.1 < b.1
  sg : ∀ m ∈ ms, 1 ≤ m.2 ∧ m.2 ≤ 7
  nr : ∀ m ∈ ms, p - 100 ≤ m.1 ∧ m.1 ≤ p + 100
  len : ms.length ≤ 8
theorem cell_one {p : Int} {ms : List (Int × Int)} (h : Marks p ms) (x : Int) : cellS ms x = [] ∨ ∃ s, cellS ms x = [s] ∧ 1 ≤ s ∧ s ≤ 7 := by
  unfold cellS
  have hf : (ms.filter fun m => decide (m.1 = x)).Pairwise fun a b => a.1 < b.1 := h.up.filter _
  have hm : ∀ m ∈ ms.filter (fun m => decide (m.1 = x)), m.1 = x ∧ m ∈ ms := fun m hm => by
    have := List.mem_filter.mp hm
    exact ⟨of_decide_eq_true this.2, this.1⟩
  generalize ms.filter (fun m => decide (m.1 = x)) = l at hf hm
  match l, hf, hm with
  | [], _, _ => exact .inl rfl
  | [m], _, hm => exact .inr ⟨m.2, rfl, h.sg m (hm m (List.mem_cons_self ..)).2⟩
  | a :: b :: r, hf, hm =>
    have h1 := (List.pairwise_cons.mp hf).1 b (List.mem_cons_self ..)
    have h2 := (hm a (List.mem_cons_self ..)).1
    have h3 := (hm b (List.mem_cons_of_mem _ (List.mem_cons_self ..))).1
    omega
theorem sgn_bd {p : Int} {ms : List (Int × Int)} (h : Marks p ms) (x : Int) : 0 ≤ sgn ms x ∧ sgn ms x < 12 := by
  unfold sgn
  rcases cell_one h x with e | ⟨s, e, h1, h2⟩ <;> rw [e]
  · exact ⟨by decide, by decide⟩
  · show 0 ≤ s ∧ s < 12
    omega
theorem cell_len {st p : Int} {ms : List (Int × Int)} (h : Marks p ms) (h0 : 0 ≤ st) (h1 : st < 12) (x : Int) : (cellT st p ms x).length ≤ 7 := by
  have hs := small_str h0 h1
  have hx := small_str (sgn_bd h x).1 (sgn_bd h x).2
  unfold cellT
  have b1 : (Str.ofString "[").length = 1 := by decide +kernel
  have b2 : (Str.ofString ":").length = 1 := by decide +kernel
  have b3 : (Str.ofString "]").length = 1 := by decide +kernel
  split
  · rw [len_app, len_app, len_app, len_app, b1, b2, b3]; omega
  · omega
noncomputable def mD (ms : List (Int × Int)) : List (Int × D) := ms.map fun m => (m.1, .int m.2)
noncomputable def tD (ms : List (Int × Int)) : List D := ms.map fun m => .tup [.int m.1, .int m.2]
theorem pairs_tD (ms : List (Int × Int)) : pairsD (tD ms) = some (mD ms) := by
  unfold tD mD
  induction ms with
  | nil => rfl
  | cons m r ih => rw [List.map_cons, pairsD, ih]; rfl
theorem dGet_put (ks : List (DK × D)) (k k' : DK) (v : D) : dGet (dPut ks k v) k' = if k = k' then some v else dGet ks k' := by
  unfold dPut
  by_cases ha : (ks.any fun p => decide (p.1 = k)) = true
  · rw [if_pos ha]
    unfold dGet
    induction ks with
    | nil => cases ha
    | cons p r ih =>
      rw [List.map_cons, List.find?_cons, List.find?_cons]
      by_cases e : p.1 = k
      · rw [if_pos e]
        by_cases e2 : k = k'
        · rw [if_pos e2, decide_eq_true (e.trans e2)]; rfl
        · rw [if_neg e2]
          have e3 : ¬ p.1 = k' := fun z => e2 (e.symm.trans z)
          rw [decide_eq_false e3]
          dsimp only
          by_cases hr : (r.any fun p => decide (p.1 = k)) = true
          · have := ih hr
            rw [if_neg e2] at this; exact this
          · have : r.map (fun q => if q.1 = k then (q.1, v) else q) = r := by
              conv => rhs; rw [← List.map_id r]
              refine List.map_congr_left fun q hq => ?_
              rw [if_neg (fun z => hr (List.any_eq_true.mpr ⟨q, hq, decide_eq_true z⟩))]; rfl
            rw [this]
      · rw [if_neg e]
        have hr : (r.any fun p => decide (p.1 = k)) = true := by
          rw [List.any_cons, decide_eq_false e, Bool.false_or] at ha; exact ha
        have := ih hr
        by_cases e2 : p.1 = k'
        · rw [decide_eq_true e2, if_neg (fun z => e (e2.trans z.symm))]
        · rw [decide_eq_false e2]; exact this
  · rw [if_neg ha]
    unfold dGet
    rw [List.find?_append]
    by_cases e : k = k'
    · rw [if_pos e]
      have : ks.find? (fun p => decide (p.1 = k')) = none := by
        rw [List.find?_eq_none]
        intro q hq z
        exact ha (List.any_eq_true.mpr ⟨q, hq, by rw [e]; exact z⟩)
      rw [this, List.find?_cons, decide_eq_true e]; rfl
    · rw [if_neg e]
      cases hf : ks.find? (fun p => decide (p.1 = k')) with
      | none => rw [List.find?_cons, decide_eq_false e]; rfl
      | some q => rfl
theorem dict_snoc (ps : List (Int × D)) (p : Int × D) : dictOf (ps ++ [p]) = dPut (dictOf ps) (.inl p.1) p.2 := by unfold dictOf; rw [List.foldl_append]; rfl
theorem dict_get (x : Int) : ∀ ms : List (Int × Int), dGet (dictOf (mD ms)) (.inl x) = (cellS ms x).getLast?.map D.int := by
  intro ms
  rw [← List.reverse_reverse ms]
  induction ms.reverse with
  | nil => rfl
  | cons m r ih =>
    rw [List.reverse_cons]
    have e1 : mD (r.reverse ++ [m]) = mD r.reverse ++ [(m.1, .int m.2)] := by unfold mD; rw [List.map_append]; rfl
    have e2 : cellS (r.reverse ++ [m]) x = cellS r.reverse x ++ if m.1 = x then [m.2] else [] := by
      unfold cellS
      rw [List.filter_append, List.map_append, List.filter_cons]
      by_cases e : m.1 = x
      · rw [if_pos (decide_eq_true e), if_pos e]; rfl
      · rw [if_neg (fun z => e (of_decide_eq_true z)), if_neg e]; rfl
    rw [e1, dict_snoc, dGet_put, e2]
    by_cases e : m.1 = x
    · rw [if_pos (by rw [e]), if_pos e, List.getLast?_append]; rfl
    · rw [if_neg (fun z => e (Sum.inl.inj z)), if_neg e, List.append_nil]; exact ih
theorem dict_sgn (x : Int) (ms : List (Int × Int)) : (dGet (dictOf (mD ms)) (.inl x)).getD (.int 0) = .int (sgn ms x) := by
  rw [dict_get]
  unfold sgn
  cases (cellS ms x).getLast? <;> rfl
end L3

end
section
namespace L3
open PySem
theorem tD_at (ms : List (Int × Int)) (i : Nat) : (tD ms)[i]? = ms[i]?.map fun m => .tup [.int m.1, .int m.2] := List.getElem?_map ..
theorem comp_fst (ms : List (Int × Int)) (g : G) : compL ⟨fun _ i => some (tD ms)[i]?, (tD ms).length⟩ (gTup3 [gSet 0, gSet 1]) mTrue (mVar 0) ((tD ms).length + 1) 0 [none, none] g [] = .ok (ms.map fun m => .int m.1) g := by
  obtain ⟨xs, σ', g', h1, h2, h3, _⟩ := compL_gen (src := ⟨fun _ i => some (tD ms)[i]?, (tD ms).length⟩) (t := gTup3 [gSet 0, gSet 1]) (c := mTrue) (e := mVar 0) (n := ms.length)
    (fun i σ' g1 acc => acc = (ms.take i).map (fun m => .int m.1) ∧ g1 = g ∧ ∃ u v, σ' = [u, v]) (fun i σ' g1 acc hi h => by
      obtain ⟨h1, h2, u, v, h3⟩ := h
      subst h3
      refine ⟨.tup [.int ms[i].1, .int ms[i].2], [some (.int ms[i].1), some (.int ms[i].2)], g1, ?_, rfl, .inl ⟨.int ms[i].1, g1, rfl, rfl, ?_, h2, _, _, rfl⟩⟩
      · show some (tD ms)[i]? = _
        rw [tD_at, List.getElem?_eq_getElem hi]; rfl
      · rw [h1, List.take_succ_eq_append_getElem hi, List.map_append]; rfl) (fun σ g acc _ => by
      show some (tD ms)[ms.length]? = _
      rw [tD_at, List.getElem?_eq_none (Nat.le_refl _)]; rfl) ((tD ms).length + 1) 0 [none, none] g [] (by rw [tD, List.length_map]; omega) (by omega) ⟨rfl, rfl, none, none, rfl⟩
  rw [h1, h2, h3, List.take_length]
theorem comp_at {p : Int} {ms : List (Int × Int)} (hM : Marks p ms) (x : Int) (g : G) : compL ⟨fun _ i => some (tD ms)[i]?, (tD ms).length⟩ (gTup3 [gSet 0, gSet 1]) (mTest (mOp2 pEq (mVar 0) (mVar 2))) (mOp1 pStr (mVar 1)) ((tD ms).length + 1) 0 [none, none, some (.int x)] g [] = .ok (((cellS ms x).map sI).map .str) g := by
  obtain ⟨xs, σ', g', h1, h2, h3, _⟩ := compL_gen (src := ⟨fun _ i => some (tD ms)[i]?, (tD ms).length⟩) (t := gTup3 [gSet 0, gSet 1]) (c := mTest (mOp2 pEq (mVar 0) (mVar 2))) (e := mOp1 pStr (mVar 1)) (n := ms.length)
    (fun i σ' g1 acc => acc = ((cellS (ms.take i) x).map sI).map .str ∧ g1 = g ∧ ∃ u v, σ' = [u, v, some (.int x)]) (fun i σ' g1 acc hi h => by
      obtain ⟨h1, h2, u, v, h3⟩ := h
      subst h3
      have hs := hM.sg ms[i] (List.getElem_mem hi)
      have e2 : cellS (ms.take (i + 1)) x = cellS (ms.take i) x ++ if ms[i].1 = x then [ms[i].2] else [] := by
        rw [List.take_succ_eq_append_getElem hi]
        unfold cellS
        rw [List.filter_append, List.map_append, List.filter_cons]
        by_cases e : ms[i].1 = x
        · rw [if_pos (decide_eq_true e), if_pos e]; rfl
        · rw [if_neg (fun z => e (of_decide_eq_true z)), if_neg e]; rfl
      refine ⟨.tup [.int ms[i].1, .int ms[i].2], [some (.int ms[i].1), some (.int ms[i].2), some (.int x)], g1, ?_, rfl, ?_⟩
      · show some (tD ms)[i]? = _
        rw [tD_at, List.getElem?_eq_getElem hi]; rfl
      · have ht : mTest (mOp2 pEq (mVar 0) (mVar 2)) [some (.int ms[i].1), some (.int ms[i].2), some (.int x)] g1 = .ok (ms[i].1 == x) g1 := test_ok (op2_ok rfl rfl (eq_int _ _ _))
        by_cases e : ms[i].1 = x
        · refine .inl ⟨.str (sI ms[i].2), g1, ht.trans (by rw [beq_iff_eq.mpr e]), op1_ok rfl (pStr_ok (by omega) (by omega)), ?_, h2, _, _, rfl⟩
          rw [h1, e2, if_pos e, List.map_append, List.map_append]; rfl
        · refine .inr ⟨ht.trans (by rw [beq_eq_false_iff_ne.mpr e]), ?_, h2, _, _, rfl⟩
          rw [h1, e2, if_neg e, List.append_nil]) (fun σ g acc _ => by
      show some (tD ms)[ms.length]? = _
      rw [tD_at, List.getElem?_eq_none (Nat.le_refl _)]; rfl) ((tD ms).length + 1) 0 [none, none, some (.int x)] g [] (by rw [tD, List.length_map]; omega) (by omega) ⟨rfl, rfl, none, none, rfl⟩
  rw [h1, h2, h3, List.take_length]
theorem tD_len {p : Int} {ms : List (Int × Int)} (hM : Marks p ms) : (tD ms).length ≤ SZ := by
  rw [tD, List.length_map]; exact Nat.le_of_lt (sz_lt (Nat.le_trans hM.len (by decide)))
theorem intsD_map (is : List Int) : intsD (is.map D.int) = some is := by
  induction is with
  | nil => rfl
  | cons s r ih => rw [List.map_cons, intsD, ih]; rfl
theorem minZ_some (i : Int) (r : List Int) : ∃ M, minZ (i :: r) = some M := by
  unfold minZ
  cases minZ r <;> exact ⟨_, rfl⟩
theorem maxZ_some (i : Int) (r : List Int) : ∃ M, maxZ (i :: r) = some M := by
  unfold maxZ
  cases maxZ r <;> exact ⟨_, rfl⟩
theorem row_ends {p : Int} {ms : List (Int × Int)} (hM : Marks p ms) : ∃ lo hi, minZ (p :: ms.map (·.1)) = some lo ∧ maxZ (p :: ms.map (·.1)) = some hi ∧ (hi + 1 - lo).toNat ≤ 300 := by
  obtain ⟨lo, h1⟩ := minZ_some p (ms.map (·.1))
  obtain ⟨hi, h2⟩ := maxZ_some p (ms.map (·.1))
  have key : ∀ x ∈ p :: ms.map (·.1), p - 100 ≤ x ∧ x ≤ p + 100 := fun x hx => by
    rcases List.mem_cons.mp hx with e | e
    · omega
    · obtain ⟨m, hm, rfl⟩ := List.mem_map.mp e
      exact hM.nr m hm
  have a := key lo (minZ_mem h1).1
  have b := key hi (maxZ_mem h2).1
  exact ⟨lo, hi, h1, h2, by omega⟩
noncomputable def spots (p : Int) (ms : List (Int × Int)) : List D := (p :: ms.map (·.1)).map .int
theorem minL_ok {n : Nat} {p lo : Int} {ms : List (Int × Int)} {g : G} (h : g[n]? = some (.lst (spots p ms))) (h1 : minZ (p :: ms.map (·.1)) = some lo) : pMinL (.ref n) g = .ok (.int lo) g := by
  unfold pMinL; dsimp only; rw [h]; dsimp only; rw [spots, intsD_map]; dsimp only; rw [h1]
theorem maxL_ok {n : Nat} {p hi : Int} {ms : List (Int × Int)} {g : G} (h : g[n]? = some (.lst (spots p ms))) (h1 : maxZ (p :: ms.map (·.1)) = some hi) : pMaxL (.ref n) g = .ok (.int hi) g := by
  unfold pMaxL; dsimp only; rw [h]; dsimp only; rw [spots, intsD_map]; dsimp only; rw [h1]
theorem rangeB_ok {a b : ME} {i j : Int} {σ : S3} {g g1 g2 : G} (h : a σ g = .ok (.int i) g1) (h2 : b σ g1 = .ok (.int j) g2) : mItRangeB a b σ g = .ok (srcRange i (j - i).toNat) g2 := by
  unfold mItRangeB; rw [h, Res.bind_ok, h2, Res.bind_ok]
theorem row_snoc (st p : Int) (ms : List (Int × Int)) (lo : Int) (i : Nat) : rowL st p ms lo (i + 1) = rowL st p ms lo i ++ [cellT st p ms (lo + i)] := by
  unfold rowL; rw [List.range_succ, List.map_append]; rfl
theorem row_len (st p : Int) (ms : List (Int × Int)) (lo : Int) (i : Nat) : (rowL st p ms lo i).length = i := by simp [rowL]
theorem row_sum {st p : Int} {ms : List (Int × Int)} (hM : Marks p ms) (h0 : 0 ≤ st) (h1 : st < 12) (lo : Int) (i : Nat) : sumL (rowL st p ms lo i) ≤ i * 7 := by
  have := sum_le (ss := rowL st p ms lo i) (b := 7) (fun s hs => by
    obtain ⟨j, _, rfl⟩ := List.mem_map.mp hs
    exact cell_len hM h0 h1 _)
  rwa [row_len] at this
theorem sz_le {n : Nat} (h : n ≤ 10000) : n ≤ SZ := Nat.le_trans h (by decide)
noncomputable def shotD (st p : Int) (ms : List (Int × Int)) : D := .tup [.int st, .int p, .tup (tD ms)]
theorem spots_ok {a b : ME} {σ : S3} {g : G} {p : Int} {ms : List (Int × Int)} (hM : Marks p ms) (ha : ∀ g1, a σ g1 = .ok (.int p) g1) (hb : ∀ g1, b σ g1 = .ok (.tup (tD ms)) g1) :
    mOp2 pAdd (mOpA newL (mCons a mNil)) (mComp (mItSeq b) 2 [] (gTup3 [(gSet 0), (gSet 1)]) mTrue (mVar 0)) σ g = .ok (.ref (g.length + 2)) (g ++ [.lst [.int p]] ++ [.lst (ms.map fun m => .int m.1)] ++ [.lst (spots p ms)]) := by
  have hz := tD_len hM
  have e1 : mOpA newL (mCons a mNil) σ g = .ok (.ref g.length) (g ++ [.lst [.int p]]) := by
    unfold mOpA
    rw [cons_ok (ha g) (show mNil σ g = .ok [] g from rfl), Res.bind_ok]
    exact if_pos (Nat.le_of_lt (sz_lt (show 1 ≤ 1000 by decide)))
  have hit : mItSeq b σ (g ++ [.lst [.int p]]) = .ok ⟨fun _ i => some (tD ms)[i]?, (tD ms).length⟩ (g ++ [.lst [.int p]]) := by
    unfold mItSeq; rw [hb, Res.bind_ok]; rfl
  have e2 := comp_ok (n := 2) (cap := []) (t := gTup3 [gSet 0, gSet 1]) (c := mTrue) (e := mVar 0) (σ0 := [none, none]) hit hz rfl (comp_fst ms (g ++ [.lst [.int p]]))
  refine op2_ok e1 e2 ?_
  have q1 : (g ++ [.lst [.int p]] ++ [.lst (ms.map fun m => D.int m.1)])[g.length]? = some (.lst [.int p]) := (Keeps.push (S := []) _).at' _ _ (by simp) (get_push _)
  have q2 : (g ++ [.lst [.int p]] ++ [.lst (ms.map fun m => D.int m.1)])[(g ++ [GO.lst [.int p]]).length]? = some (.lst (ms.map fun m => D.int m.1)) := get_push _
  unfold pAdd
  dsimp only
  rw [q1, q2]
  dsimp only
  rw [if_pos (by
    rw [List.length_map]
    have := hM.len
    exact sz_le (by simp; omega))]
  have e3 : [D.int p] ++ (ms.map fun m => D.int m.1) = spots p ms := by simp [spots]
  rw [e3]
  simp
theorem spots_at {g : G} {p : Int} {ms : List (Int × Int)} : (g ++ [.lst [.int p]] ++ [.lst (ms.map fun m => .int m.1)] ++ [.lst (spots p ms)])[g.length + 2]? = some (.lst (spots p ms)) := by
  have : g.length + 2 = (g ++ [GO.lst [D.int p]] ++ [GO.lst (ms.map fun m => D.int m.1)]).length := by simp
  rw [this]; exact get_push _
theorem join_ok {n : Nat} {ss : List Str} {g : G} (h : g[n]? = some (.lst (ss.map .str))) (hz : sumL ss + ss.length ≤ 10000) : pJoin (.str (Str.ofString "")) (.ref n) g = .ok (.str (cat ss)) g := by
  unfold pJoin; dsimp only; rw [h]; dsimp only; rw [strsD_map]; dsimp only
  rw [if_pos ⟨by rw [str_nil]; decide, sz_le hz⟩, join_cat]
end L3

end
section
namespace L3
open PySem
theorem ixT {a : ME} {ds : List D} {d : D} {i : Int} {σ : S3} {g : G} (h : a σ g = .ok (.tup ds) g) (hd : atD ds i = some d) : mOp2 pIx a (mLit (.int i)) σ g = .ok d g := op2_ok h rfl (by unfold pIx; dsimp only; rw [hd])
theorem cat5 (a b c d e : Str) : [a, b, c, d, e].foldl (· ++ ·) Str.empty = a ++ b ++ c ++ d ++ e := by
  show Str.empty ++ a ++ b ++ c ++ d ++ e = _
  have : Str.empty ++ a = a := by rw [show Str.empty = Str.ofString "" from str_nil.symm, nil_app]
  rw [this]
theorem drawn_turn {st p : Int} {ms : List (Int × Int)} (hM : Marks p ms) (h0 : 0 ≤ st) (h1 : st < 12) (x0 x4 y7 : Option D) (d c : Nat) (x : Int) (cells : List D) (g : G) (hd : g[d]? = some (.dct (dictOf (mD ms)))) (hc : g[c]? = some (.lst cells)) (hl : cells.length ≤ 1000) :
    b_drawn_l1 [x0, some (.int st), some (.int p), some (.ref d), x4, some (.ref c), some (.int x), y7] g = .nx [x0, some (.int st), some (.int p), some (.ref d), x4, some (.ref c), some (.int x), some (.int (sgn ms x))] (g.set c (.lst (cells ++ [.str (cellT st p ms x)]))) := by
  unfold b_drawn_l1
  refine seq_to [x0, some (.int st), some (.int p), some (.ref d), x4, some (.ref c), some (.int x), some (.int (sgn ms x))] g (asg_ok ?_) ?_
  · unfold mDGet2
    show (Res.ok (D.ref d) g).bind _ = _
    rw [Res.bind_ok]
    dsimp only
    rw [hd]
    dsimp only
    show (Res.ok (D.int x) g).bind _ = _
    rw [Res.bind_ok]
    show (Res.ok (D.int 0) g).bind _ = _
    rw [Res.bind_ok]
    dsimp only
    rw [hd]
    dsimp only
    rw [dict_sgn]
  · refine append_ex rfl hc ?_ (sz_lt hl)
    obtain ⟨s0, s1⟩ := sgn_bd hM x
    have t : mTest (mOp2 pEq (mVar 6) (mVar 2)) [x0, some (.int st), some (.int p), some (.ref d), x4, some (.ref c), some (.int x), some (.int (sgn ms x))] g = .ok (x == p) g := test_ok (op2_ok rfl rfl (eq_int _ _ _))
    unfold mIfE
    rw [t, Res.bind_ok]
    have b1 : (Str.ofString "[").length = 1 := by decide +kernel
    have b2 : (Str.ofString ":").length = 1 := by decide +kernel
    have b3 : (Str.ofString "]").length = 1 := by decide +kernel
    by_cases e : x = p
    · rw [if_pos (beq_iff_eq.mpr e)]
      unfold mCat
      rw [cons_ok (x := .str (Str.ofString "[")) (xs := [.str (sI st), .str (Str.ofString ":"), .str (sI (sgn ms x)), .str (Str.ofString "]")]) (g1 := g) (g2 := g) rfl (cons_ok (g1 := g) (op1_ok (x := .int st) (g1 := g) rfl (pStr_ok h0 h1)) (cons_ok (g1 := g) rfl (cons_ok (g1 := g) (op1_ok (x := .int (sgn ms x)) (g1 := g) rfl (pStr_ok s0 s1)) (cons_ok (g1 := g) rfl rfl))))]
      dsimp only
      unfold pCat
      have hs : strsD [.str (Str.ofString "["), .str (sI st), .str (Str.ofString ":"), .str (sI (sgn ms x)), .str (Str.ofString "]")] = some [Str.ofString "[", sI st, Str.ofString ":", sI (sgn ms x), Str.ofString "]"] := rfl
      rw [hs]
      dsimp only
      have z1 := small_str h0 h1
      have z2 := small_str s0 s1
      have hz : sumL [Str.ofString "[", sI st, Str.ofString ":", sI (sgn ms x), Str.ofString "]"] ≤ SZ := by
        unfold sumL
        simp only [List.map_cons, List.map_nil, List.sum_cons, List.sum_nil, b1, b2, b3]
        exact sz_le (by omega)
      rw [if_pos hz, cat5]
      unfold cellT
      rw [if_pos e]
    · rw [if_neg (fun z => e (beq_iff_eq.mp z))]
      refine (op1_ok (x := .int (sgn ms x)) (g1 := g) rfl (pStr_ok s0 s1)).trans ?_
      unfold cellT
      rw [if_neg e]
theorem drawn_eq {st p : Int} {ms : List (Int × Int)} (hM : Marks p ms) (h0 : 0 ≤ st) (h1 : st < 12) {lo hi : Int} (hlo : minZ (p :: ms.map (·.1)) = some lo) (hhi : maxZ (p :: ms.map (·.1)) = some hi) (hn : (hi + 1 - lo).toNat ≤ 300) (g : G) :
    ∃ g', f_drawn [shotD st p ms] g = .ok (.str (cat (rowL st p ms lo (hi + 1 - lo).toNat))) g' ∧ Keeps [] g g' := by
  -- dict(marks)
  have e3 : mOp1 pDictT (mOp2 pIx (mVar 0) (mLit (.int 2))) [some (shotD st p ms), some (.int st), some (.int p), none, none, none, none, none] g = .ok (.ref g.length) (g ++ [.dct (dictOf (mD ms))]) := by
    refine op1_ok (x := .tup (tD ms)) (g1 := g) (ixT rfl rfl) ?_
    unfold pDictT
    dsimp only
    rw [pairs_tD]
    dsimp only
    exact if_pos (by rw [mD, List.length_map]; exact sz_le (Nat.le_trans hM.len (by decide)))
  have k1 : Keeps [] g (g ++ [.dct (dictOf (mD ms))]) := .push _
  have d1 : (g ++ [.dct (dictOf (mD ms))])[g.length]? = some (.dct (dictOf (mD ms))) := get_push _
  generalize g ++ [.dct (dictOf (mD ms))] = g1 at e3 k1 d1
  have e4 := spots_ok (a := mVar 2) (b := mOp2 pIx (mVar 0) (mLit (.int 2))) (σ := [some (shotD st p ms), some (.int st), some (.int p), some (.ref g.length), none, none, none, none]) (g := g1) hM (fun _ => rfl) (fun g1 => ixT rfl rfl)
  have k2 : Keeps [] g1 (g1 ++ [.lst [.int p]] ++ [.lst (ms.map fun m => .int m.1)] ++ [.lst (spots p ms)]) := (Keeps.push _).trans ((Keeps.push _).trans (Keeps.push _))
  have d2 := spots_at (g := g1) (p := p) (ms := ms)
  generalize g1 ++ [.lst [.int p]] ++ [.lst (ms.map fun m => .int m.1)] ++ [.lst (spots p ms)] = g2 at e4 k2 d2
  generalize g1.length + 2 = pl at e4 d2
  have e5 : mOpA newL mNil [some (shotD st p ms), some (.int st), some (.int p), some (.ref g.length), some (.ref pl), none, none, none] g2 = .ok (.ref g2.length) (g2 ++ [.lst []]) := rfl
  have k3 : Keeps [] g2 (g2 ++ [.lst []]) := .push _
  have d3 : (g2 ++ [.lst []])[g2.length]? = some (.lst []) := get_push _
  have hlt : pl ≠ g2.length := Nat.ne_of_lt (get_lt d2)
  have hlt2 : g.length < g2.length := get_lt (k2.at' _ _ (by simp) d1)
  have dd := k3.at' _ _ (by simp) (k2.at' _ _ (by simp) d1)
  have dp := k3.at' _ _ (by simp) d2
  have hgl : g.length ≤ g2.length := Nat.le_of_lt hlt2
  generalize hcn : g2.length = c at e5 d3 hlt hlt2 hgl
  generalize hg3 : g2 ++ [.lst []] = g3 at e5 k3 d3 dd dp
  have hit : mItRangeB (mOp1 pMinL (mVar 4)) (mOp2 pAdd (mOp1 pMaxL (mVar 4)) (mLit (.int 1))) [some (shotD st p ms), some (.int st), some (.int p), some (.ref g.length), some (.ref pl), some (.ref c), none, none] g3 = .ok (srcRange lo (hi + 1 - lo).toNat) g3 :=
    rangeB_ok (op1_ok (x := .ref pl) (g1 := g3) rfl (minL_ok dp hlo)) (op2_ok (x := .int hi) (y := .int 1) (g1 := g3) (g2 := g3) (op1_ok (x := .ref pl) (g1 := g3) rfl (maxL_ok dp hhi)) rfl rfl)
  obtain ⟨σ', g', e6, y6, y7, r1, r2, r3⟩ := for_range (t := gSet 6) (body := b_drawn_l1) (lo := lo) (n := (hi + 1 - lo).toNat) (σ := [some (shotD st p ms), some (.int st), some (.int p), some (.ref g.length), some (.ref pl), some (.ref c), none, none]) (g := g3)
    (fun i σ g4 => ∃ y6 y7, σ = [some (shotD st p ms), some (.int st), some (.int p), some (.ref g.length), some (.ref pl), some (.ref c), y6, y7] ∧ Keeps [c] g3 g4 ∧ g4[c]? = some (.lst ((rowL st p ms lo i).map .str))) ⟨none, none, rfl, .refl, d3⟩ (fun i σ g4 hi' hQ => by
      obtain ⟨y6, y7, r1, r2, r3⟩ := hQ
      subst r1
      refine ⟨_, _, _, rfl, drawn_turn hM h0 h1 (some (shotD st p ms)) (some (.ref pl)) y7 g.length c (lo + i) _ g4 (r2.at' _ _ (fun z => by have := List.mem_singleton.mp z; omega) dd) r3 (by rw [List.length_map, row_len]; omega), _, _, rfl, r2.trans (.set _ _), ?_⟩
      rw [get_set r3, row_snoc, List.map_append]; rfl)
  subst r1
  have kk : Keeps [] g g' := (k1.trans k2).trans ⟨Nat.le_trans k3.len r2.len, fun n o _ h => r2.at' n o (fun z => by have := List.mem_singleton.mp z; have := get_lt h; omega) (k3.at' n o (by simp) h)⟩
  refine ⟨g', def_rt rfl ?_, kk⟩
  show b_drawn [some (shotD st p ms), none, none, none, none, none, none, none] g = _
  unfold b_drawn
  refine seq_to [some (shotD st p ms), some (.int st), none, none, none, none, none, none] g (asg_ok (ixT rfl rfl)) ?_
  refine seq_to [some (shotD st p ms), some (.int st), some (.int p), none, none, none, none, none] g (asg_ok (ixT rfl rfl)) ?_
  refine seq_to [some (shotD st p ms), some (.int st), some (.int p), some (.ref g.length), none, none, none, none] g1 (asg_ok e3) ?_
  refine seq_to [some (shotD st p ms), some (.int st), some (.int p), some (.ref g.length), some (.ref pl), none, none, none] g2 (asg_ok e4) ?_
  refine seq_to [some (shotD st p ms), some (.int st), some (.int p), some (.ref g.length), some (.ref pl), some (.ref c), none, none] g3 (asg_ok e5) ?_
  refine seq_to _ g' ((for_ok hit).trans e6) ?_
  refine ret_ok (smOk (s := Str.ofString "") (y := .ref c) (g1 := g') (g2 := g') rfl rfl (join_ok r3 ?_))
  have := row_sum hM h0 h1 lo (hi + 1 - lo).toNat
  rw [row_len]; omega
end L3

end
section
namespace L3
open PySem
theorem addS {s t : Str} {g : G} (h : s.length + t.length ≤ 10000) : pAdd (.str s) (.str t) g = .ok (.str (s ++ t)) g := if_pos (sz_le h)
theorem L_drawn_turn {st p : Int} {ms : List (Int × Int)} (hM : Marks p ms) (h0 : 0 ≤ st) (h1 : st < 12) (x0 x4 y7 : Option D) (x : Int) (txt : Str) (g : G) (hl : txt.length ≤ 3000) :
    ∃ y g', b_L_drawn_l1 [x0, some (.int st), some (.int p), some (.tup (tD ms)), x4, some (.str txt), some (.int x), y7] g = .nx [x0, some (.int st), some (.int p), some (.tup (tD ms)), x4, some (.str (txt ++ cellT st p ms x)), some (.int x), y] g' ∧ Keeps [] g g' := by
  obtain ⟨s0, s1⟩ := sgn_bd hM x
  have z1 := small_str h0 h1
  have z2 := small_str s0 s1
  have hz := tD_len hM
  have hit : mItSeq (mVar 3) [x0, some (.int st), some (.int p), some (.tup (tD ms)), x4, some (.str txt), some (.int x), y7] g = .ok ⟨fun _ i => some (tD ms)[i]?, (tD ms).length⟩ g := rfl
  have e2 := comp_ok (n := 2) (cap := [6]) (t := gTup3 [gSet 0, gSet 1]) (c := mTest (mOp2 pEq (mVar 0) (mVar 2))) (e := mOp1 pStr (mVar 1)) (σ0 := [none, none, some (.int x)]) hit hz rfl (comp_at hM x g)
  have kp : Keeps [] g (g ++ [.lst (((cellS ms x).map sI).map .str)]) := .push _
  have dp : (g ++ [.lst (((cellS ms x).map sI).map D.str)])[g.length]? = some (.lst (((cellS ms x).map sI).map .str)) := get_push _
  generalize g ++ [.lst (((cellS ms x).map sI).map D.str)] = g1 at e2 kp dp
  have e3 : mSM pJoin (mLit (.str (Str.ofString ""))) (mComp (mItSeq (mVar 3)) 2 [6] (gTup3 [(gSet 0), (gSet 1)]) (mTest (mOp2 pEq (mVar 0) (mVar 2))) (mOp1 pStr (mVar 1))) [x0, some (.int st), some (.int p), some (.tup (tD ms)), x4, some (.str txt), some (.int x), y7] g = .ok (.str (cat ((cellS ms x).map sI))) g1 := by
    refine smOk (s := Str.ofString "") (g1 := g) rfl e2 (join_ok dp ?_)
    rcases cell_one hM x with e | ⟨s, e, q1, q2⟩ <;> rw [e]
    · decide
    · have := small_str (i := s) (by omega) (by omega)
      show ([sI s].map (·.length)).sum + 1 ≤ 10000
      simp; omega
  have e4 : mSeq (mAsg (gSet 7) (mSM pJoin (mLit (.str (Str.ofString ""))) (mComp (mItSeq (mVar 3)) 2 [6] (gTup3 [(gSet 0), (gSet 1)]) (mTest (mOp2 pEq (mVar 0) (mVar 2))) (mOp1 pStr (mVar 1)))))
      (mIf (mTest (mOp2 pEq (mVar 7) (mLit (.str (Str.ofString ""))))) (mAsg (gSet 7) (mLit (.str (Str.ofString "0")))) mSkip) [x0, some (.int st), some (.int p), some (.tup (tD ms)), x4, some (.str txt), some (.int x), y7] g = .nx [x0, some (.int st), some (.int p), some (.tup (tD ms)), x4, some (.str txt), some (.int x), some (.str (sI (sgn ms x)))] g1 := by
    refine seq_to [x0, some (.int st), some (.int p), some (.tup (tD ms)), x4, some (.str txt), some (.int x), some (.str (cat ((cellS ms x).map sI)))] g1 (asg_ok e3) ?_
    have t : mTest (mOp2 pEq (mVar 7) (mLit (.str (Str.ofString "")))) [x0, some (.int st), some (.int p), some (.tup (tD ms)), x4, some (.str txt), some (.int x), some (.str (cat ((cellS ms x).map sI)))] g1 = .ok (cat ((cellS ms x).map sI) == Str.ofString "") g1 := test_ok (op2_ok rfl rfl (eq_str _ _ _))
    unfold sgn
    rcases cell_one hM x with e | ⟨s, e, q1, q2⟩ <;> rw [e] at t ⊢
    · refine ift g1 (t.trans (by rw [show cat (List.map sI []) = Str.ofString "" from rfl, beq_self_eq_true])) ?_
      rw [show (([] : List Int).getLast?.getD 0) = 0 from rfl, str_0]; rfl
    · have ec : cat ([s].map sI) = sI s := nil_app _
      rw [ec] at t ⊢
      exact iff' g1 (t.trans (by rw [str_ne (by omega) (by omega)])) rfl
  have b1 : (Str.ofString "[").length = 1 := by decide +kernel
  have b2 : (Str.ofString ":").length = 1 := by decide +kernel
  have b3 : (Str.ofString "]").length = 1 := by decide +kernel
  have e5 : mIf (mTest (mOp2 pEq (mVar 6) (mVar 2))) (mAsg (gSet 7) (mOp2 pAdd (mOp2 pAdd (mOp2 pAdd (mOp2 pAdd (mLit (.str (Str.ofString "["))) (mOp1 pStr (mVar 1))) (mLit (.str (Str.ofString ":")))) (mVar 7)) (mLit (.str (Str.ofString "]"))))) mSkip [x0, some (.int st), some (.int p), some (.tup (tD ms)), x4, some (.str txt), some (.int x), some (.str (sI (sgn ms x)))] g1 = .nx [x0, some (.int st), some (.int p), some (.tup (tD ms)), x4, some (.str txt), some (.int x), some (.str (cellT st p ms x))] g1 := by
    have t : mTest (mOp2 pEq (mVar 6) (mVar 2)) [x0, some (.int st), some (.int p), some (.tup (tD ms)), x4, some (.str txt), some (.int x), some (.str (sI (sgn ms x)))] g1 = .ok (x == p) g1 := test_ok (op2_ok rfl rfl (eq_int _ _ _))
    unfold cellT
    by_cases e : x = p
    · rw [if_pos e]
      refine ift g1 (t.trans (by rw [beq_iff_eq.mpr e])) (asg_ok ?_)
      refine op2_ok (x := .str (Str.ofString "[" ++ sI st ++ Str.ofString ":" ++ sI (sgn ms x))) (y := .str (Str.ofString "]")) (g1 := g1) (g2 := g1) ?_ rfl (addS (by rw [len_app, len_app, len_app, b1, b2, b3]; omega))
      refine op2_ok (x := .str (Str.ofString "[" ++ sI st ++ Str.ofString ":")) (y := .str (sI (sgn ms x))) (g1 := g1) (g2 := g1) ?_ rfl (addS (by rw [len_app, len_app, b1, b2]; omega))
      refine op2_ok (x := .str (Str.ofString "[" ++ sI st)) (y := .str (Str.ofString ":")) (g1 := g1) (g2 := g1) ?_ rfl (addS (by rw [len_app, b1, b2]; omega))
      exact op2_ok (x := .str (Str.ofString "[")) (y := .str (sI st)) (g1 := g1) (g2 := g1) rfl (op1_ok (x := .int st) (g1 := g1) rfl (pStr_ok h0 h1)) (addS (by rw [b1]; omega))
    · rw [if_neg e]
      exact iff' g1 (t.trans (by rw [beq_eq_false_iff_ne.mpr e])) rfl
  have cl := cell_len hM h0 h1 x
  refine ⟨some (.str (cellT st p ms x)), g1, ?_, kp⟩
  unfold b_L_drawn_l1
  have e4' : ∀ R : MS, mSeq (mAsg (gSet 7) (mSM pJoin (mLit (.str (Str.ofString ""))) (mComp (mItSeq (mVar 3)) 2 [6] (gTup3 [(gSet 0), (gSet 1)]) (mTest (mOp2 pEq (mVar 0) (mVar 2))) (mOp1 pStr (mVar 1)))))
      (mSeq (mIf (mTest (mOp2 pEq (mVar 7) (mLit (.str (Str.ofString ""))))) (mAsg (gSet 7) (mLit (.str (Str.ofString "0")))) mSkip) R) [x0, some (.int st), some (.int p), some (.tup (tD ms)), x4, some (.str txt), some (.int x), y7] g = R [x0, some (.int st), some (.int p), some (.tup (tD ms)), x4, some (.str txt), some (.int x), some (.str (sI (sgn ms x)))] g1 := fun R => by
    have q : mAsg (gSet 7) (mSM pJoin (mLit (.str (Str.ofString ""))) (mComp (mItSeq (mVar 3)) 2 [6] (gTup3 [(gSet 0), (gSet 1)]) (mTest (mOp2 pEq (mVar 0) (mVar 2))) (mOp1 pStr (mVar 1)))) [x0, some (.int st), some (.int p), some (.tup (tD ms)), x4, some (.str txt), some (.int x), y7] g = .nx [x0, some (.int st), some (.int p), some (.tup (tD ms)), x4, some (.str txt), some (.int x), some (.str (cat ((cellS ms x).map sI)))] g1 := asg_ok e3
    rw [seq_nx q] at e4 ⊢
    exact seq_nx e4
  rw [e4', seq_nx e5]
  exact asg_ok (op2_ok (x := .str txt) (y := .str (cellT st p ms x)) (g1 := g1) (g2 := g1) rfl rfl (addS (by omega)))
theorem L_drawn_eq {st p : Int} {ms : List (Int × Int)} (hM : Marks p ms) (h0 : 0 ≤ st) (h1 : st < 12) {lo hi : Int} (hlo : minZ (p :: ms.map (·.1)) = some lo) (hhi : maxZ (p :: ms.map (·.1)) = some hi) (hn : (hi + 1 - lo).toNat ≤ 300) (g : G) :
    ∃ g', f_L_drawn [shotD st p ms] g = .ok (.str (cat (rowL st p ms lo (hi + 1 - lo).toNat))) g' ∧ Keeps [] g g' := by
  have e4 := spots_ok (a := mVar 2) (b := mVar 3) (σ := [some (shotD st p ms), some (.int st), some (.int p), some (.tup (tD ms)), none, none, none, none]) (g := g) hM (fun _ => rfl) (fun g1 => rfl)
  have k2 : Keeps [] g (g ++ [.lst [.int p]] ++ [.lst (ms.map fun m => .int m.1)] ++ [.lst (spots p ms)]) := (Keeps.push _).trans ((Keeps.push _).trans (Keeps.push _))
  have d2 := spots_at (g := g) (p := p) (ms := ms)
  generalize g ++ [.lst [.int p]] ++ [.lst (ms.map fun m => .int m.1)] ++ [.lst (spots p ms)] = g2 at e4 k2 d2
  generalize g.length + 2 = pl at e4 d2
  have hit : mItRangeB (mOp1 pMinL (mVar 4)) (mOp2 pAdd (mOp1 pMaxL (mVar 4)) (mLit (.int 1))) [some (shotD st p ms), some (.int st), some (.int p), some (.tup (tD ms)), some (.ref pl), some (.str (Str.ofString "")), none, none] g2 = .ok (srcRange lo (hi + 1 - lo).toNat) g2 :=
    rangeB_ok (op1_ok (x := .ref pl) (g1 := g2) rfl (minL_ok d2 hlo)) (op2_ok (x := .int hi) (y := .int 1) (g1 := g2) (g2 := g2) (op1_ok (x := .ref pl) (g1 := g2) rfl (maxL_ok d2 hhi)) rfl rfl)
  obtain ⟨σ', g', e6, y6, y7, r1, r2⟩ := for_range (t := gSet 6) (body := b_L_drawn_l1) (lo := lo) (n := (hi + 1 - lo).toNat) (σ := [some (shotD st p ms), some (.int st), some (.int p), some (.tup (tD ms)), some (.ref pl), some (.str (Str.ofString "")), none, none]) (g := g2)
    (fun i σ g4 => ∃ y6 y7, σ = [some (shotD st p ms), some (.int st), some (.int p), some (.tup (tD ms)), some (.ref pl), some (.str (cat (rowL st p ms lo i))), y6, y7] ∧ Keeps [] g2 g4) ⟨none, none, rfl, .refl⟩ (fun i σ g4 hi' hQ => by
      obtain ⟨y6, y7, r1, r2⟩ := hQ
      subst r1
      have hs := row_sum hM h0 h1 lo i
      obtain ⟨y, g5, e5, k5⟩ := L_drawn_turn hM h0 h1 (some (shotD st p ms)) (some (.ref pl)) y7 (lo + i) (cat (rowL st p ms lo i)) g4 (by rw [len_cat]; omega)
      exact ⟨_, _, _, rfl, e5, _, _, by rw [row_snoc, cat_snoc], r2.trans k5⟩)
  subst r1
  refine ⟨g', def_rt rfl ?_, k2.trans r2⟩
  show b_L_drawn [some (shotD st p ms), none, none, none, none, none, none, none] g = _
  unfold b_L_drawn
  refine seq_to [some (shotD st p ms), some (.int st), some (.int p), some (.tup (tD ms)), none, none, none, none] g rfl ?_
  refine seq_to [some (shotD st p ms), some (.int st), some (.int p), some (.tup (tD ms)), some (.ref pl), none, none, none] g2 (asg_ok e4) ?_
  refine seq_to [some (shotD st p ms), some (.int st), some (.int p), some (.tup (tD ms)), some (.ref pl), some (.str (Str.ofString "")), none, none] g2 rfl ?_
  exact seq_to _ g' ((for_ok hit).trans e6) (ret_ok rfl)
end L3

end
section
namespace L3
open PySem
theorem pow_ok {i j : Int} {g : G} (h : cP i j) : pPow (.int i) (.int j) g = .ok (.int (i ^ j.toNat)) g := if_pos h
theorem divB {i j : Int} {g : G} (h : 0 < j) (h2 : j.natAbs.log2 < 9000) : pFdivB (.int i) (.int j) g = .ok (.int (i / j)) g := if_pos ⟨h, h2⟩
theorem place_ok (x0 x1 x4 x5 x6 x7 x8 : Option D) (c m : Int) (g : G) : ∃ p o, mOp2 pFdivB (mOp2 pAdd (mOp2 pSub (mOp2 pMod (mVar 2) (mOp2 pSub (mOp2 pMul (mLit (.int 2)) (mOp2 pPow (mLit (.int 10)) (mLit (.int 59)))) (mLit (.int 1)))) (mOp2 pPow (mLit (.int 10)) (mLit (.int 59)))) (mLit (.int 1))) (mOp2 pIx (mOpA newL (mCons (mLit (.int 1)) (mCons (mOp2 pPow (mLit (.int 10)) (mLit (.int 57))) mNil))) (mOp2 pMod (mVar 3) (mLit (.int 2)))) [x0, x1, some (.int c), some (.int m), x4, x5, x6, x7, x8] g = .ok (.int p) (g ++ [o]) := by
  have hp : ∀ g1 : G, mOp2 pPow (mLit (.int 10)) (mLit (.int 59)) [x0, x1, some (.int c), some (.int m), x4, x5, x6, x7, x8] g1 = .ok (.int (10 ^ (59 : Int).toNat)) g1 := fun g1 => op2_ok rfl rfl (pow_ok (by decide))
  have hp2 : ∀ g1 : G, mOp2 pPow (mLit (.int 10)) (mLit (.int 57)) [x0, x1, some (.int c), some (.int m), x4, x5, x6, x7, x8] g1 = .ok (.int (10 ^ (57 : Int).toNat)) g1 := fun g1 => op2_ok rfl rfl (pow_ok (by decide))
  have e1 : mOp2 pMod (mVar 2) (mOp2 pSub (mOp2 pMul (mLit (.int 2)) (mOp2 pPow (mLit (.int 10)) (mLit (.int 59)))) (mLit (.int 1))) [x0, x1, some (.int c), some (.int m), x4, x5, x6, x7, x8] g = .ok (.int (c % (2 * 10 ^ (59 : Int).toNat - 1))) g :=
    op2_ok (x := .int c) (g1 := g) rfl (op2_ok (x := .int (2 * 10 ^ (59 : Int).toNat)) (y := .int 1) (g1 := g) (g2 := g) (op2_ok (g1 := g) rfl (hp g) (mulL (by decide))) rfl rfl) (modP (by decide +kernel))
  have e2 : mOp2 pAdd (mOp2 pSub (mOp2 pMod (mVar 2) (mOp2 pSub (mOp2 pMul (mLit (.int 2)) (mOp2 pPow (mLit (.int 10)) (mLit (.int 59)))) (mLit (.int 1)))) (mOp2 pPow (mLit (.int 10)) (mLit (.int 59)))) (mLit (.int 1)) [x0, x1, some (.int c), some (.int m), x4, x5, x6, x7, x8] g = .ok (.int (c % (2 * 10 ^ (59 : Int).toNat - 1) - 10 ^ (59 : Int).toNat + 1)) g :=
    op2_ok (g1 := g) (op2_ok e1 (hp g) rfl) rfl rfl
  generalize c % (2 * 10 ^ (59 : Int).toNat - 1) - 10 ^ (59 : Int).toNat + 1 = A at e2
  have e3 : mOpA newL (mCons (mLit (.int 1)) (mCons (mOp2 pPow (mLit (.int 10)) (mLit (.int 57))) mNil)) [x0, x1, some (.int c), some (.int m), x4, x5, x6, x7, x8] g = .ok (.ref g.length) (g ++ [.lst [.int 1, .int (10 ^ (57 : Int).toNat)]]) := by
    unfold mOpA
    rw [cons_ok (x := .int 1) (g1 := g) rfl (cons_ok (hp2 g) (show mNil _ g = .ok [] g from rfl)), Res.bind_ok]
    exact if_pos (Nat.le_of_lt (sz_lt (show 2 ≤ 1000 by decide)))
  have q : ∃ j : Int, atD [D.int 1, .int (10 ^ (57 : Int).toNat)] (m % 2) = some (.int j) ∧ 0 < j ∧ j.natAbs.log2 < 9000 := by
    rcases (by omega : m % 2 = 0 ∨ m % 2 = 1) with e | e <;> rw [e]
    · exact ⟨1, rfl, by decide, by decide⟩
    · exact ⟨10 ^ (57 : Int).toNat, rfl, by decide +kernel, by decide +kernel⟩
  obtain ⟨j, j1, j2, j3⟩ := q
  refine ⟨A / j, .lst [.int 1, .int (10 ^ (57 : Int).toNat)], op2_ok e2 (op2_ok (y := .int (m % 2)) (g2 := g ++ [.lst [.int 1, .int (10 ^ (57 : Int).toNat)]]) (R := .ok (.int j) (g ++ [.lst [.int 1, .int (10 ^ (57 : Int).toNat)]])) e3 (op2_ok rfl rfl (modP (by decide))) ?_) (divB j2 j3)⟩
  unfold pIx; dsimp only; rw [get_push]; dsimp only; rw [j1]
structure Mk (p : Int) (ms : List (Int × Int)) (spot : Int) : Prop where
  up : ms.Pairwise fun a b => a.1 < b.1
  sg : ∀ m ∈ ms, 1 ≤ m.2 ∧ m.2 ≤ 7
  nr : ∀ m ∈ ms, p - 11 ≤ m.1 ∧ m.1 < spot
  lo : p - 11 ≤ spot
  hi : spot ≤ p + 7 * ms.length
theorem Mk.marks {p spot : Int} {ms : List (Int × Int)} (h : Mk p ms spot) (hl : ms.length ≤ 8) : Marks p ms := ⟨h.up, h.sg, fun m hm => by have := h.nr m hm; have := h.hi; omega, hl⟩
theorem Mk.snoc {p spot s d : Int} {ms : List (Int × Int)} (h : Mk p ms spot) (h1 : 1 ≤ s) (h2 : s ≤ 7) (d1 : 0 ≤ d) (d2 : d ≤ 6) : Mk p (ms ++ [(spot, s)]) (spot + 1 + d) := by
  refine ⟨?_, fun m hm => ?_, fun m hm => ?_, by have := h.lo; omega, by have := h.hi; rw [List.length_append]; simp; omega⟩
  · rw [List.pairwise_append]
    refine ⟨h.up, by simp, fun a ha b hb => ?_⟩
    rw [List.mem_singleton.mp hb]; exact (h.nr a ha).2
  · rcases List.mem_append.mp hm with z | z
    · exact h.sg m z
    · rw [List.mem_singleton.mp z]; exact ⟨h1, h2⟩
  · rcases List.mem_append.mp hm with z | z
    · have := h.nr m z; omega
    · rw [List.mem_singleton.mp z]; have := h.lo; exact ⟨this, by show spot < _; omega⟩
theorem skip_bd (n : Int) : 0 ≤ n / 7 % 4 * (n / 28 % 3) ∧ n / 7 % 4 * (n / 28 % 3) ≤ 6 := by
  have a1 := Int.emod_nonneg (n / 7) (show (4 : Int) ≠ 0 by decide)
  have a2 := Int.emod_lt_of_pos (n / 7) (show (0 : Int) < 4 by decide)
  have b1 := Int.emod_nonneg (n / 28) (show (3 : Int) ≠ 0 by decide)
  have b2 := Int.emod_lt_of_pos (n / 28) (show (0 : Int) < 3 by decide)
  refine ⟨Int.mul_nonneg a1 b1, ?_⟩
  have : n / 7 % 4 * (n / 28 % 3) ≤ 3 * 2 := Int.mul_le_mul (by omega) (by omega) b1 (by decide)
  omega
theorem shot_eq (ns : List Int) (a : Nat) (k c : Int) (g : G) (ga : g[a]? = some (.lst [.int k])) (hk : 0 ≤ k) (hk2 : k < 100000) :
    ∃ st p ms g' k', f_L_shot_by [.fl (ns.map .int), .ref a, .int c] g = .ok (shotD st p ms) g' ∧ 0 ≤ st ∧ st < 12 ∧ Marks p ms ∧ g'[a]? = some (.lst [.int k']) ∧ k ≤ k' ∧ k' ≤ k + 10 ∧ Keeps [a] g g' := by
  obtain ⟨m, m0, m1, e1⟩ := next_eq ns a k g ga hk (by omega)
  have ga1 : (g.set a (.lst [.int (k + 1)]))[a]? = some (.lst [.int (k + 1)]) := get_set ga
  have k1 : Keeps [a] g (g.set a (.lst [.int (k + 1)])) := .set a _
  generalize g.set a (.lst [.int (k + 1)]) = g1 at e1 ga1 k1
  obtain ⟨p, o, e2⟩ := place_ok (some (.fl (ns.map .int))) (some (.ref a)) none none none none none c m g1
  have k2 : Keeps [] g1 (g1 ++ [o]) := .push _
  have ga2 := k2.at' _ _ (by simp) ga1
  generalize g1 ++ [o] = g2 at e2 k2 ga2
  have k3 : Keeps [] g2 (g2 ++ [.lst []]) := .push _
  have d3 : (g2 ++ [.lst []])[g2.length]? = some (.lst []) := get_push _
  have e3 : mAsg (gSet 6) (mOpA newL mNil) [some (.fl (ns.map .int)), some (.ref a), some (.int c), some (.int m), some (.int p), some (.int (p - m / 2 % 12)), none, none, none] g2 = .nx [some (.fl (ns.map .int)), some (.ref a), some (.int c), some (.int m), some (.int p), some (.int (p - m / 2 % 12)), some (.ref g2.length), none, none] (g2 ++ [.lst []]) := asg_ok (d := .ref g2.length) rfl
  have ga3 := k3.at' _ _ (by simp) ga2
  have hal : a < g2.length := get_lt ga2
  have hgl : g.length ≤ g2.length := Nat.le_trans k1.len k2.len
  generalize hl : g2.length = l at e3 d3 hal hgl
  generalize g2 ++ [.lst []] = g3 at e3 k3 d3 ga3
  have hcn : ∃ cn : Nat, m / 24 % 8 = cn ∧ cn ≤ 7 := ⟨(m / 24 % 8).toNat, by omega, by omega⟩
  obtain ⟨cn, hc1, hc2⟩ := hcn
  have hit : mItRange1 (mOp2 pMod (mOp2 pFdiv (mVar 3) (mLit (.int 24))) (mLit (.int 8))) [some (.fl (ns.map .int)), some (.ref a), some (.int c), some (.int m), some (.int p), some (.int (p - m / 2 % 12)), some (.ref l), none, none] g3 = .ok (srcRange 0 cn) g3 :=
    range1_ok (op2_ok (x := .int (m / 24)) (y := .int 8) (g1 := g3) (g2 := g3) (op2_ok rfl rfl (divP (by decide) (by decide))) rfl (by rw [modP (by decide), hc1])) (inR_of (by omega))
  obtain ⟨σ', g', e6, ms, spot, y7, y8, r1, r2, r3, r4, r5, r6⟩ := for_range (t := gSet 7) (body := b_L_shot_by_l1) (lo := 0) (n := cn) (σ := [some (.fl (ns.map .int)), some (.ref a), some (.int c), some (.int m), some (.int p), some (.int (p - m / 2 % 12)), some (.ref l), none, none]) (g := g3)
    (fun i σ g4 => ∃ ms spot y7 y8, σ = [some (.fl (ns.map .int)), some (.ref a), some (.int c), some (.int m), some (.int p), some (.int spot), some (.ref l), y7, y8] ∧ ms.length = i ∧ Mk p ms spot ∧ Keeps [a, l] g3 g4 ∧ g4[a]? = some (.lst [.int (k + 1 + i)]) ∧ g4[l]? = some (.lst (tD ms)))
    ⟨[], _, none, none, rfl, rfl, ⟨.nil, by simp, by simp, by omega, by simp; omega⟩, .refl, by simpa using ga3, d3⟩ (fun i σ g4 hi' hQ => by
      obtain ⟨ms, spot, y7, y8, r1, r2, r3, r4, r5, r6⟩ := hQ
      subst r1
      obtain ⟨n, n0, n1, e7⟩ := next_eq ns a (k + 1 + i) g4 r5 (by omega) (by omega)
      have ga5 : (g4.set a (.lst [.int (k + 1 + i + 1)]))[a]? = some (.lst [.int (k + 1 + i + 1)]) := get_set r5
      have k5 : Keeps [a] g4 (g4.set a (.lst [.int (k + 1 + i + 1)])) := .set a _
      generalize g4.set a (.lst [.int (k + 1 + i + 1)]) = g5 at e7 ga5 k5
      have gl5 := k5.at' l _ (fun z => by have := List.mem_singleton.mp z; omega) r6
      obtain ⟨b1, b2⟩ := skip_bd n
      refine ⟨_, [some (.fl (ns.map .int)), some (.ref a), some (.int c), some (.int m), some (.int p), some (.int (spot + 1 + n / 7 % 4 * (n / 28 % 3))), some (.ref l), some (.int (0 + i)), some (.int n)], g5.set l (.lst (tD ms ++ [.tup [.int spot, .int (1 + n % 7)]])), rfl, ?_, ms ++ [(spot, 1 + n % 7)], _, _, _, rfl, by simp [r2], r3.snoc (by omega) (by omega) b1 b2, r4.trans ((k5.mono (by simp)).trans ((Keeps.set l _).mono (by simp))), ?_, ?_⟩
      · show b_L_shot_by_l1 [some (.fl (ns.map .int)), some (.ref a), some (.int c), some (.int m), some (.int p), some (.int spot), some (.ref l), some (.int (0 + i)), y8] g4 = _
        unfold b_L_shot_by_l1
        refine seq_to [some (.fl (ns.map .int)), some (.ref a), some (.int c), some (.int m), some (.int p), some (.int spot), some (.ref l), some (.int (0 + i)), some (.int n)] g5 (asg_ok (by rw [call_ok (ds := [.fl (ns.map .int), .ref a]) (g' := g4) rfl]; exact e7)) ?_
        refine seq_to [some (.fl (ns.map .int)), some (.ref a), some (.int c), some (.int m), some (.int p), some (.int spot), some (.ref l), some (.int (0 + i)), some (.int n)] (g5.set l (.lst (tD ms ++ [.tup [.int spot, .int (1 + n % 7)]]))) (append_ex rfl gl5 ?_ (sz_lt (by rw [tD, List.length_map]; omega))) ?_
        · unfold mOpA
          rw [cons_ok (x := .int spot) (xs := [.int (1 + n % 7)]) (g1 := g5) (g2 := g5) rfl (cons_ok (g1 := g5) (op2_ok (x := .int 1) (y := .int (n % 7)) (g1 := g5) (g2 := g5) rfl (op2_ok rfl rfl (modP (by decide))) rfl) rfl), Res.bind_ok]
          exact if_pos (Nat.le_of_lt (sz_lt (show 2 ≤ 1000 by decide)))
        · generalize g5.set l (.lst (tD ms ++ [.tup [.int spot, .int (1 + n % 7)]])) = g6
          exact asg_ok (op2_ok (x := .int (spot + 1)) (y := .int (n / 7 % 4 * (n / 28 % 3))) (g1 := g6) (g2 := g6) (op2_ok rfl rfl rfl) (op2_ok (x := .int (n / 7 % 4)) (y := .int (n / 28 % 3)) (g1 := g6) (g2 := g6) (op2_ok (x := .int (n / 7)) (g1 := g6) (op2_ok rfl rfl (divP (by decide) (by decide))) rfl (modP (by decide))) (op2_ok (x := .int (n / 28)) (g1 := g6) (op2_ok rfl rfl (divP (by decide) (by decide))) rfl (modP (by decide))) (mulL (cM_small (by omega) (by omega)))) rfl)
      · rw [List.getElem?_set_ne (by omega), ga5]
        simp; omega
      · rw [get_set gl5, tD, tD, List.map_append]; rfl)
  subst r1
  have kk : Keeps [a] g g' := ⟨by have := k3.len; have := r4.len; omega, fun n o hn h => by
    have hlt := get_lt h
    exact r4.at' n o (fun z => by
      rcases List.mem_cons.mp z with z | z
      · exact hn (by simp [z])
      · have := List.mem_singleton.mp z; omega) (k3.at' n o (by simp) (k2.at' n o (by simp) (k1.at' n o hn h)))⟩
  refine ⟨m / 200 % 12, p, ms, g', k + 1 + cn, def_rt rfl ?_, by omega, by omega, r3.marks (by omega), r5, by omega, by omega, kk⟩
  show b_L_shot_by [some (.fl (ns.map .int)), some (.ref a), some (.int c), none, none, none, none, none, none] g = _
  unfold b_L_shot_by
  refine seq_to [some (.fl (ns.map .int)), some (.ref a), some (.int c), some (.int m), none, none, none, none, none] g1 (asg_ok (by rw [call_ok (ds := [.fl (ns.map .int), .ref a]) (g' := g) rfl]; exact e1)) ?_
  refine seq_to [some (.fl (ns.map .int)), some (.ref a), some (.int c), some (.int m), some (.int p), none, none, none, none] g2 (asg_ok e2) ?_
  refine seq_to [some (.fl (ns.map .int)), some (.ref a), some (.int c), some (.int m), some (.int p), some (.int (p - m / 2 % 12)), none, none, none] g2 (asg_ok (op2_ok (x := .int p) (y := .int (m / 2 % 12)) (g1 := g2) (g2 := g2) rfl (op2_ok (x := .int (m / 2)) (g1 := g2) (op2_ok rfl rfl (divP (by decide) (by decide))) rfl (modP (by decide))) rfl)) ?_
  refine seq_to _ g3 e3 ?_
  refine seq_to _ g' ((for_ok hit).trans e6) ?_
  refine ret_ok ?_
  unfold mOpA
  rw [cons_ok (x := .int (m / 200 % 12)) (xs := [.int p, .tup (tD ms)]) (g1 := g') (g2 := g') (op2_ok (x := .int (m / 200)) (g1 := g') (op2_ok rfl rfl (divP (by decide) (by decide))) rfl (modP (by decide))) (cons_ok (g1 := g') rfl (cons_ok (g1 := g') (op1_ok (x := .ref l) (g1 := g') rfl (by unfold pTuple; dsimp only; rw [r6])) rfl)), Res.bind_ok]
  exact if_pos (Nat.le_of_lt (sz_lt (show 3 ≤ 1000 by decide)))
end L3

end
section
namespace L3
open PySem
theorem enum_src {n : Nat} {ds : List D} {g : G} (h : g[n]? = some (.lst ds)) : ∃ src, srcEnum (.ref n) g = .ok src g ∧ src.top = ds.length ∧ (∀ i x, ds[i]? = some x → src.at' g i = some (some (.tup [.int i, x]))) ∧ src.at' g ds.length = some none := by
  have hs : seqOf g (.ref n) = some (true, ds) := by unfold seqOf; dsimp only; rw [h]
  unfold srcEnum
  rw [hs]
  refine ⟨_, rfl, rfl, fun i x hx => ?_, ?_⟩
  · dsimp only; rw [hs]; dsimp only; rw [hx]
  · dsimp only; rw [hs]; dsimp only; rw [List.getElem?_eq_none (Nat.le_refl _)]
theorem comp_third {src : Src} {is : List Int} {g : G} (ht : src.top = is.length) (h1 : ∀ (i : Nat) (x : D), (is.map D.int)[i]? = some x → src.at' g i = some (some (.tup [.int i, x]))) (h2 : src.at' g is.length = some none) :
    ∃ js : List Int, js.length ≤ is.length ∧ compL src (gTup3 [gSet 0, gSet 1]) (mTest (mOp2 pEq (mOp2 pMod (mVar 0) (mLit (.int 3))) (mLit (.int 0)))) (mVar 1) (src.top + 1) 0 [none, none] g [] = .ok (js.map .int) g := by
  obtain ⟨xs, σ', g', e1, ⟨js, e2, e3⟩, e4, _⟩ := compL_gen (src := src) (t := gTup3 [gSet 0, gSet 1]) (c := mTest (mOp2 pEq (mOp2 pMod (mVar 0) (mLit (.int 3))) (mLit (.int 0)))) (e := mVar 1) (n := is.length)
    (fun i σ' g1 acc => (∃ js : List Int, acc = js.map .int ∧ js.length ≤ i) ∧ g1 = g ∧ ∃ u v, σ' = [u, v]) (fun i σ' g1 acc hi h => by
      obtain ⟨⟨js, q1, q2⟩, q3, u, v, q4⟩ := h
      subst q3 q4
      refine ⟨.tup [.int i, .int is[i]], [some (.int i), some (.int is[i])], g1, h1 i _ (by rw [List.getElem?_map, List.getElem?_eq_getElem hi]; rfl), rfl, ?_⟩
      have t : mTest (mOp2 pEq (mOp2 pMod (mVar 0) (mLit (.int 3))) (mLit (.int 0))) [some (.int i), some (.int is[i])] g1 = .ok ((i : Int) % 3 == 0) g1 := test_ok (op2_ok (x := .int ((i : Int) % 3)) (g1 := g1) (op2_ok rfl rfl (modP (by decide))) rfl (eq_int _ _ _))
      cases hb : ((i : Int) % 3 == 0) with
      | true => exact .inl ⟨.int is[i], g1, t.trans (by rw [hb]), rfl, ⟨js ++ [is[i]], by rw [q1, List.map_append]; rfl, by simp; omega⟩, rfl, _, _, rfl⟩
      | false => exact .inr ⟨t.trans (by rw [hb]), ⟨js, q1, by omega⟩, rfl, _, _, rfl⟩) (fun σ g1 acc h => by rw [h.2.1]; exact h2) (src.top + 1) 0 [none, none] g [] (by omega) (by omega) ⟨⟨[], rfl, Nat.le_refl _⟩, rfl, none, none, rfl⟩
  exact ⟨js, e3, by rw [e1, e2, e4]⟩
theorem ne_str (s t : Str) (g : G) : pNe (.str s) (.str t) g = .ok (.bl (!(s == t))) g := rfl
theorem law_turn (ns : List Int) (a : Nat) (k c : Int) (x3 x4 : Option D) (g : G) (ga : g[a]? = some (.lst [.int k])) (hk : 0 ≤ k) (hk2 : k < 100000) :
    ∃ y3 y4 g' k', b_law_l1 [some (.fl (ns.map .int)), some (.ref a), some (.int c), x3, x4] g = .nx [some (.fl (ns.map .int)), some (.ref a), some (.int c), y3, y4] g' ∧ g'[a]? = some (.lst [.int k']) ∧ k ≤ k' ∧ k' ≤ k + 10 ∧ Keeps [a] g g' := by
  obtain ⟨st, p, ms, g1, k', e1, s0, s1, hM, ga1, h1, h2, k1⟩ := shot_eq ns a k c g ga hk hk2
  obtain ⟨lo, hi, hlo, hhi, hn⟩ := row_ends hM
  obtain ⟨g2, e2, k2⟩ := drawn_eq hM s0 s1 hlo hhi hn g1
  obtain ⟨g3, e3, k3⟩ := L_drawn_eq hM s0 s1 hlo hhi hn g2
  refine ⟨some (shotD st p ms), some (.str (cat (rowL st p ms lo (hi + 1 - lo).toNat))), g3, k', ?_, k3.at' _ _ (by simp) (k2.at' _ _ (by simp) ga1), h1, h2, k1.trans (k2.all.trans k3.all)⟩
  unfold b_law_l1
  refine seq_to [some (.fl (ns.map .int)), some (.ref a), some (.int c), some (shotD st p ms), x4] g1 (asg_ok (by rw [call_ok (ds := [.fl (ns.map .int), .ref a, .int c]) (g' := g) rfl]; exact e1)) ?_
  generalize cat (rowL st p ms lo (hi + 1 - lo).toNat) = T at e2 e3 ⊢
  refine seq_to [some (.fl (ns.map .int)), some (.ref a), some (.int c), some (shotD st p ms), some (.str T)] g2 (asg_ok (by rw [call_ok (ds := [shotD st p ms]) (g' := g1) rfl]; exact e2)) ?_
  refine iff' g3 ?_ rfl
  have q1 : mNotT (mTest (mOp1 (pIsin .str) (mVar 4))) [some (.fl (ns.map .int)), some (.ref a), some (.int c), some (shotD st p ms), some (.str T)] g2 = .ok false g2 := rfl
  unfold mOrT
  rw [q1, Res.bind_ok, if_neg Bool.false_ne_true]
  refine test_ok (op2_ok (x := .str T) (y := .str T) (g1 := g2) rfl (by rw [call_ok (ds := [shotD st p ms]) (g' := g2) rfl]; exact e3) ?_)
  rw [ne_str, beq_self_eq_true]; rfl
theorem law_true (ns : List Int) (hl : ns.length ≤ 63) : ∃ g', f_law [.fl (ns.map D.int)] [] = .ok (.bl true) g' := by
  have hcut : cutD (ns.map D.int) none (some 45) = (ns.take 45).map D.int := by
    unfold cutD sIxD
    dsimp only
    rw [if_neg (by decide), List.drop_zero, Nat.sub_zero, List.map_take]
    show List.take (min 45 (ns.map D.int).length) _ = _
    rw [List.length_map]
    by_cases h : 45 ≤ ns.length
    · rw [Nat.min_eq_left h]
    · rw [Nat.min_eq_right (by omega), List.take_of_length_le (by simp), List.take_of_length_le (by simp; omega)]
  have g0 : ([.lst [.int 0], .lst ((ns.take 45).map D.int)] : G)[1]? = some (.lst ((ns.take 45).map D.int)) := rfl
  have hit0 : mSlice (mVar 0) mNoPart (mPart (mLit (.int 45))) [some (.fl (ns.map D.int)), some (.ref 0), none, none, none] [.lst [.int 0]] = .ok (.ref 1) [.lst [.int 0], .lst ((ns.take 45).map D.int)] := by
    rw [← hcut]; rfl
  generalize hG : ([.lst [.int 0], .lst ((ns.take 45).map D.int)] : G) = G1 at g0 hit0
  have ga1 : G1[0]? = some (.lst [.int 0]) := by rw [← hG]; rfl
  have hl1 : G1.length = 2 := by rw [← hG]; rfl
  obtain ⟨src, s1, s2, s3, s4⟩ := enum_src g0
  have s2' : src.top = (ns.take 45).length := by rw [s2, List.length_map]
  obtain ⟨js, j1, j2⟩ := comp_third (src := src) (is := ns.take 45) (g := G1) s2' s3 (by rw [← List.length_map (f := D.int)]; exact s4)
  have hj : js.length ≤ 45 := Nat.le_trans j1 (by rw [List.length_take]; omega)
  have hit : mItEnum (mSlice (mVar 0) mNoPart (mPart (mLit (.int 45)))) [some (.fl (ns.map D.int)), some (.ref 0), none, none, none] [.lst [.int 0]] = .ok src G1 := by
    unfold mItEnum; rw [hit0, Res.bind_ok]; exact s1
  have e2 := comp_ok (n := 2) (cap := []) (t := gTup3 [gSet 0, gSet 1]) (c := mTest (mOp2 pEq (mOp2 pMod (mVar 0) (mLit (.int 3))) (mLit (.int 0)))) (e := mVar 1) (σ0 := [none, none]) hit (by rw [s2']; exact sz_le (by rw [List.length_take]; omega)) rfl j2
  have k2 : Keeps [] G1 (G1 ++ [.lst (js.map .int)]) := .push _
  have d2 : (G1 ++ [.lst (js.map D.int)])[G1.length]? = some (.lst (js.map .int)) := get_push _
  generalize G1 ++ [.lst (js.map D.int)] = G2 at e2 k2 d2
  have e3 : mOpA newL (mCons (mLit (.int 0)) (mCons (mOp1 pLen (mVar 0)) mNil)) [some (.fl (ns.map D.int)), some (.ref 0), none, none, none] G2 = .ok (.ref G2.length) (G2 ++ [.lst [.int 0, .int ns.length]]) := by
    unfold mOpA
    rw [cons_ok (x := .int 0) (xs := [.int ns.length]) (g1 := G2) (g2 := G2) rfl (cons_ok (g1 := G2) (op1_ok (x := .fl (ns.map D.int)) (g1 := G2) rfl (by unfold pLen; dsimp only; rw [List.length_map])) rfl), Res.bind_ok]
    exact if_pos (Nat.le_of_lt (sz_lt (show 2 ≤ 1000 by decide)))
  have k3 : Keeps [] G2 (G2 ++ [.lst [.int 0, .int ns.length]]) := .push _
  have d3 : (G2 ++ [.lst [D.int 0, .int ns.length]])[G2.length]? = some (.lst [.int 0, .int ns.length]) := get_push _
  have d23 := k3.at' _ _ (by simp) d2
  generalize G2 ++ [.lst [D.int 0, .int ns.length]] = G3 at e3 k3 d3 d23
  have e4 : mOp2 pAdd (mComp (mItEnum (mSlice (mVar 0) mNoPart (mPart (mLit (.int 45))))) 2 [] (gTup3 [(gSet 0), (gSet 1)]) (mTest (mOp2 pEq (mOp2 pMod (mVar 0) (mLit (.int 3))) (mLit (.int 0)))) (mVar 1)) (mOpA newL (mCons (mLit (.int 0)) (mCons (mOp1 pLen (mVar 0)) mNil))) [some (.fl (ns.map D.int)), some (.ref 0), none, none, none] [.lst [.int 0]] = .ok (.ref G3.length) (G3 ++ [.lst ((js ++ [0, (ns.length : Int)]).map .int)]) := by
    refine op2_ok e2 e3 ?_
    unfold pAdd
    dsimp only
    rw [d23, d3]
    dsimp only
    rw [if_pos (sz_le (by simp; omega)), List.map_append]
    rfl
  have k4 : Keeps [] G3 (G3 ++ [.lst ((js ++ [0, (ns.length : Int)]).map .int)]) := .push _
  have d4 : (G3 ++ [.lst ((js ++ [0, (ns.length : Int)]).map D.int)])[G3.length]? = some (.lst ((js ++ [0, (ns.length : Int)]).map .int)) := get_push _
  have ga4 := k4.at' _ _ (by simp) (k3.at' _ _ (by simp) (k2.at' _ _ (by simp) ga1))
  have hz : (js ++ [0, (ns.length : Int)]).length ≤ 47 := by simp; omega
  have hL : 0 < G3.length := by have := k3.len; have := k2.len; omega
  generalize hLn : G3.length = L at e4 d4 hL
  generalize G3 ++ [.lst ((js ++ [0, (ns.length : Int)]).map D.int)] = G4 at e4 d4 ga4
  generalize js ++ [0, (ns.length : Int)] = cs at e4 d4 hz
  have hit4 : mItSeq (mOp2 pAdd (mComp (mItEnum (mSlice (mVar 0) mNoPart (mPart (mLit (.int 45))))) 2 [] (gTup3 [(gSet 0), (gSet 1)]) (mTest (mOp2 pEq (mOp2 pMod (mVar 0) (mLit (.int 3))) (mLit (.int 0)))) (mVar 1)) (mOpA newL (mCons (mLit (.int 0)) (mCons (mOp1 pLen (mVar 0)) mNil)))) [some (.fl (ns.map D.int)), some (.ref 0), none, none, none] [.lst [.int 0]] = .ok (srcL L (cs.map D.int).length) G4 := by
    unfold mItSeq; rw [e4, Res.bind_ok]; unfold srcSeq; dsimp only; rw [d4]; rfl
  obtain ⟨σ', g', e5, _⟩ := for_src (src := srcL L (cs.map D.int).length) (t := gSet 2) (body := b_law_l1) (n := cs.length) (σ := [some (.fl (ns.map D.int)), some (.ref 0), none, none, none]) (g := G4) (by simp [srcL])
    (fun i σ g1 => (∃ y2 y3 y4, σ = [some (.fl (ns.map D.int)), some (.ref 0), y2, y3, y4]) ∧ g1[L]? = some (.lst (cs.map D.int)) ∧ ∃ k : Int, g1[0]? = some (.lst [.int k]) ∧ 0 ≤ k ∧ k ≤ 10 * i) ⟨⟨none, none, none, rfl⟩, d4, 0, ga4, by omega, by omega⟩ (fun i σ g1 hi hQ => by
      obtain ⟨⟨y2, y3, y4, r1⟩, r2, k, r3, r4, r5⟩ := hQ
      subst r1
      obtain ⟨z3, z4, g2, k', e, q1, q2, q3, q4⟩ := law_turn ns 0 k cs[i] y3 y4 g1 r3 r4 (by omega)
      refine ⟨.int cs[i], _, _, g2, ?_, rfl, e, ⟨_, _, _, rfl⟩, q4.at' _ _ (fun z => by have := List.mem_singleton.mp z; omega) r2, k', q1, by omega, by omega⟩
      unfold srcL; dsimp only; rw [r2]; dsimp only; rw [List.getElem?_map, List.getElem?_eq_getElem hi]; rfl) (fun σ g1 h => by
      unfold srcL; dsimp only; rw [h.2.1]; dsimp only; rw [List.getElem?_eq_none (by simp)])
  refine ⟨g', def_rt rfl ?_⟩
  show b_law [some (.fl (ns.map D.int)), none, none, none, none] [] = _
  unfold b_law
  refine seq_to [some (.fl (ns.map D.int)), some (.ref 0), none, none, none] [.lst [.int 0]] rfl ?_
  exact seq_to σ' g' ((for_ok hit4).trans e5) (ret_ok rfl)
end L3

end
section
namespace V
open PySem PySem.Spec PyProof.Rows L2 L3
noncomputable def top (i : Nat) : Stmt := PySem.Challenge.pw_tapeproof_k72_rows_drawn.main.body.getD i (.Pass ⟨0, 0, 0, 0⟩)
noncomputable abbrev s_drawn : Stmt := top 2
noncomputable abbrev N_drawn : List Str := ["shot", "state", "own", "signs", "places", "cells", "place", "sign"]
theorem sc_drawn : FnScope N_drawn ["shot"] (defScope s_drawn) := ⟨rfl, rfl, rfl, by decide +kernel, rfl, by decide +kernel, by decide +kernel⟩
noncomputable abbrev s_L_next : Stmt := top 4
noncomputable abbrev N_L_next : List Str := ["_law_script", "_law_at", "_law_cell", "_law_m"]
theorem sc_L_next : FnScope N_L_next ["_law_script", "_law_at"] (defScope s_L_next) := ⟨rfl, rfl, rfl, by decide +kernel, rfl, by decide +kernel, by decide +kernel⟩
noncomputable abbrev s_L_drawn : Stmt := top 5
noncomputable abbrev N_L_drawn : List Str := ["_law_shot", "_law_state", "_law_place", "_law_marks", "_law_spots", "_law_text", "_law_spot", "_law_sign"]
theorem sc_L_drawn : FnScope N_L_drawn ["_law_shot"] (defScope s_L_drawn) := ⟨rfl, rfl, rfl, by decide +kernel, rfl, by decide +kernel, by decide +kernel⟩
noncomputable abbrev s_L_shot_by : Stmt := top 6
noncomputable abbrev N_L_shot_by : List Str := ["_law_script", "_law_at", "_law_cell", "_law_m", "_law_place", "_law_spot", "_law_marks", "_law_k", "_law_n"]
theorem sc_L_shot_by : FnScope N_L_shot_by ["_law_script", "_law_at", "_law_cell"] (defScope s_L_shot_by) := ⟨rfl, rfl, rfl, by decide +kernel, rfl, by decide +kernel, by decide +kernel⟩
noncomputable abbrev s_law : Stmt := top 7
noncomputable abbrev N_law : List Str := ["_law_script", "_law_at", "_law_cell", "_law_shot", "_law_found"]
theorem sc_law : FnScope N_law ["_law_script"] (defScope s_law) := ⟨rfl, rfl, rfl, by decide +kernel, rfl, by decide +kernel, by decide +kernel⟩
structure Zk (K : PySem.W.Frag) (mg : Str → Option Value) (ca : Nat → Addr) : Prop where
  z_dict : mg "dict" = none
  z_enumerate : mg "enumerate" = none
  z_isinstance : mg "isinstance" = none
  z_len : mg "len" = none
  z_max : mg "max" = none
  z_min : mg "min" = none
  z_range : mg "range" = none
  z_str : mg "str" = none
  z_tuple : mg "tuple" = none
  g_BLANK : ∃ k, mg "BLANK" = some (.int 0 k)
  u_drawn : ∃ f fd, Fun K "drawn" "drawn" s_drawn f fd ∧ mg "drawn" = some (.ref f)
  u_L_next : ∃ f fd, Fun K "_law_next" "_law_next" s_L_next f fd ∧ mg "_law_next" = some (.ref f)
  u_L_drawn : ∃ f fd, Fun K "_law_drawn" "_law_drawn" s_L_drawn f fd ∧ mg "_law_drawn" = some (.ref f)
  u_L_shot_by : ∃ f fd, Fun K "_law_shot_by" "_law_shot_by" s_L_shot_by f fd ∧ mg "_law_shot_by" = some (.ref f)
  u_law : ∃ f fd, Fun K "law" "law" s_law f fd ∧ mg "law" = some (.ref f)
section
seal PE3 PT3 PW3 PA3 PS3 PSs3 PG3 PI3
variable {P : Program} {w : World} {K : PySem.W.Frag} {mg : Str → Option Value} {base : Heap} {ca : Nat → Addr}
theorem fn_drawn (Z : Zk K mg ca) : FnH P w K mg base ca "drawn" 1 1 f_drawn := by
  obtain ⟨f, fd, F, hm⟩ := Z.u_drawn
  exact ⟨⟨f, fd, ["shot"], fn_ok F sc_drawn rfl rfl (fun cdv A outer s H E hr => (r_consS (r_sto 1 sc_drawn.nd (r_sub1 (r_var 0) r_int))
  (r_consS (r_sto 2 sc_drawn.nd (r_sub1 (r_var 0) r_int))
  (r_consS (r_sto 3 sc_drawn.nd (r_dictT rfl Z.z_dict (r_sub1 (r_var 0) r_int)))
  (r_consS (r_sto 4 sc_drawn.nd (r_add (r_lst (r_cns (r_var 2) r_nil)) (r_comp (bscope_mk (Nb := ["place", "sign"]) (no := 2) (cap := []) (N := N_drawn) (sc := defScope s_drawn) rfl rfl (by decide +kernel)) rfl (r_itSeq (r_sub1 (r_var 0) r_int)) (fun cl C s3 H3 ex => ⟨(r_gtup rfl (r_gcons (r_gset 0 (show List.Nodup (["place", "sign"] : List Str) by decide +kernel)) (r_gcons (r_gset 1 (show List.Nodup (["place", "sign"] : List Str) by decide +kernel)) r_gnil))), r_if0, (r_var 0)⟩))))
  (r_consS (r_sto 5 sc_drawn.nd (r_lst r_nil))
  (r_consS (r_for rfl (r_rangeB Z.z_range (r_minL rfl Z.z_min (r_var 4)) (r_add (r_maxL rfl Z.z_max (r_var 4)) r_int)) (r_gset 6 sc_drawn.nd) (r_consS (r_sto 7 sc_drawn.nd (r_dget2 (r_var 3) (r_var 6) (r_gint Z.g_BLANK)))
  (r_oneS (r_expr (r_append (r_var 5) (r_ifE (r_eqT hr (r_var 6) (r_var 2)) (r_joined (r_jcons r_str (r_jcons (r_fmt (r_var 1)) (r_jcons r_str (r_jcons (r_fmt (r_var 7)) (r_jcons r_str r_jnil)))))) (r_strI Z.z_str (r_var 7))))))))
  (r_oneS (r_ret (r_join r_str (r_var 5))))))))))), hm, F.kp, F.binds (ps := ["shot"]) (fun _ _ _ _ _ _ us hl => by obtain ⟨_, rfl⟩ := L3.len1 hl; rfl)⟩, mDef_st _ _ _⟩
theorem fn_L_next (Z : Zk K mg ca) : FnH P w K mg base ca "_law_next" 1 2 f_L_next := by
  obtain ⟨f, fd, F, hm⟩ := Z.u_L_next
  exact ⟨⟨f, fd, ["_law_script", "_law_at"], fn_ok F sc_L_next rfl rfl (fun cdv A outer s H E hr => (r_consS (r_setIx (r_var 1) r_int (r_add (r_sub1 (r_var 1) r_int) r_int))
  (r_consS (r_sto 2 sc_L_next.nd r_int)
  (r_consS (r_if (r_gtT (r_len Z.z_len (r_var 0)) r_int) (r_oneS (r_sto 2 sc_L_next.nd (r_sub1 (r_var 0) (r_mod (r_sub1 (r_var 1) r_int) (r_len Z.z_len (r_var 0)))))) r_nilS)
  (r_consS (r_sto 3 sc_L_next.nd (r_mod (r_mul (r_add (r_add (r_mod (r_var 2) r_int) (r_mul (r_mul (r_sub1 (r_var 1) r_int) (r_sub1 (r_var 1) r_int)) r_int)) r_int) r_int) r_int))
  (r_oneS (r_ret (r_mod (r_mul (r_var 3) (r_var 3)) r_int)))))))), hm, F.kp, F.binds (ps := ["_law_script", "_law_at"]) (fun _ _ _ _ _ _ us hl => by obtain ⟨_, _, rfl⟩ := L3.len2 hl; rfl)⟩, mDef_st _ _ _⟩
theorem fn_L_drawn (Z : Zk K mg ca) : FnH P w K mg base ca "_law_drawn" 1 1 f_L_drawn := by
  obtain ⟨f, fd, F, hm⟩ := Z.u_L_drawn
  exact ⟨⟨f, fd, ["_law_shot"], fn_ok F sc_L_drawn rfl rfl (fun cdv A outer s H E hr => (r_consS (r_asg (r_var 0) (r_gtup rfl (r_gcons (r_gset 1 sc_L_drawn.nd) (r_gcons (r_gset 2 sc_L_drawn.nd) (r_gcons (r_gset 3 sc_L_drawn.nd) r_gnil)))))
  (r_consS (r_sto 4 sc_L_drawn.nd (r_add (r_lst (r_cns (r_var 2) r_nil)) (r_comp (bscope_mk (Nb := ["_law_spot", "_law_sign"]) (no := 2) (cap := []) (N := N_L_drawn) (sc := defScope s_L_drawn) rfl rfl (by decide +kernel)) rfl (r_itSeq (r_var 3)) (fun cl C s3 H3 ex => ⟨(r_gtup rfl (r_gcons (r_gset 0 (show List.Nodup (["_law_spot", "_law_sign"] : List Str) by decide +kernel)) (r_gcons (r_gset 1 (show List.Nodup (["_law_spot", "_law_sign"] : List Str) by decide +kernel)) r_gnil))), r_if0, (r_var 0)⟩))))
  (r_consS (r_sto 5 sc_L_drawn.nd r_str)
  (r_consS (r_for rfl (r_rangeB Z.z_range (r_minL rfl Z.z_min (r_var 4)) (r_add (r_maxL rfl Z.z_max (r_var 4)) r_int)) (r_gset 6 sc_L_drawn.nd) (r_consS (r_sto 7 sc_L_drawn.nd (r_join r_str (r_comp (bscope_mk (Nb := ["_law_other", "_law_mark", "_law_spot"]) (no := 2) (cap := [6]) (N := N_L_drawn) (sc := defScope s_L_drawn) rfl rfl (by decide +kernel)) rfl (r_itSeq (r_var 3)) (fun cl C s3 H3 ex => ⟨(r_gtup rfl (r_gcons (r_gset 0 (show List.Nodup (["_law_other", "_law_mark", "_law_spot"] : List Str) by decide +kernel)) (r_gcons (r_gset 1 (show List.Nodup (["_law_other", "_law_mark", "_law_spot"] : List Str) by decide +kernel)) r_gnil))), (r_if1 (r_eqT hr (r_var 0) (r_var 2))), (r_strI Z.z_str (r_var 1))⟩))))
  (r_consS (r_if (r_eqT hr (r_var 7) r_str) (r_oneS (r_sto 7 sc_L_drawn.nd r_str)) r_nilS)
  (r_consS (r_if (r_eqT hr (r_var 6) (r_var 2)) (r_oneS (r_sto 7 sc_L_drawn.nd (r_add (r_add (r_add (r_add r_str (r_strI Z.z_str (r_var 1))) r_str) (r_var 7)) r_str))) r_nilS)
  (r_oneS (r_sto 5 sc_L_drawn.nd (r_add (r_var 5) (r_var 7))))))))
  (r_oneS (r_ret (r_var 5)))))))), hm, F.kp, F.binds (ps := ["_law_shot"]) (fun _ _ _ _ _ _ us hl => by obtain ⟨_, rfl⟩ := L3.len1 hl; rfl)⟩, mDef_st _ _ _⟩
theorem fn_L_shot_by (Z : Zk K mg ca) : FnH P w K mg base ca "_law_shot_by" 2 3 f_L_shot_by := by
  obtain ⟨f, fd, F, hm⟩ := Z.u_L_shot_by
  exact ⟨⟨f, fd, ["_law_script", "_law_at", "_law_cell"], fn_ok F sc_L_shot_by rfl rfl (fun cdv A outer s H E hr => (r_consS (r_sto 3 sc_L_shot_by.nd (r_call (fn_L_next Z) (hr.mono (by omega)) (r_cns (r_var 0) (r_cns (r_var 1) r_nil))))
  (r_consS (r_sto 4 sc_L_shot_by.nd (r_fdivB (r_add (r_sub (r_mod (r_var 2) (r_sub (r_mul r_int (r_pow r_int r_int)) r_int)) (r_pow r_int r_int)) r_int) (r_sub1 (r_lst (r_cns r_int (r_cns (r_pow r_int r_int) r_nil))) (r_mod (r_var 3) r_int))))
  (r_consS (r_sto 5 sc_L_shot_by.nd (r_sub (r_var 4) (r_mod (r_fdiv (r_var 3) r_int) r_int)))
  (r_consS (r_sto 6 sc_L_shot_by.nd (r_lst r_nil))
  (r_consS (r_for rfl (r_range1 Z.z_range (r_mod (r_fdiv (r_var 3) r_int) r_int)) (r_gset 7 sc_L_shot_by.nd) (r_consS (r_sto 8 sc_L_shot_by.nd (r_call (fn_L_next Z) (hr.mono (by omega)) (r_cns (r_var 0) (r_cns (r_var 1) r_nil))))
  (r_consS (r_expr (r_append (r_var 6) (r_tup (r_cns (r_var 5) (r_cns (r_add r_int (r_mod (r_var 8) r_int)) r_nil)))))
  (r_oneS (r_sto 5 sc_L_shot_by.nd (r_add (r_add (r_var 5) r_int) (r_mul (r_mod (r_fdiv (r_var 8) r_int) r_int) (r_mod (r_fdiv (r_var 8) r_int) r_int))))))))
  (r_oneS (r_ret (r_tup (r_cns (r_mod (r_fdiv (r_var 3) r_int) r_int) (r_cns (r_var 4) (r_cns (r_tuple Z.z_tuple (r_var 6)) r_nil)))))))))))), hm, F.kp, F.binds (ps := ["_law_script", "_law_at", "_law_cell"]) (fun _ _ _ _ _ _ us hl => by obtain ⟨_, _, _, rfl⟩ := L3.len3 hl; rfl)⟩, mDef_st _ _ _⟩
theorem ok_law (Z : Zk K mg ca) {f : Addr} {fd : FuncData} (F : Fun K "law" "law" s_law f fd) : FnOk P w K mg base (CXW P w ca) 3 f fd ["_law_script"] (spM K ca 1 f_law) :=
  fn_ok F sc_law rfl rfl (fun cdv A outer s H E hr => (r_consS (r_sto 1 sc_law.nd (r_lst (r_cns r_int r_nil)))
  (r_consS (r_for rfl (r_itSeq (r_add (r_comp (bscope_mk (Nb := ["_law_k", "_law_cell"]) (no := 2) (cap := []) (N := N_law) (sc := defScope s_law) rfl rfl (by decide +kernel)) rfl (r_itEnum Z.z_enumerate (r_slice (r_var 0) r_noPart (r_part r_int))) (fun cl C s3 H3 ex => ⟨(r_gtup rfl (r_gcons (r_gset 0 (show List.Nodup (["_law_k", "_law_cell"] : List Str) by decide +kernel)) (r_gcons (r_gset 1 (show List.Nodup (["_law_k", "_law_cell"] : List Str) by decide +kernel)) r_gnil))), (r_if1 (r_eqT hr (r_mod (r_var 0) r_int) r_int)), (r_var 1)⟩)) (r_lst (r_cns r_int (r_cns (r_len Z.z_len (r_var 0)) r_nil))))) (r_gset 2 sc_law.nd) (r_consS (r_sto 3 sc_law.nd (r_call (fn_L_shot_by Z) (hr.mono (by omega)) (r_cns (r_var 0) (r_cns (r_var 1) (r_cns (r_var 2) r_nil)))))
  (r_consS (r_sto 4 sc_law.nd (r_call (fn_drawn Z) (hr.mono (by omega)) (r_cns (r_var 3) r_nil)))
  (r_oneS (r_if (r_w (r_orT (r_notT (r_test (r_isin .str Z.z_isinstance Z.z_str bt_str (r_var 4)))) (r_orT1 (r_neT hr (r_var 4) (r_call (fn_L_drawn Z) (hr.mono (by omega)) (r_cns (r_var 3) r_nil)))))) (r_oneS (r_ret r_bl)) r_nilS)))))
  (r_oneS (r_ret r_bl)))))
end
end V

end
section
namespace V
open PySem PySem.Spec PyProof.Rows L2 L3
noncomputable def caOf (l : List Nat) (n : Nat) : Addr := l.getD n 0
theorem z_mk {K : PySem.W.Frag} {h : Heap} {mg : Str → Option Value} (X : K.In h) (G : h.Ns mainGlobals mg)  {oc1 kV1 dc1 pm1 cd1 ct1 : Value} {od1 an1 : Option Addr} {sl1 : Array (Option Value)} {f1 : Addr} {oc2 kV2 dc2 pm2 cd2 ct2 : Value} {od2 an2 : Option Addr} {sl2 : Array (Option Value)} {f2 : Addr} {oc3 kV3 dc3 pm3 cd3 ct3 : Value} {od3 an3 : Option Addr} {sl3 : Array (Option Value)} {f3 : Addr} {oc4 kV4 dc4 pm4 cd4 ct4 : Value} {od4 an4 : Option Addr} {sl4 : Array (Option Value)} {f4 : Addr} {oc5 kV5 dc5 pm5 cd5 ct5 : Value} {od5 an5 : Option Addr} {sl5 : Array (Option Value)} {f5 : Addr} {og_BLANK : _}
    (a1 : PySem.W.nsIn K mainGlobals "drawn" = some (some (.ref f1)))
    (l1 : K.lookup f1 = some ⟨oc1, od1, .func (PySem.W.fnOf "drawn" "drawn" (defArgs s_drawn) (defBody s_drawn) (defScope s_drawn) .none kV1 dc1 pm1 an1 cd1 ct1), sl1⟩)
    (d1 : PySem.W.codeIn K cd1 "drawn" = true)
    (k1 : PySem.W.keepIn K (.ref f1) = true)
    (a2 : PySem.W.nsIn K mainGlobals "_law_next" = some (some (.ref f2)))
    (l2 : K.lookup f2 = some ⟨oc2, od2, .func (PySem.W.fnOf "_law_next" "_law_next" (defArgs s_L_next) (defBody s_L_next) (defScope s_L_next) .none kV2 dc2 pm2 an2 cd2 ct2), sl2⟩)
    (d2 : PySem.W.codeIn K cd2 "_law_next" = true)
    (k2 : PySem.W.keepIn K (.ref f2) = true)
    (a3 : PySem.W.nsIn K mainGlobals "_law_drawn" = some (some (.ref f3)))
    (l3 : K.lookup f3 = some ⟨oc3, od3, .func (PySem.W.fnOf "_law_drawn" "_law_drawn" (defArgs s_L_drawn) (defBody s_L_drawn) (defScope s_L_drawn) .none kV3 dc3 pm3 an3 cd3 ct3), sl3⟩)
    (d3 : PySem.W.codeIn K cd3 "_law_drawn" = true)
    (k3 : PySem.W.keepIn K (.ref f3) = true)
    (a4 : PySem.W.nsIn K mainGlobals "_law_shot_by" = some (some (.ref f4)))
    (l4 : K.lookup f4 = some ⟨oc4, od4, .func (PySem.W.fnOf "_law_shot_by" "_law_shot_by" (defArgs s_L_shot_by) (defBody s_L_shot_by) (defScope s_L_shot_by) .none kV4 dc4 pm4 an4 cd4 ct4), sl4⟩)
    (d4 : PySem.W.codeIn K cd4 "_law_shot_by" = true)
    (k4 : PySem.W.keepIn K (.ref f4) = true)
    (a5 : PySem.W.nsIn K mainGlobals "law" = some (some (.ref f5)))
    (l5 : K.lookup f5 = some ⟨oc5, od5, .func (PySem.W.fnOf "law" "law" (defArgs s_law) (defBody s_law) (defScope s_law) .none kV5 dc5 pm5 an5 cd5 ct5), sl5⟩)
    (d5 : PySem.W.codeIn K cd5 "law" = true)
    (k5 : PySem.W.keepIn K (.ref f5) = true)
    (nz_dict : PySem.W.nsIn K mainGlobals "dict" = some none)
    (nz_enumerate : PySem.W.nsIn K mainGlobals "enumerate" = some none)
    (nz_isinstance : PySem.W.nsIn K mainGlobals "isinstance" = some none)
    (nz_len : PySem.W.nsIn K mainGlobals "len" = some none)
    (nz_max : PySem.W.nsIn K mainGlobals "max" = some none)
    (nz_min : PySem.W.nsIn K mainGlobals "min" = some none)
    (nz_range : PySem.W.nsIn K mainGlobals "range" = some none)
    (nz_str : PySem.W.nsIn K mainGlobals "str" = some none)
    (nz_tuple : PySem.W.nsIn K mainGlobals "tuple" = some none)
    (ng_BLANK : PySem.W.nsIn K mainGlobals "BLANK" = some (some (.int 0 og_BLANK))) : Zk K mg (caOf []) :=
  ⟨PySem.W.mg_none_of X G nz_dict,
   PySem.W.mg_none_of X G nz_enumerate,
   PySem.W.mg_none_of X G nz_isinstance,
   PySem.W.mg_none_of X G nz_len,
   PySem.W.mg_none_of X G nz_max,
   PySem.W.mg_none_of X G nz_min,
   PySem.W.mg_none_of X G nz_range,
   PySem.W.mg_none_of X G nz_str,
   PySem.W.mg_none_of X G nz_tuple,
   ⟨_, PySem.W.mg_of X G ng_BLANK⟩,
   ⟨f1, _, fun_mk (st := s_drawn) l1 d1 k1, PySem.W.mg_of X G a1⟩,
   ⟨f2, _, fun_mk (st := s_L_next) l2 d2 k2, PySem.W.mg_of X G a2⟩,
   ⟨f3, _, fun_mk (st := s_L_drawn) l3 d3 k3, PySem.W.mg_of X G a3⟩,
   ⟨f4, _, fun_mk (st := s_L_shot_by) l4 d4 k4, PySem.W.mg_of X G a4⟩,
   ⟨f5, _, fun_mk (st := s_law) l5 d5 k5, PySem.W.mg_of X G a5⟩⟩
theorem walk {l : PySem.W.OpenLaw} {p : Program} {loose : List Str} {XP : (Str → Option Value) → Heap → Prop} {YP : World → Heap → Prop} {d : DefRec} {K : Params → PySem.W.Frag} (C : List Nat) (hn : l.most = some 63) (hdf : d.params.defaults = []) (hd : d.name = "law")
    (hY : ∀ (w : World) (h : Heap), YP w h → (K w.params).In h) (F : ∀ (w : World) (mg : Str → Option Value) (h : Heap), (K w.params).In h → h.Ns mainGlobals mg → Zk (K w.params) mg (caOf C))
    (M : ∀ ns : List Int, ns.length ≤ 63 → ∃ g', f_law [.fl (ns.map D.int)] [] = .ok (.bl true) g') : PySem.W.WalkO p loose XP YP l.row.toRowW d [] (fun f vs => PySem.call f vs) := by
  refine L2.walk_of (n := 63) (k := 3) (x := "_law_script") (CX := fun w => CXW l.prog w (caOf C)) (sp := fun w => spM (K w.params) (caOf C) 1 f_law) hn (by decide) hdf ⟨rfl, by decide, by decide⟩ hY (fun w mg fa h KX G hmg => ?_) (fun w H a ns hl hO hS => law_sp hO hS (M ns hl)) (fun w H s e s' z => ?_)
  · have Z := F w mg h KX G
    obtain ⟨f, fd, Fu, hm⟩ := Z.u_law
    rw [hd] at hmg
    have e := hmg.symm.trans hm
    cases e
    refine ⟨fd, fun s u => ?_, fun base _ _ => ok_law Z Fu⟩
    obtain ⟨oc, od, kV, doc, pm, an, cdv, ct, osl, rfl, lk, hcd⟩ := Fu.ex
    exact .of_eq rfl
  · obtain ⟨_, _, _, _, _, _, _, _, _, _, z⟩ := z
    exact z
end V

end
section
namespace V
open PySem PySem.W PySem.W.X PySem.Spec PyProof.Rows
theorem walkX_of {as : List Addr} {K : Params → Frag} {n t : Nat} {q : Program} {loose : List Str} {XP : (Str → Option Value) → Heap → Prop} {r : RowW} {d : DefRec} {kwd : List (Str × PySem.Expr)} {run : Value → List Value → Sem Value}
    (e : ∀ P, as = (K P).map (·.1)) (h : WalkO q loose XP (InK K) r d kwd run) : WalkX q loose XP (obsZ as) (valZ K n t) r d kwd run :=
  fun w s₀ s₁ mg mb G y a o pm cd doc dV kV h1 h2 h3 h4 h5 h6 args vals as' L p1 p2 p3 p4 p5 =>
    h w s₀ s₁ mg mb G (InK.keeps w _ _ (z_facts e y).2.1 L.keeps) a o pm cd doc dV kV h1 h2 h3 h4 h5 h6 args vals as' p1 p2 p3 p4 p5
end V

end
open PySem PySem.W PyProof.Rows
set_option maxRecDepth 100000 in
set_option maxHeartbeats 0 in
theorem PySem.Challenge.cw_tapeproof_k72_rows_drawn_holds : PySem.Challenge.rw_tapeproof_k72_rows_drawn.Holds := by
  w_on; o_law; z_head; (case hw => w_witness2)
  k_fill
  refine V.walkX_of (fun P => ?E) (V.walk (l := PySem.Challenge.rw_tapeproof_k72_rows_drawn) [] rfl rfl rfl (fun w h Y => Y) ?F L3.law_true)
  case E => kernel_rfl
  case F =>
    intro w mg h KX G
    refine' V.z_mk KX G ?a1 ?l1 ?d1 ?k1 ?a2 ?l2 ?d2 ?k2 ?a3 ?l3 ?d3 ?k3 ?a4 ?l4 ?d4 ?k4 ?a5 ?l5 ?d5 ?k5 ?nz_dict ?nz_enumerate ?nz_isinstance ?nz_len ?nz_max ?nz_min ?nz_range ?nz_str ?nz_tuple ?ng_BLANK
    (case a1 => k_is); (case l1 => k_is); (case d1 => k_is); (case k1 => k_is); (case a2 => k_is); (case l2 => k_is)
    (case d2 => k_is); (case k2 => k_is); (case a3 => k_is); (case l3 => k_is); (case d3 => k_is); (case k3 => k_is)
    (case a4 => k_is); (case l4 => k_is); (case d4 => k_is); (case k4 => k_is); (case a5 => k_is); (case l5 => k_is)
    (case d5 => k_is); (case k5 => k_is); (case nz_dict => k_is); (case nz_enumerate => k_is); (case nz_isinstance => k_is); (case nz_len => k_is)
    (case nz_max => k_is); (case nz_min => k_is); (case nz_range => k_is); (case nz_str => k_is); (case nz_tuple => k_is); (case ng_BLANK => k_is)


import PyProof.Rows.All
import Wide.All
import OpenK.AllK
import Wide.FinOn
import Lean
import PyProof.EqAt
import PyProof.EqKinds
import PyProof.TupleCall
import PyProof.NeKinds
import PyProof.CompFree
import PyProof.CompMap
import PyProof.StrWalks
import PyProof.ConsumeWalk
import PyProof.ExcBaseAll.ValueError
import PyProof.RulesAs
import PyProof.RulesDel
import PyProof.ExcAttrAll.ValueError
import KE.KEqDict
import KE.KDictOf
import PyProof.Rows.TupDisplay
import PyProof.EnumMake
import KE.KRevIter
import KE.KDictList
import PyProof.Rows.CountFlat
import PyProof.Rows.SeqMore2
import Open.Tops
import KE.RegKTryMore
import PySem.Challenge.RW_boughback_k31_stands_and_lines
set_option compiler.extract_closed false
set_option Elab.async false
set_option linter.all false
set_option maxRecDepth 100000
namespace L2
open PySem PySem.Spec PyProof.Rows

noncomputable abbrev Key := Sum Int Str
noncomputable def keyIs : Key → Value → Bool
  | .inl k, v => Value.isInt k v
  | .inr x, v => Value.isStrOf x v
noncomputable def keyH (w : World) : Key → Int
  | .inl k => hashInt k
  | .inr x => hashStr w x
theorem keyIs_shape : ∀ {k : Key} {v : Value}, keyIs k v = true → (∃ i t, k = Sum.inl i ∧ v = Value.int i t) ∨ (∃ x t, k = Sum.inr x ∧ v = Value.str x t)
  | .inl i, v, h => by
    obtain ⟨t, e⟩ := Value.isInt_shape (k := i) (v := v) h
    exact .inl ⟨i, t, rfl, e⟩
  | .inr x, v, h => by
    obtain ⟨t, e⟩ := Value.isStrOf_shape (x := x) (v := v) h
    exact .inr ⟨x, t, rfl, e⟩
theorem keyIs_int (i : Int) (t : Tok) : keyIs (.inl i) (.int i t) = true := by simp [keyIs, Value.isInt]
theorem keyIs_str (x : Str) (t : Tok) : keyIs (.inr x) (.str x t) = true := by simp [keyIs, Value.isStrOf]
theorem key_ll (a b : Int) : decide ((Sum.inl a : Key) = Sum.inl b) = (a == b) := by
  by_cases e : a = b
  · subst e; simp
  · have h : ¬ (Sum.inl a : Key) = Sum.inl b := fun q => e (Sum.inl.inj q)
    rw [decide_eq_false h]
    exact (beq_eq_false_iff_ne.mpr e).symm
theorem key_rr (a b : Str) : decide ((Sum.inr a : Key) = Sum.inr b) = decide (a = b) := by
  by_cases e : a = b
  · subst e; simp
  · have h : ¬ (Sum.inr a : Key) = Sum.inr b := fun q => e (Sum.inr.inj q)
    rw [decide_eq_false h, decide_eq_false e]
theorem key_lr (a : Int) (b : Str) : decide ((Sum.inl a : Key) = Sum.inr b) = false := decide_eq_false (fun q => nomatch q)
theorem key_rl (a : Str) (b : Int) : decide ((Sum.inr a : Key) = Sum.inl b) = false := decide_eq_false (fun q => nomatch q)

noncomputable def mixKind (prog : Program) (w : World) : PySem.KeyKind prog w Key where
  is := keyIs
  hash := keyH w
  inj := fun v a b ha hb => by
    rcases keyIs_shape ha with ⟨i, t, rfl, rfl⟩ | ⟨x, t, rfl, rfl⟩
    · rcases keyIs_shape hb with ⟨j, u, rfl, e⟩ | ⟨y, u, rfl, e⟩
      · injection e with e1 _; rw [e1]
      · exact nomatch e
    · rcases keyIs_shape hb with ⟨j, u, rfl, e⟩ | ⟨y, u, rfl, e⟩
      · exact nomatch e
      · injection e with e1 _; rw [e1]
  byValue := fun k v h => by
    rcases keyIs_shape h with ⟨i, t, rfl, rfl⟩ | ⟨x, t, rfl, rfl⟩ <;> rfl
  pyHash := fun hv h => by
    rcases keyIs_shape hv with ⟨i, t, rfl, rfl⟩ | ⟨x, t, rfl, rfl⟩
    · exact wpAny_pyHash_int h
    · exact wpAny_pyHash_str h
  eqBool := fun hu hv h => by
    rcases keyIs_shape hu with ⟨i, t, rfl, rfl⟩ | ⟨x, t, rfl, rfl⟩
    · rcases keyIs_shape hv with ⟨j, u, rfl, rfl⟩ | ⟨y, u, rfl, rfl⟩
      · rw [key_ll] at h; exact wpAny_eqBool_int h
      · rw [key_lr] at h; exact SeqAt.EqAt.int_str i t y u _ _ _ _ h
    · rcases keyIs_shape hv with ⟨j, u, rfl, rfl⟩ | ⟨y, u, rfl, rfl⟩
      · rw [key_rl] at h; exact SeqAt.EqAt.str_int x t j u _ _ _ _ h
      · rw [key_rr] at h; exact wpAny_eqBool_str h
  «strs» := fun k x t v h => by
    rcases keyIs_shape h with ⟨i, u, rfl, e⟩ | ⟨y, u, rfl, e⟩
    · exact nomatch e
    · injection e with e1 _
      subst e1
      cases v <;> rfl

theorem mixKind_int (prog : Program) (w : World) (i : Int) (t : Tok) : (mixKind prog w).is (.inl i) (.int i t) = true := keyIs_int i t
theorem mixKind_str (prog : Program) (w : World) (x : Str) (t : Tok) : (mixKind prog w).is (.inr x) (.str x t) = true := keyIs_str x t
end L2

namespace L2
open PySem PySem.Spec PyProof.Rows

inductive V where
  | non | bl (b : Bool) | int (i : Int) | str (x : Str) | byt (b : Array UInt8) | flt (b : UInt64) | ref (a : Addr) | ty (n : String)
  deriving DecidableEq

noncomputable def RelV : V → Value → Prop
  | .non, u => u = Value.none
  | .bl b, u => u = Value.bool b
  | .int i, u => ∃ t, u = Value.int i t
  | .str x, u => ∃ t, u = Value.str x t
  | .byt b, u => ∃ t, u = Value.bytes b t
  | .flt b, u => ∃ t, u = Value.float b t
  | .ref a, u => u = Value.ref a
  | .ty n, u => u = Value.type n

noncomputable abbrev Vals : List V → List Value → Prop := Paired RelV
theorem Vals.length {xs : List V} {us : List Value} (r : Vals xs us) : xs.length = us.length := Paired.length r
theorem Vals.get : ∀ {xs : List V} {us : List Value} {i : Nat} {x : V}, Vals xs us → xs[i]? = some x → ∃ u, us[i]? = some u ∧ RelV x u
  | _, _, _, _, .nil, e => by simp at e
  | _, _, 0, _, .cons r _, e => by simp at e; subst e; exact ⟨_, rfl, r⟩
  | _, _, i + 1, x, .cons _ t, e => by
    obtain ⟨u, h1, h2⟩ := Vals.get (i := i) (x := x) t (by simpa using e)
    exact ⟨u, by simpa using h1, h2⟩
theorem Vals.append : ∀ {xs ys : List V} {us ws : List Value}, Vals xs us → Vals ys ws → Vals (xs ++ ys) (us ++ ws) := by
  intro xs ys us ws h s
  induction h with
  | nil => exact s
  | cons r t ih => exact .cons r ih
theorem Vals.take : ∀ {xs : List V} {us : List Value} (n : Nat), Vals xs us → Vals (xs.take n) (us.take n)
  | _, _, 0, _ => .nil
  | _, _, _ + 1, .nil => .nil
  | _, _, n + 1, .cons r t => .cons r (Vals.take n t)
theorem Vals.drop : ∀ {xs : List V} {us : List Value} (n : Nat), Vals xs us → Vals (xs.drop n) (us.drop n)
  | _, _, 0, r => r
  | _, _, _ + 1, .nil => .nil
  | _, _, n + 1, .cons _ t => Vals.drop n t
noncomputable def RelO : Option V → Option Value → Prop
  | some v, some u => RelV v u
  | none, none => True
  | _, _ => False
noncomputable def KV {κ : Type} : List (κ × V) → List (κ × Value) → Prop := Paired fun (p : κ × V) (q : κ × Value) => p.1 = q.1 ∧ RelV p.2 q.2

noncomputable def kV : Key → V
  | .inl i => .int i
  | .inr x => .str x

inductive HO where
  /-- a list -/
  | lst (xs : List V)
  /-- a tuple (never changes) -/
  | tup (xs : List V)
  /-- a dict whose keys are ints and texts; one whose keys are tuples of ints and texts (the empty one is both) -/
  | dK (kvs : List (Key × V)) | dT (kvs : List (List Key × V))
  /-- a set of ints: its members, its size -/
  | set (S : Int → Bool) (n : Nat)
  /-- an instance of the class at C, its dict at dx, its attributes -/
  | ins (C dx : Addr) (fs : List (Str × V))
  /-- the dict of the instance at x -/
  | own (x : Addr)
  /-- the dict of an exception -/
  | xd (fs : List (Str × V))
  /-- a bound method, f of x -/
  | met (f x : Addr)
  /-- a range object lo, lo + 1, .. below hi -/
  | rng (lo hi : Int)
  /-- a thing that is known to the object (the script; a dict while a loop walks it): read, never written while it is so -/
  | frz (o : Obj) (u : HO)
  /-- a code object's table -/
  | tbl (ps : Array Value)
  /-- any other thing, by what is true of its one object (a def of one's own: SetO a S n := HO.ext fun h => ..) -/
  | ext (φ : Heap → Prop)

noncomputable abbrev Hp := Addr → Option HO
noncomputable def upd (H : Hp) (a : Addr) (o : HO) : Hp := fun b => if b = a then some o else H b
theorem upd_same {H : Hp} {a : Addr} {o : HO} : upd H a o a = some o := by unfold upd; rw [if_pos rfl]
theorem upd_ne {H : Hp} {a b : Addr} {o : HO} (h : b ≠ a) : upd H a o b = H b := by unfold upd; rw [if_neg h]
theorem ne_of {H : Hp} {a b : Addr} {o u : HO} (h : H a = some o) (h' : H b = some u) (d : o ≠ u) : a ≠ b := by
  intro e; subst e; rw [h] at h'; exact d (Option.some.inj h')
theorem ne_of_none {H : Hp} {a b : Addr} {o : HO} (h : H a = some o) (h' : H b = none) : a ≠ b := by
  intro e; subst e; rw [h] at h'; cases h'

section
variable (P : Program) (w : World)
noncomputable def ObjOk (H : Hp) (h : Heap) (a : Addr) : HO → Prop
  | .lst xs => xs.length ≤ sizeLine ∧ ∃ (its : List Value) (n : Nat), Vals xs its ∧ h.get? a = some { cls := .type "list", data := .seq its.toArray n }
  | .tup xs => xs.length ≤ sizeLine ∧ ∃ its : List Value, Vals xs its ∧ IsTup h a its.toArray
  | .dK kvs => kvs.length ≤ sizeLine ∧ (a == sysModules) = false ∧ ∃ vs, KV kvs vs ∧ h.DictOf (mixKind P w) a vs
  | .dT kvs => kvs.length ≤ sizeLine ∧ (a == sysModules) = false ∧ ∃ xs : List (List Key × Addr × Value),
      Paired (fun (p : List Key × V) (q : List Key × Addr × Value) => p.1 = q.1 ∧ H q.2.1 = some (.tup (p.1.map kV)) ∧ RelV p.2 q.2.2) kvs xs ∧
      ∃ o es ep, h.get? a = some o ∧ o.ExactDict ∧ o.data = .dict es ep ∧ es.toList = xs.map (entryOfKey (tupleKind (mixKind P w))) ∧ (xs.map (·.1)).Nodup
  | .set S n => h.SetOf (intKind P w) a S n
  | .ins C dx fs => H dx = some (.own a) ∧ fs.length ≤ 1000 ∧ dx ≠ a ∧ h.get? a = some (PySem.W.instObj C dx) ∧
      ∃ mA, h.Ns1 dx mA ∧ (∀ f, RelO (fs.lookup f) (mA f)) ∧ PySem.Within mA (fs.map (·.1))
  | .own _ => ∃ o, h.get? a = some o
  | .xd fs => ∃ mA, h.Ns1 a mA ∧ ∀ f, RelO (fs.lookup f) (mA f)
  | .rng lo hi => ∃ t u v, h.get? a = some { cls := .type "range", data := .fields #[.int lo t, .int hi u, .int 1 v] }
  | .frz o u => h.get? a = some o ∧ ObjOk H h a u
  | .tbl ps => h.get? a = some { cls := .none, data := .fields ps }
  | .met f x => h.get? a = some (PySem.W.methodObj (.ref f) (.ref x))
  | .ext φ => φ h ∧ (∃ o, h.get? a = some o) ∧ ∀ h1 h2 : Heap, φ h1 → (∀ o, h1.get? a = some o → h2.get? a = some o) → φ h2
noncomputable def HOk (H : Hp) (h : Heap) : Prop := ∀ a o, H a = some o → ObjOk P w H h a o
end

section
variable {P : Program} {w : World} {H H' : Hp} {h h' : Heap} {a : Addr} {o : HO}
theorem ObjOk.lt (x : ObjOk P w H h a o) : a < h.objs.size := by
  cases o with
  | lst xs => obtain ⟨_, _, _, _, e⟩ := x; exact Heap.lt_size e
  | tup xs => obtain ⟨_, _, _, p⟩ := x; exact p.lt
  | dK kvs => obtain ⟨_, _, _, _, o, _, _, e, _⟩ := x; exact Heap.lt_size e
  | dT kvs => obtain ⟨_, _, _, _, o, _, _, e, _⟩ := x; exact Heap.lt_size e
  | set S n => obtain ⟨o, _, _, _, e, _⟩ := x; exact Heap.lt_size e
  | ins C dx fs => obtain ⟨_, _, _, e, _⟩ := x; exact Heap.lt_size e
  | own y => obtain ⟨_, e⟩ := x; exact Heap.lt_size e
  | xd fs => obtain ⟨_, ⟨_, _, _, e, _⟩, _⟩ := x; exact Heap.lt_size e
  | rng lo hi => obtain ⟨_, _, _, e⟩ := x; exact Heap.lt_size e
  | frz ob u => obtain ⟨e, _⟩ := x; exact Heap.lt_size e
  | tbl ps => exact Heap.lt_size (show h.get? a = some _ from x)
  | met f y => exact Heap.lt_size (show h.get? a = some _ from x)
  | ext φ => obtain ⟨_, ⟨_, e⟩, _⟩ := x; exact Heap.lt_size e
theorem Paired.mapP {α β : Type} {F G : α → β → Prop} : ∀ {l₁ : List α} {l₂ : List β}, Paired F l₁ l₂ → (∀ a b, F a b → G a b) → Paired G l₁ l₂ := by
  intro l₁ l₂ h f
  induction h with
  | nil => exact .nil
  | cons r t ih => exact .cons (f _ _ r) ih
theorem ObjOk.stay (x : ObjOk P w H h a o) (k : ∀ b u, (b = a ∨ H b = some (.own a)) → h.get? b = some u → h'.get? b = some u)
    (ho : ∀ b, H b = some (.own a) → H' b = some (.own a)) (ht : ∀ b xs, H b = some (.tup xs) → H' b = some (.tup xs)) : ObjOk P w H' h' a o := by
  induction o with
  | lst xs => obtain ⟨z, its, n, r, e⟩ := x; exact ⟨z, its, n, r, k _ _ (.inl rfl) e⟩
  | tup xs => obtain ⟨z, its, r, ob, e, c⟩ := x; exact ⟨z, its, r, ob, k _ _ (.inl rfl) e, c⟩
  | dK kvs => obtain ⟨z, y, vs, r, ob, es, ep, e, c⟩ := x; exact ⟨z, y, vs, r, ob, es, ep, k _ _ (.inl rfl) e, c⟩
  | dT kvs =>
    obtain ⟨z, y, xs, r, ob, es, ep, e, c⟩ := x
    exact ⟨z, y, xs, Paired.mapP r fun p q z => ⟨z.1, ht _ _ z.2.1, z.2.2⟩, ob, es, ep, k _ _ (.inl rfl) e, c⟩
  | set S n => obtain ⟨ob, es, ep, t, e, c⟩ := x; exact ⟨ob, es, ep, t, k _ _ (.inl rfl) e, c⟩
  | ins C dx fs =>
    obtain ⟨d, z, ne, e, mA, ⟨od, es, ep, e2, c⟩, r⟩ := x
    exact ⟨ho _ d, z, ne, k _ _ (.inl rfl) e, mA, ⟨od, es, ep, k _ _ (.inr d) e2, c⟩, r⟩
  | own y => obtain ⟨ob, e⟩ := x; exact ⟨ob, k _ _ (.inl rfl) e⟩
  | xd fs => obtain ⟨mA, ⟨od, es, ep, e, c⟩, r⟩ := x; exact ⟨mA, ⟨od, es, ep, k _ _ (.inl rfl) e, c⟩, r⟩
  | rng lo hi => obtain ⟨t, u, v, e⟩ := x; exact ⟨t, u, v, k _ _ (.inl rfl) e⟩
  | frz ob u ih => obtain ⟨e, q⟩ := x; exact ⟨k _ _ (.inl rfl) e, ih q⟩
  | tbl ps =>
    have e : h.get? a = some { cls := .none, data := .fields ps } := x
    show h'.get? a = some { cls := .none, data := .fields ps }
    exact k a _ (.inl rfl) e
  | met f y =>
    have e : h.get? a = some (PySem.W.methodObj (.ref f) (.ref y)) := x
    show h'.get? a = some (PySem.W.methodObj (.ref f) (.ref y))
    exact k a _ (.inl rfl) e
  | ext φ => obtain ⟨p, ⟨o, e⟩, st⟩ := x; exact ⟨st _ _ p fun o q => k _ _ (.inl rfl) q, ⟨o, k _ _ (.inl rfl) e⟩, st⟩
theorem HOk.lt (x : HOk P w H h) (e : H a = some o) : a < h.objs.size := (x a o e).lt
theorem HOk.fresh (x : HOk P w H h) (e : h.objs.size ≤ a) : H a = none := by
  cases q : H a with
  | none => rfl
  | some u => exact absurd (Nat.lt_of_lt_of_le (x.lt q) e) (Nat.lt_irrefl _)
theorem HOk.kept (x : HOk P w H h) (k : ∀ b u, h.get? b = some u → h'.get? b = some u) : HOk P w H h' := fun a o e =>
  (x a o e).stay (fun b u _ q => k b u q) (fun _ q => q) fun _ _ q => q
theorem HOk.laid (x : HOk P w H h) (k : ∀ b u, h.get? b = some u → h'.get? b = some u) (hp : h.objs.size ≤ a) (new : ObjOk P w (upd H a o) h' a o) : HOk P w (upd H a o) h' := fun b u e => by
  have hn := x.fresh hp
  by_cases hb : b = a
  · subst hb; rw [upd_same] at e; cases e; exact new
  · rw [upd_ne hb] at e
    exact (x b u e).stay (fun c v _ q => k c v q) (fun c q => by rw [upd_ne (ne_of_none q hn)]; exact q) fun c xs q => by rw [upd_ne (ne_of_none q hn)]; exact q
end

noncomputable def Rd (H : Hp) (a : Addr) (u : HO) : Prop := H a = some u ∨ ∃ o, H a = some (.frz o u)
theorem Rd.ok {P : Program} {w : World} {H : Hp} {h : Heap} {a : Addr} {u : HO} (r : Rd H a u) (x : HOk P w H h) : ObjOk P w H h a u := by
  rcases r with r | ⟨o, r⟩
  · exact x a u r
  · obtain ⟨_, q⟩ := x a _ r
    exact q
noncomputable def Mut : Option HO → Prop
  | some (.lst _) => True
  | some (.dK _) => True
  | some (.dT _) => True
  | some (.set _ _) => True
  | some (.ins _ _ _) => True
  | some (.ext _) => True
  | _ => False
section
variable {P : Program} {w : World} {H : Hp} {h h' : Heap} {x e : Addr} {o' : HO}
theorem HOk.write (ok : HOk P w H h) (mu : Mut (H x)) (he : e = x ∨ H e = some (.own x)) (k : ∀ b u, b ≠ e → h.get? b = some u → h'.get? b = some u) (heo : ∃ u, h'.get? e = some u)
    (new : ObjOk P w (upd H x o') h' x o') : HOk P w (upd H x o') h' := fun b u q => by
  have nown : ∀ c y, H c = some (.own y) → c ≠ x := fun c y r z => by subst z; rw [r] at mu; exact mu
  have ntup : ∀ c xs, H c = some (.tup xs) → c ≠ x := fun c xs r z => by subst z; rw [r] at mu; exact mu
  by_cases hb : b = x
  · subst hb; rw [upd_same] at q; cases q; exact new
  · rw [upd_ne hb] at q
    by_cases hbe : b = e
    · have q' : H b = some (.own x) := by
        rcases he with z | z
        · exact absurd (hbe.trans z) hb
        · rw [hbe]; exact z
      rw [q] at q'; cases q'
      obtain ⟨v, hv⟩ := heo
      exact ⟨v, by rw [hbe]; exact hv⟩
    · refine (ok b u q).stay (fun c v hc r => k c v ?_ r) (fun c r => by rw [upd_ne (nown c b r)]; exact r) fun c xs r => by rw [upd_ne (ntup c xs r)]; exact r
      rcases hc with rfl | hc
      · exact hbe
      · rintro rfl
        rcases he with z | z
        · exact nown c b hc z
        · rw [hc] at z; cases z; exact hb rfl
end

structure Un (fs ex : List Addr) (H H' : Hp) (h h' : Heap) : Prop where
  keep : ∀ b o, h.get? b = some o → H b = none → b ∉ fs → b ∉ ex → h'.get? b = some o
  slot : ∀ b o, h.get? b = some o → H b = none → b ∈ fs → b ∉ ex → ∃ sl, h'.get? b = some { o with slots := sl }
  free : ∀ b o, h.get? b = some o → H b = none → b ∉ ex → H' b = none
  there : ∀ b o, h.get? b = some o → b ∉ ex → ∃ o', h'.get? b = some o'
  tups : ∀ b xs, H b = some (.tup xs) → H' b = some (.tup xs)
  frzs : ∀ b o u, H b = some (.frz o u) → H' b = some (.frz o u)
  tbls : ∀ b ps, H b = some (.tbl ps) → ∃ more, H' b = some (.tbl (ps ++ more))
section
variable {fs fs' ex ex' : List Addr} {H H1 H2 : Hp} {h h1 h2 h' : Heap} {a x e : Addr} {o : HO}
theorem Un.any (u : Un fs ex H H1 h h1) {b : Addr} {ob : Obj} (q : h.get? b = some ob) (n : H b = none) (hx : b ∉ ex) : ∃ sl, h1.get? b = some { ob with slots := sl } := by
  by_cases hb : b ∈ fs
  · exact u.slot b ob q n hb hx
  · exact ⟨ob.slots, u.keep b ob q n hb hx⟩
theorem Un.kept (k : ∀ b u, h.get? b = some u → h'.get? b = some u) : Un fs ex H H h h' :=
  ⟨fun b ob q _ _ _ => k b ob q, fun b ob q _ _ _ => ⟨ob.slots, k b ob q⟩, fun _ _ _ n _ => n, fun b ob q _ => ⟨ob, k b ob q⟩, fun _ _ q => q, fun _ _ _ q => q, fun _ ps q => ⟨#[], by rw [q]; simp⟩⟩
theorem Un.refl : Un fs ex H H h h := Un.kept fun _ _ q => q
theorem Un.laid (k : ∀ b u, h.get? b = some u → h'.get? b = some u) (hp : h.objs.size ≤ a) (hn : H a = none) : Un fs ex H (upd H a o) h h' where
  keep := fun b u q _ _ _ => k b u q
  slot := fun b u q _ _ _ => ⟨u.slots, k b u q⟩
  free := fun b u q n _ => by rw [upd_ne (Nat.ne_of_lt (Nat.lt_of_lt_of_le (Heap.lt_size q) hp))]; exact n
  there := fun b u q _ => ⟨u, k b u q⟩
  tups := fun b xs q => by rw [upd_ne (ne_of_none q hn)]; exact q
  frzs := fun b u xs q => by rw [upd_ne (ne_of_none q hn)]; exact q
  tbls := fun b ps q => ⟨#[], by rw [upd_ne (ne_of_none q hn), q]; simp⟩
theorem Un.write (mu : Mut (H x)) (he : e = x ∨ H e = some (.own x)) (k : ∀ b u, b ≠ e → h.get? b = some u → h'.get? b = some u) (heo : ∃ u, h'.get? e = some u) : Un fs ex H (upd H x o) h h' := by
  have hx : ∀ b, H b = none → b ≠ x := fun b n z => by subst z; rw [n] at mu; exact mu
  have hb : ∀ b, H b = none → b ≠ e := fun b n z => by
    subst z
    rcases he with r | r
    · exact hx b n r
    · rw [n] at r; cases r
  have hm : ∀ b u, H b = some u → ¬ Mut (some u) → b ≠ x := fun b u q nm z => by subst z; rw [q] at mu; exact nm mu
  refine ⟨fun b u q n _ _ => k b u (hb b n) q, fun b u q n _ _ => ⟨u.slots, k b u (hb b n) q⟩, fun b u q n _ => by rw [upd_ne (hx b n)]; exact n, fun b u q _ => ?_,
    fun b xs q => by rw [upd_ne (hm b _ q fun z => z)]; exact q, fun b u xs q => by rw [upd_ne (hm b _ q fun z => z)]; exact q, fun b ps q => ⟨#[], by rw [upd_ne (hm b _ q fun z => z), q]; simp⟩⟩
  by_cases hbe : b = e
  · subst hbe; exact heo
  · exact ⟨u, k b u hbe q⟩
end

noncomputable def trk (h : Heap) (H : Hp) : List Addr := (List.range h.objs.size).filter fun a => (H a).isSome
noncomputable def hidT (h : Heap) (H : Hp) : Heap := PySem.W.hideAll h (trk h H)
theorem hidT_size (h : Heap) (H : Hp) : (hidT h H).objs.size = h.objs.size := PySem.W.hideAll_size _ _
theorem hidT_get {h : Heap} {H : Hp} {b : Addr} {o : Obj} (e : h.get? b = some o) (n : H b = none) : (hidT h H).get? b = some o :=
  PySem.W.hideAll_get _ e fun hm => by
    have q : (H b).isSome = true := (List.mem_filter.mp hm).2
    rw [n] at q; simp at q
theorem of_hidT {h : Heap} {H : Hp} {b : Addr} {o : Obj} (e : (hidT h H).get? b = some o) : h.get? b = some o ∧ H b = none := by
  have e' : h.get? b = some o := PySem.W.of_hideAll (trk h H) e
  refine ⟨e', ?_⟩
  cases q : H b with
  | none => rfl
  | some x =>
    have hm : b ∈ trk h H := List.mem_filter.mpr ⟨List.mem_range.mpr (Heap.lt_size e'), by simp [q]⟩
    have z : (hidT h H).get? b = none := PySem.W.hideAll_none (trk h H) hm
    rw [z] at e; cases e

end L2

namespace L2
open PySem PySem.Spec PyProof.Rows

structure Mod (K : PySem.W.Frag) (mg : Str → Option Value) (base : Heap) : Prop where
  kin : K.In base
  glob : base.Ns mainGlobals mg
  blt : ∃ mb, base.Ns builtinsNs mb ∧ ∀ x : Str, x ≠ "__name__" → mb x = bootBuiltins x
  nolimit : base.NoLimit

structure Cx where
  prog : Program
  w : World
  K : PySem.W.Frag
  mg : Str → Option Value
  base : Heap
  A : Around
  N : List Str
  s₀ : Shared
  H₀ : Hp
  env : Env
  outer : List Env
  stack : List Env
  ex : List Addr
  fn : Str → Bool
  calm : Bool
  pn : List (Addr × Obj)
  xe : Value → Shared → Prop
noncomputable def frs (l : List Env) : List Addr := l.filterMap (·.frame)
noncomputable abbrev Cx.fs (X : Cx) : List Addr := frs X.outer

noncomputable def Vis (sc : Scope) (x : Str) : Prop := sc.names.lookup x = some .local ∨ sc.names.lookup x = some .cell ∨ sc.names.lookup x = some .free
noncomputable def Loc (sc : Scope) (x : Str) : Prop := sc.names.lookup x = some .local ∨ sc.names.lookup x = some .cell
noncomputable def Look (env : Env) (h : Heap) (m : Str → Option Value) (x : Str) (u : Value) : Prop :=
  (env.kindOf x = some .local ∧ m x = some u) ∨ ((env.kindOf x = some .cell ∨ env.kindOf x = some .free) ∧ ∃ c, env.cells.lookup x = some c ∧ h.IsCell c (some u))

structure Cx.Ok (X : Cx) : Prop where
  mod : Mod X.K X.mg X.base
  kind : X.env.scope.kind = .function
  glob : X.env.globals = mainGlobals
  blt : X.env.builtins = builtinsNs
  above : X.s₀.heap.objs.size ≤ X.env.locals
  inj : ∀ x y c, X.env.cells.lookup x = some c → X.env.cells.lookup y = some c → x = y
  has : ∀ x, (X.env.kindOf x = some .cell ∨ X.env.kindOf x = some .free) → ∃ c, X.env.cells.lookup x = some c
  cab : ∀ x c, X.fn x = true → X.env.cells.lookup x = some c → X.s₀.heap.objs.size ≤ c
  hd : X.calm = true → X.A.handled = none
  frames : X.A.frames = some X.stack
  stk : X.stack = X.outer ∨ (X.stack = X.env :: X.outer ∧ X.env.frame = some X.env.locals)
  exf : ∀ b ∈ X.ex, b ≠ X.env.locals ∧ ∀ x c, X.env.cells.lookup x = some c → c ≠ b
  bs : ∀ b o, X.base.get? b = some o → X.s₀.heap.get? b = some o ∧ X.H₀ b = none
  bsz : X.base.objs.size ≤ X.s₀.heap.objs.size
  noex : ∀ b o, X.base.get? b = some o → b ∉ X.ex
  exfs : ∀ b ∈ X.ex, b ∉ X.fs
  funs : X.s₀.heap.FunFrames X.base X.outer
  frf : ∀ b ∈ X.fs, X.H₀ b = none

structure Inv (X : Cx) (pins : List (Addr × Obj)) (σ : List (Option V)) (H : Hp) (s : Shared) : Prop where
  ok : X.Ok
  os : s.os = X.s₀.os
  bare : AllBare s.gens
  base : Un X.fs X.ex X.H₀ H X.s₀.heap s.heap
  loc : ∃ m, s.heap.Ns X.env.locals m ∧ ∀ (i : Nat) (x : Str) (v : V), X.N[i]? = some x → σ[i]? = some (some v) → Vis X.env.scope x → ∃ u, RelV v u ∧ Look X.env s.heap m x u
  cell : ∀ x c, X.env.cells.lookup x = some c → ∃ v, s.heap.IsCell c v
  free : H X.env.locals = none
  freeC : ∀ x c, X.env.cells.lookup x = some c → H c = none
  pin : ∀ p ∈ X.pn ++ pins, s.heap.get? p.1 = some p.2 ∧ H p.1 = none ∧ p.1 ≠ X.env.locals ∧ p.1 ∉ X.fs ∧ ∀ v, p.2.data ≠ .cell v
  hok : HOk X.prog X.w H s.heap
  len : σ.length = X.N.length

section
variable {X : Cx} {pins : List (Addr × Obj)} {σ : List (Option V)} {H H' : Hp} {s : Shared} {h' : Heap}

theorem Cx.Ok.nofr (ok : X.Ok) {b : Addr} {o : Obj} (e : X.base.get? b = some o) : b ∉ X.fs := fun hb => by
  have := (ok.funs.mem hb).1
  rw [e] at this; cases this
theorem Inv.bs (I : Inv X pins σ H s) : ∀ b o, X.base.get? b = some o → s.heap.get? b = some o ∧ H b = none := fun b o e =>
  ⟨I.base.keep b o (I.ok.bs b o e).1 (I.ok.bs b o e).2 (I.ok.nofr e) (I.ok.noex b o e), I.base.free b o (I.ok.bs b o e).1 (I.ok.bs b o e).2 (I.ok.noex b o e)⟩
theorem Inv.bk (I : Inv X pins σ H s) : ∀ b o, X.base.get? b = some o → s.heap.get? b = some o := fun b o e => (I.bs b o e).1
theorem Inv.mod (I : Inv X pins σ H s) : Mod X.K X.mg X.base := I.ok.mod
theorem Inv.kIn (I : Inv X pins σ H s) : X.K.In s.heap := I.ok.mod.kin.keeps I.bk
theorem Inv.lt (I : Inv X pins σ H s) : X.env.locals < s.heap.objs.size := let ⟨_, hn, _⟩ := I.loc; hn.lt
theorem Inv.sz (I : Inv X pins σ H s) : X.s₀.heap.objs.size ≤ s.heap.objs.size := Nat.le_trans I.ok.above (Nat.le_of_lt I.lt)
theorem Inv.nofs (I : Inv X pins σ H s) {a : Addr} (h : s.heap.objs.size ≤ a) : a ∉ X.fs := fun hb => by
  obtain ⟨_, o, ho, _⟩ := I.ok.funs.mem hb
  exact absurd (Nat.lt_of_lt_of_le (Heap.lt_size ho) (Nat.le_trans I.sz h)) (Nat.lt_irrefl _)
theorem Inv.cne (I : Inv X pins σ H s) : ∀ x c, X.env.cells.lookup x = some c → c ≠ X.env.locals := fun x c e z => by
  obtain ⟨v, o, ho, hd⟩ := I.cell x c e
  obtain ⟨m, ⟨o', es, ep, ho', hd', _⟩, _⟩ := I.loc
  rw [z, ho'] at ho; cases ho; rw [hd'] at hd; cases hd
theorem Inv.funs (I : Inv X pins σ H s) : s.heap.FunFrames X.base X.outer := by
  have all : ∀ (l : List Env), (∀ b ∈ frs l, b ∈ X.fs) → X.s₀.heap.FunFrames X.base l → s.heap.FunFrames X.base l := by
    intro l
    induction l with
    | nil => intro _ _; trivial
    | cons env r ih =>
      intro hs hl
      obtain ⟨hk, ⟨L, o, hf, hn, ho, hd⟩, hr⟩ := hl
      have hL : L ∈ X.fs := hs L (by unfold frs; rw [List.filterMap_cons, hf]; exact List.mem_cons_self)
      obtain ⟨sl, e⟩ := I.base.slot L o ho (I.ok.frf L hL) hL fun z => I.ok.exfs L z hL
      exact ⟨hk, ⟨L, _, hf, hn, e, hd⟩, ih (fun b hb => hs b (by unfold frs; rw [List.filterMap_cons, hf]; exact List.mem_cons_of_mem _ hb)) hr⟩
  exact all X.outer (fun _ hb => hb) I.ok.funs

theorem Inv.stack (I : Inv X pins σ H s) : s.heap.FunFrames X.base X.stack := by
  rcases I.ok.stk with e | ⟨e, hf⟩
  · rw [e]; exact I.funs
  · rw [e]
    obtain ⟨m, hn, _⟩ := I.loc
    refine .cons (by rw [I.ok.kind]; decide) hf hn ?_ I.funs
    exact Heap.get?_none_of_le (Nat.le_trans I.ok.bsz I.ok.above)
theorem Inv.stkSub (I : Inv X pins σ H s) : ∀ b ∈ frs X.stack, b ∈ X.env.locals :: X.fs := fun b hb => by
  rcases I.ok.stk with e | ⟨e, hf⟩
  · rw [e] at hb; exact List.mem_cons_of_mem _ hb
  · rw [e] at hb
    unfold frs at hb
    rw [List.filterMap_cons, hf] at hb
    exact hb
theorem Inv.stkFree (I : Inv X pins σ H s) : ∀ b ∈ frs X.stack, H b = none := fun b hb => by
  rcases List.mem_cons.mp (I.stkSub b hb) with e | hb
  · rw [e]; exact I.free
  · obtain ⟨_, o, ho, _⟩ := I.ok.funs.mem hb
    exact I.base.free b o ho (I.ok.frf b hb) fun z => I.ok.exfs b z hb

theorem Inv.step {g' : Array GenState} {t' : Nat} {d' : Drawn} {ch : List Addr} (I : Inv X pins σ H s)
    (hch : ∀ b ∈ ch, (b ∈ X.ex ∨ X.s₀.heap.objs.size ≤ b) ∧ b ≠ X.env.locals ∧ (∀ x c, X.env.cells.lookup x = some c → c ≠ b) ∧ ∀ p ∈ X.pn ++ pins, p.1 ≠ b)
    (keep : ∀ b o, b ≠ X.env.locals → b ∉ X.fs → b ∉ ch → s.heap.get? b = some o → H b = none → h'.get? b = some o)
    (slot : ∀ b o, b ≠ X.env.locals → b ∈ X.fs → b ∉ ch → s.heap.get? b = some o → H b = none → ∃ sl, h'.get? b = some { o with slots := sl }) (free : ∀ b o, b ∉ ch → s.heap.get? b = some o → H b = none → H' b = none)
    (there : ∀ b o, b ∉ ch → s.heap.get? b = some o → ∃ o', h'.get? b = some o')
    (tups : ∀ b xs, H b = some (.tup xs) → H' b = some (.tup xs)) (frzs : ∀ b o u, H b = some (.frz o u) → H' b = some (.frz o u)) (tbls : ∀ b ps, H b = some (.tbl ps) → ∃ more, H' b = some (.tbl (ps ++ more)))
    (ns : ∀ m, s.heap.Ns X.env.locals m → h'.Ns X.env.locals m) (hok : HOk X.prog X.w H' h') (hg : AllBare g') :
    Inv X pins σ H' { s with heap := h', gens := g', drawn := d', toks := t' } := by
  have neL : ∀ b o, X.s₀.heap.get? b = some o → b ≠ X.env.locals := fun b o e => Nat.ne_of_lt (Nat.lt_of_lt_of_le (Heap.lt_size e) I.ok.above)
  have neC : ∀ b o, X.s₀.heap.get? b = some o → b ∉ X.ex → b ∉ ch := fun b o e hx hb => by
    rcases (hch b hb).1 with z | z
    · exact hx z
    · exact absurd (Nat.lt_of_lt_of_le (Heap.lt_size e) z) (Nat.lt_irrefl _)
  have cellK : ∀ x c, X.env.cells.lookup x = some c → ∀ v, s.heap.IsCell c v → h'.IsCell c v := fun x c e v ⟨o, ho, hd⟩ => by
    have nch : c ∉ ch := fun z => (hch c z).2.2.1 x c e rfl
    by_cases hc : c ∈ X.fs
    · obtain ⟨sl, q⟩ := slot c o (I.cne x c e) hc nch ho (I.freeC x c e)
      exact ⟨_, q, hd⟩
    · exact ⟨o, keep c o (I.cne x c e) hc nch ho (I.freeC x c e), hd⟩
  refine ⟨I.ok, I.os, hg, ⟨fun b o e n hb hx => ?_, fun b o e n hb hx => ?_, fun b o e n hx => ?_, fun b o e hx => ?_, fun b xs e => tups b xs (I.base.tups b xs e), fun b o xs e => frzs b o xs (I.base.frzs b o xs e), fun b ps e => ?_⟩, ?_, fun x c e => ?_, ?_, fun x c e => ?_, fun p hp => ?_, hok, I.len⟩
  · exact keep b o (neL b o e) hb (neC b o e hx) (I.base.keep b o e n hb hx) (I.base.free b o e n hx)
  · obtain ⟨sl, e1⟩ := I.base.slot b o e n hb hx
    obtain ⟨sl', e2⟩ := slot b _ (neL b o e) hb (neC b o e hx) e1 (I.base.free b o e n hx)
    exact ⟨sl', e2⟩
  · obtain ⟨o', e1⟩ := I.base.there b o e hx
    exact free b o' (neC b o e hx) e1 (I.base.free b o e n hx)
  · obtain ⟨o', e1⟩ := I.base.there b o e hx
    exact there b o' (neC b o e hx) e1
  · obtain ⟨m1, e1⟩ := I.base.tbls b ps e
    obtain ⟨m2, e2⟩ := tbls b _ e1
    exact ⟨m1 ++ m2, by rw [e2, Array.append_assoc]⟩
  · obtain ⟨m, hn, hl⟩ := I.loc
    refine ⟨m, ns m hn, fun i x v e1 e2 e3 => ?_⟩
    obtain ⟨u, r, l⟩ := hl i x v e1 e2 e3
    refine ⟨u, r, ?_⟩
    rcases l with l | ⟨k, c, e, z⟩
    · exact .inl l
    · exact .inr ⟨k, c, e, cellK x c e _ z⟩
  · obtain ⟨v, z⟩ := I.cell x c e
    exact ⟨v, cellK x c e v z⟩
  · obtain ⟨m, ⟨o, _, _, ho, _⟩, _⟩ := I.loc
    exact free _ o (fun z => (hch _ z).2.1 rfl) ho I.free
  · obtain ⟨v, o, ho, hd⟩ := I.cell x c e
    exact free c o (fun z => (hch c z).2.2.1 x c e rfl) ho (I.freeC x c e)
  · obtain ⟨e, n, ne, nf, d⟩ := I.pin p hp
    have nch : p.1 ∉ ch := fun z => (hch p.1 z).2.2.2 p hp rfl
    exact ⟨keep p.1 p.2 ne nf nch e n, free p.1 p.2 nch e n, ne, nf, d⟩
theorem Inv.un {t' : Nat} (I : Inv X pins σ H s) (u : Un X.fs [] H H' s.heap h') (hok : HOk X.prog X.w H' h') : Inv X pins σ H' { s with heap := h', toks := t' } := by
  obtain ⟨m, ⟨o, es, ep, ho, r⟩, _⟩ := id I.loc
  obtain ⟨sl, hL⟩ := u.any ho I.free (by simp)
  exact I.step (g' := s.gens) (d' := s.drawn) (ch := []) (fun _ z => nomatch z) (fun b o _ hb _ e n => u.keep b o e n hb (by simp)) (fun b o _ hb _ e n => u.slot b o e n hb (by simp)) (fun b o _ e n => u.free b o e n (by simp)) (fun b o _ e => u.there b o e (by simp)) u.tups u.frzs u.tbls (fun m' hm => by
    obtain ⟨o', es', ep', ho', r'⟩ := hm
    rw [ho] at ho'; cases ho'
    exact ⟨_, es', ep', hL, r'⟩) hok I.bare
theorem Inv.call {g' : Array GenState} {t' : Nat} {d' : Drawn} {ch : List Addr} (I : Inv X pins σ H s) (u : Un (frs X.stack) ch H H' s.heap h') (hok : HOk X.prog X.w H' h') (hg : AllBare g')
    (hch : ∀ b ∈ ch, (b ∈ X.ex ∨ X.s₀.heap.objs.size ≤ b) ∧ b ≠ X.env.locals ∧ (∀ x c, X.env.cells.lookup x = some c → c ≠ b) ∧ ∀ p ∈ X.pn ++ pins, p.1 ≠ b) :
    Inv X pins σ H' { s with heap := h', gens := g', drawn := d', toks := t' } := by
  obtain ⟨m, ⟨o, es, ep, ho, r⟩, _⟩ := id I.loc
  obtain ⟨sl, hL⟩ := u.any ho I.free fun z => (hch _ z).2.1 rfl
  exact I.step (ch := ch) hch (fun b o hL hb hc e n => u.keep b o e n (fun z => (List.mem_cons.mp (I.stkSub b z)).elim hL hb) hc) (fun b o _ _ hc e n => u.any e n hc) (fun b o hc e n => u.free b o e n hc) (fun b o hc e => u.there b o e hc) u.tups u.frzs u.tbls (fun m' hm => by
    obtain ⟨o', es', ep', ho', r'⟩ := hm
    rw [ho] at ho'; cases ho'
    exact ⟨_, es', ep', hL, r'⟩) hok hg
theorem Inv.turned {t' : Nat} {it : Addr} (I : Inv X pins σ H s) (k : ∀ b o, b ≠ it → s.heap.get? b = some o → h'.get? b = some o) (hn : H it = none) (hL : it ≠ X.env.locals)
    (h1 : it ∈ X.ex ∨ X.s₀.heap.objs.size ≤ it) (h2 : ∀ x c, X.env.cells.lookup x = some c → c ≠ it) (h3 : ∀ p ∈ X.pn ++ pins, p.1 ≠ it) : Inv X pins σ H { s with heap := h', toks := t' } := by
  have nit : ∀ b u, H b = some u → b ≠ it := fun b u e z => by rw [z, hn] at e; cases e
  refine I.step (g' := s.gens) (d' := s.drawn) (ch := [it]) (fun b hb => ?_) (fun b o _ _ hc e _ => k b o (fun z => hc (by simp [z])) e) (fun b o _ _ hc e _ => ⟨o.slots, k b o (fun z => hc (by simp [z])) e⟩) (fun _ _ _ _ n => n)
    (fun b o hc e => ⟨o, k b o (fun z => hc (by simp [z])) e⟩) (fun _ _ e => e) (fun _ _ _ e => e) (fun b ps e => ⟨#[], by rw [e]; simp⟩) (fun m hm => ?_) (fun b u e => ?_) I.bare
  · have e : b = it := by simpa using hb
    subst e
    exact ⟨h1, hL, h2, h3⟩
  · obtain ⟨o, es, ep, ho, r⟩ := hm
    exact ⟨o, es, ep, k _ o (Ne.symm hL) ho, r⟩
  · refine (I.hok b u e).stay (fun c v hc q => k c v ?_ q) (fun _ q => q) fun _ _ q => q
    rcases hc with z | z
    · rw [z]; exact nit b u e
    · exact nit c _ z
theorem Inv.tok (I : Inv X pins σ H s) (t : Nat) : Inv X pins σ H { s with toks := t } := I.un (h' := s.heap) (t' := t) Un.refl I.hok
theorem Inv.kept {t' : Nat} (I : Inv X pins σ H s) (k : ∀ b u, s.heap.get? b = some u → h'.get? b = some u) : Inv X pins σ H { s with heap := h', toks := t' } := I.un (Un.kept k) (I.hok.kept k)
theorem Inv.laid {a : Addr} {o : HO} {t' : Nat} (I : Inv X pins σ H s) (k : ∀ b u, s.heap.get? b = some u → h'.get? b = some u) (hp : s.heap.objs.size ≤ a) (new : ObjOk X.prog X.w (upd H a o) h' a o) :
    Inv X pins σ (upd H a o) { s with heap := h', toks := t' } := I.un (Un.laid k hp (I.hok.fresh hp)) (I.hok.laid k hp new)
theorem Inv.write {x e : Addr} {o : HO} {t' : Nat} (I : Inv X pins σ H s) (mu : Mut (H x)) (he : e = x ∨ H e = some (.own x)) (k : ∀ b u, b ≠ e → s.heap.get? b = some u → h'.get? b = some u) (heo : ∃ u, h'.get? e = some u)
    (new : ObjOk X.prog X.w (upd H x o) h' x o) : Inv X pins σ (upd H x o) { s with heap := h', toks := t' } := I.un (Un.write mu he k heo) (I.hok.write mu he k heo new)
theorem Inv.pins_of {pins' : List (Addr × Obj)} (I : Inv X pins σ H s) (h : ∀ p ∈ pins', s.heap.get? p.1 = some p.2 ∧ H p.1 = none ∧ p.1 ≠ X.env.locals ∧ p.1 ∉ X.fs ∧ ∀ v, p.2.data ≠ .cell v) : Inv X pins' σ H s :=
  ⟨I.ok, I.os, I.bare, I.base, I.loc, I.cell, I.free, I.freeC, fun p hp => (List.mem_append.mp hp).elim (fun z => I.pin p (List.mem_append_left _ z)) (h p), I.hok, I.len⟩

theorem nodup_ix {N : List Str} (hN : N.Nodup) {i j : Nat} {x : Str} (a : N[i]? = some x) (b : N[j]? = some x) : i = j := by
  obtain ⟨h1, e1⟩ := List.getElem?_eq_some_iff.mp a
  obtain ⟨h2, e2⟩ := List.getElem?_eq_some_iff.mp b
  exact (List.getElem_inj hN).mp (e1.trans e2.symm)

theorem store_ok2 {M : Model} {A : Around} {E : Value → Shared → Prop} {i : Nat} {x : Str} {v : V} {u : Value} {Q : Unit → Shared → Prop} (I : Inv X pins σ H s) (hN : X.N.Nodup) (hi : X.N[i]? = some x) (hx : Loc X.env.scope x) (r : RelV v u)
    (h : ∀ s', Inv X pins (σ.set i (some v)) H s' → (∃ a, Heap.SameBut a s.heap s'.heap ∧ (a = X.env.locals ∨ X.env.cells.lookup x = some a)) → Q () s') (hf : X.fn x = true ∨ X.env.scope.names.lookup x = some .local := by first | exact .inl rfl | exact .inr rfl | assumption) : wpAny M A (storeName X.env x u) Q E s := by
  obtain ⟨m, hn, hl⟩ := id I.loc
  have hcls : (X.env.scope.kind == .class || (X.env.scope.kind == .module && X.env.locals != X.env.globals)) = false := by rw [I.ok.kind]; rfl
  have hiσ : i < σ.length := by rw [I.len]; exact (List.getElem?_eq_some_iff.mp hi).1
  have cne := I.cne
  have tracked : ∀ {a : Addr} {h' : Heap}, (∃ o, s.heap.get? a = some o ∧ H a = none) → Heap.SameBut a s.heap h' → HOk X.prog X.w H h' := fun {a h'} ha hs b ob e => by
    obtain ⟨_, _, hfree⟩ := ha
    refine (I.hok b ob e).stay (fun c w' hc q => (hs.2 c ?_).trans q) (fun _ q => q) fun _ _ q => q
    rintro rfl
    rcases hc with rfl | hc
    · rw [hfree] at e; cases e
    · rw [hfree] at hc; cases hc
  rcases hx with hk | hk
  · refine wpAny_storeName_local hk hn (fun h' hn' hs => ?_) hcls
    obtain ⟨oL, _, _, hoL, _⟩ := id hn
    refine h _ ⟨I.ok, I.os, I.bare, ⟨fun b o e n hb hx => ?_, fun b o e n hb hx => ?_, I.base.free, fun b o e hx => ?_, I.base.tups, I.base.frzs, I.base.tbls⟩, ⟨_, hn', fun j y v' e1 e2 e3 => ?_⟩, fun y c e => ?_, I.free, I.freeC, fun p hp => ?_, tracked ⟨oL, hoL, I.free⟩ hs, by simpa using I.len⟩ ⟨_, hs, .inl rfl⟩
    · exact (hs.2 b (Nat.ne_of_lt (Nat.lt_of_lt_of_le (Heap.lt_size e) I.ok.above))).trans (I.base.keep b o e n hb hx)
    · obtain ⟨sl, e1⟩ := I.base.slot b o e n hb hx
      exact ⟨sl, (hs.2 b (Nat.ne_of_lt (Nat.lt_of_lt_of_le (Heap.lt_size e) I.ok.above))).trans e1⟩
    · obtain ⟨o', e1⟩ := I.base.there b o e hx
      exact ⟨o', (hs.2 b (Nat.ne_of_lt (Nat.lt_of_lt_of_le (Heap.lt_size e) I.ok.above))).trans e1⟩
    · by_cases hj : j = i
      · subst hj
        rw [hi] at e1; cases e1
        rw [List.getElem?_set_self hiσ] at e2
        cases e2
        exact ⟨u, r, .inl ⟨hk, by simp⟩⟩
      · rw [List.getElem?_set_ne (Ne.symm hj)] at e2
        obtain ⟨u', r', q⟩ := hl j y v' e1 e2 e3
        refine ⟨u', r', ?_⟩
        rcases q with ⟨k, e⟩ | ⟨k, c, e, z⟩
        · refine .inl ⟨k, ?_⟩
          have : y ≠ x := fun e => hj (nodup_ix hN e1 (e ▸ hi))
          simp [this, e]
        · exact .inr ⟨k, c, e, z.sameBut hs (cne y c e)⟩
    · obtain ⟨w', z⟩ := I.cell y c e
      exact ⟨w', z.sameBut hs (cne y c e)⟩
    · obtain ⟨e, n, ne, nf, d⟩ := I.pin p hp
      exact ⟨(hs.2 p.1 ne).trans e, n, ne, nf, d⟩
  · have hfn : X.fn x = true := by
      rcases hf with z | z
      · exact z
      · rw [z] at hk; cases hk
    obtain ⟨c, hc⟩ := I.ok.has x (.inl hk)
    obtain ⟨w', z⟩ := I.cell x c hc
    refine wpAny_storeName_cell I.ok.kind hk hc z (fun h' hc' hs => ?_)
    obtain ⟨oc, hoc, hocd⟩ := id z
    refine h { s with heap := h' } ⟨I.ok, I.os, I.bare, ⟨fun b o e n hb hx => ?_, fun b o e n hb hx => ?_, I.base.free, fun b o e hx => ?_, I.base.tups, I.base.frzs, I.base.tbls⟩, ⟨m, hn.sameBut hs (Ne.symm (cne x c hc)), fun j y v' e1 e2 e3 => ?_⟩, fun y c' e => ?_, I.free, I.freeC, fun p hp => ?_, tracked ⟨oc, hoc, I.freeC x c hc⟩ hs, by simpa using I.len⟩ ⟨c, hs, .inr hc⟩
    · exact (hs.2 b (Nat.ne_of_lt (Nat.lt_of_lt_of_le (Heap.lt_size e) (I.ok.cab x c hfn hc)))).trans (I.base.keep b o e n hb hx)
    · obtain ⟨sl, e1⟩ := I.base.slot b o e n hb hx
      exact ⟨sl, (hs.2 b (Nat.ne_of_lt (Nat.lt_of_lt_of_le (Heap.lt_size e) (I.ok.cab x c hfn hc)))).trans e1⟩
    · obtain ⟨o', e1⟩ := I.base.there b o e hx
      exact ⟨o', (hs.2 b (Nat.ne_of_lt (Nat.lt_of_lt_of_le (Heap.lt_size e) (I.ok.cab x c hfn hc)))).trans e1⟩
    · by_cases hj : j = i
      · subst hj
        rw [hi] at e1; cases e1
        rw [List.getElem?_set_self hiσ] at e2
        cases e2
        exact ⟨u, r, .inr ⟨.inl hk, c, hc, hc'⟩⟩
      · rw [List.getElem?_set_ne (Ne.symm hj)] at e2
        obtain ⟨u', r', q⟩ := hl j y v' e1 e2 e3
        refine ⟨u', r', ?_⟩
        rcases q with q | ⟨k, c', e, z'⟩
        · exact .inl q
        · refine .inr ⟨k, c', e, z'.sameBut hs ?_⟩
          rintro rfl
          exact hj (nodup_ix hN e1 (I.ok.inj _ _ _ e hc ▸ hi))
    · by_cases hcc : c' = c
      · subst hcc; exact ⟨_, hc'⟩
      · obtain ⟨w2, z2⟩ := I.cell y c' e
        exact ⟨w2, z2.sameBut hs hcc⟩
    · obtain ⟨e, n, ne, nf, d⟩ := I.pin p hp
      refine ⟨(hs.2 p.1 ?_).trans e, n, ne, nf, d⟩
      intro q
      rw [q, hoc] at e
      have q' : oc = p.2 := Option.some.inj e
      exact d w' (by rw [← q']; exact hocd)
theorem store_ok {M : Model} {A : Around} {E : Value → Shared → Prop} {i : Nat} {x : Str} {v : V} {u : Value} {Q : Unit → Shared → Prop} (I : Inv X pins σ H s) (hN : X.N.Nodup) (hi : X.N[i]? = some x) (hx : Loc X.env.scope x) (r : RelV v u)
    (h : ∀ s', Inv X pins (σ.set i (some v)) H s' → Q () s') (hf : X.fn x = true ∨ X.env.scope.names.lookup x = some .local := by first | exact .inl rfl | exact .inr rfl | assumption) : wpAny M A (storeName X.env x u) Q E s :=
  store_ok2 I hN hi hx r (fun s' I' _ => h s' I') hf
theorem Inv.call' {s' : Shared} {ch : List Addr} (I : Inv X pins σ H s) (ho : s'.os = s.os) (u : Un (frs X.stack) ch H H' s.heap s'.heap) (hok : HOk X.prog X.w H' s'.heap) (hg : AllBare s'.gens)
    (hch : ∀ b ∈ ch, (b ∈ X.ex ∨ X.s₀.heap.objs.size ≤ b) ∧ b ≠ X.env.locals ∧ (∀ x c, X.env.cells.lookup x = some c → c ≠ b) ∧ ∀ p ∈ X.pn ++ pins, p.1 ≠ b) : Inv X pins σ H' s' := by
  obtain ⟨h', g', d', t', o'⟩ := s'
  have e : o' = s.os := ho
  subst e
  exact I.call (g' := g') (t' := t') (d' := d') u hok hg hch
end

noncomputable abbrev XK := Value → Option Addr → Hp → Prop
noncomputable abbrev St := List (Option V)
noncomputable abbrev VK := V → Hp → Prop
noncomputable abbrev TE := St → Hp → VK → Prop
noncomputable abbrev TT := St → Hp → (Bool → Hp → Prop) → Prop
noncomputable abbrev TA := St → Hp → (List V → Hp → Prop) → Prop
structure Ends where
  nx : St → Hp → Prop
  rt : VK
  bk : St → Hp → Prop := fun _ _ => False
  ct : St → Hp → Prop := fun _ _ => False
noncomputable abbrev TS := Ends → St → Hp → Prop

noncomputable def EP (X : Cx) (pins : List (Addr × Obj)) (σ : St) (Q : VK) (u : Value) (s' : Shared) : Prop := ∃ v H', Inv X pins σ H' s' ∧ RelV v u ∧ Q v H'
noncomputable def TP (X : Cx) (pins : List (Addr × Obj)) (σ : St) (Q : Bool → Hp → Prop) (b : Bool) (s' : Shared) : Prop := ∃ H', Inv X pins σ H' s' ∧ Q b H'
noncomputable def AP (X : Cx) (pins : List (Addr × Obj)) (σ : St) (Q : List V → Hp → Prop) (us : List Value) (s' : Shared) : Prop := ∃ vs H', Inv X pins σ H' s' ∧ Vals vs us ∧ Q vs H'
noncomputable def SP (X : Cx) (pins : List (Addr × Obj)) (D : Ends) (f : Flow) (s' : Shared) : Prop :=
  match f with
  | .next => ∃ σ' H', Inv X pins σ' H' s' ∧ D.nx σ' H'
  | .brk => ∃ σ' H', Inv X pins σ' H' s' ∧ D.bk σ' H'
  | .cont => ∃ σ' H', Inv X pins σ' H' s' ∧ D.ct σ' H'
  | .ret u => ∃ v σ' H', Inv X pins σ' H' s' ∧ RelV v u ∧ D.rt v H'

noncomputable def PE (X : Cx) (e : Expr) (t : TE) : Prop :=
  ∀ (pins : List (Addr × Obj)) (s : Shared) (σ : St) (H : Hp) (Q : VK), Inv X pins σ H s → t σ H Q → wpAny (model X.prog X.w) X.A (eval e X.env) (EP X pins σ Q) X.xe s
noncomputable def PT (X : Cx) (e : Expr) (t : TT) : Prop :=
  ∀ (pins : List (Addr × Obj)) (s : Shared) (σ : St) (H : Hp) (Q : Bool → Hp → Prop), Inv X pins σ H s → t σ H Q → wpAny (model X.prog X.w) X.A (isTrue e X.env (eval e X.env)) (TP X pins σ Q) X.xe s
noncomputable def PW (X : Cx) (e : Expr) (t : TT) : Prop :=
  ∀ (whole : Sem Value) (pins : List (Addr × Obj)) (s : Shared) (σ : St) (H : Hp) (Q : Bool → Hp → Prop), Inv X pins σ H s → t σ H Q → wpAny (model X.prog X.w) X.A (isTrue e X.env whole) (TP X pins σ Q) X.xe s
theorem PW.pt {X : Cx} {e : Expr} {t : TT} (h : PW X e t) : PT X e t := h _
noncomputable def PA (X : Cx) (es : List Expr) (t : TA) : Prop :=
  ∀ (pos : Pos) (pins : List (Addr × Obj)) (s : Shared) (σ : St) (H : Hp) (Q : List V → Hp → Prop), Inv X pins σ H s → t σ H Q → wpAny (model X.prog X.w) X.A (spliced (backTo pos (starEach es X.env))) (AP X pins σ Q) X.xe s
noncomputable def PS (X : Cx) (st : Stmt) (t : TS) : Prop :=
  ∀ (pins : List (Addr × Obj)) (s : Shared) (σ : St) (H : Hp) (D : Ends), Inv X pins σ H s → t D σ H → wpAny (model X.prog X.w) X.A (exec st X.env) (SP X pins D) X.xe s
noncomputable def PSs (X : Cx) (st : List Stmt) (t : TS) : Prop :=
  ∀ (pins : List (Addr × Obj)) (s : Shared) (σ : St) (H : Hp) (D : Ends), Inv X pins σ H s → t D σ H → wpAny (model X.prog X.w) X.A (execs st X.env) (SP X pins D) X.xe s
theorem thn {α : Type} {t : Sem α} {Q Q' : α → Shared → Prop} {M : Model} {A : Around} {E : Value → Shared → Prop} {s : Shared} (h : wpAny M A t Q E s) (hQ : ∀ a s, Q a s → Q' a s) : wpAny M A t Q' E s := wpAny_mono h hQ fun _ _ x => x
end L2

namespace L2
open PySem PySem.Spec PyProof.Rows
section
variable {X : Cx}

noncomputable def tVar (i : Nat) : TE := fun σ H Q => ∃ v, σ[i]? = some (some v) ∧ Q v H
noncomputable def tC (v : V) : TE := fun _ H Q => Q v H
theorem pe_var {i : Nat} {x : Str} {pos : Pos} (hN : X.N[i]? = some x) (hv : Vis X.env.scope x) (hd : (x == ("__debug__" : Str)) = false := by decide) (hcd : (x == ("__classdict__" : Str)) = false := by decide) : PE X (.Name x pos) (tVar i) := by
  intro pins s σ H Q I h
  obtain ⟨v, e, h⟩ := h
  obtain ⟨m, hn, hl⟩ := I.loc
  obtain ⟨u, r, l⟩ := hl i x v hN e hv
  have fin : EP X pins σ Q u s := ⟨v, H, I, r, h⟩
  rcases l with ⟨hk, hm⟩ | ⟨hk, c, hc, hcell⟩
  · exact wpAny_Name (wpAny_loadName_local I.ok.kind hk hn hm fin) hd
  · rcases hk with hk | hk
    · exact wpAny_Name (wpAny_loadName_cell I.ok.kind hk hc hcell fin) hd
    · exact wpAny_Name (wpAny_loadName_free I.ok.kind hk hc hcell fin hcd) hd
theorem pe_int {i j pos} : PE X (.Constant (.int i) j pos) (tC (.int i)) := fun _ _ _ H _ I h => wpAny_Constant_int ⟨.int i, H, I.tok _, ⟨_, rfl⟩, h⟩
theorem pe_bl {b j pos} : PE X (.Constant (.bool b) j pos) (tC (.bl b)) := fun _ _ _ H _ I h => Constant_bool ⟨.bl b, H, I, rfl, h⟩
theorem pe_non {j pos} : PE X (.Constant .none j pos) (tC .non) := fun _ _ _ H _ I h => Constant_none ⟨.non, H, I, rfl, h⟩
theorem pe_str {x j pos} : PE X (.Constant (.str x) j pos) (tC (.str x)) := fun _ _ _ H _ I h => Calls.Constant_str ⟨.str x, H, I.tok _, ⟨_, rfl⟩, h⟩

noncomputable def Gl (X : Cx) (x : Str) : Prop := X.env.kindOf x = some .globalImplicit
theorem ld_glob {E : Value → Shared → Prop} {pins : List (Addr × Obj)} {s : Shared} {σ : St} {H : Hp} {x : Str} {u : Value} {pos : Pos} {Q : Value → Shared → Prop} (I : Inv X pins σ H s) (hg : Gl X x) (hm : X.mg x = some u) (h : Q u s)
    (hd : (x == ("__debug__" : Str)) = false := by decide) : wpAny (model X.prog X.w) X.A (eval (.Name x pos) X.env) Q E s :=
  Calls.Name_function_global I.ok.kind hg (Calls.loadGlobal_global (by rw [I.ok.glob]; exact I.mod.glob.keeps I.bk) hm h) hd
theorem ld_blt {E : Value → Shared → Prop} {pins : List (Addr × Obj)} {s : Shared} {σ : St} {H : Hp} {x : Str} {u : Value} {pos : Pos} {Q : Value → Shared → Prop} (I : Inv X pins σ H s) (hg : Gl X x) (hm : X.mg x = none) (hv : bootBuiltins x = some u) (h : Q u s)
    (hn : x ≠ "__name__" := by decide) (hd : (x == ("__debug__" : Str)) = false := by decide) : wpAny (model X.prog X.w) X.A (eval (.Name x pos) X.env) Q E s := by
  obtain ⟨mb, h1, h2⟩ := I.mod.blt
  exact Calls.Name_function_global I.ok.kind hg (Calls.loadGlobal_builtin (by rw [I.ok.glob]; exact I.mod.glob.keeps I.bk) hm (by rw [I.ok.blt]; exact h1.keeps I.bk) ((h2 x hn).trans hv) h) hd
theorem pe_glob {x : Str} {v : V} {u : Value} {pos : Pos} (hg : Gl X x) (hm : X.mg x = some u) (r : RelV v u) (hd : (x == ("__debug__" : Str)) = false := by decide) : PE X (.Name x pos) (tC v) :=
  fun _ _ _ H _ I h => ld_glob I hg hm ⟨v, H, I, r, h⟩ hd
theorem pe_bltn {x : Str} {v : V} {u : Value} {pos : Pos} (hg : Gl X x) (hm : X.mg x = none) (hv : bootBuiltins x = some u) (r : RelV v u) (hn : x ≠ "__name__" := by decide) (hd : (x == ("__debug__" : Str)) = false := by decide) : PE X (.Name x pos) (tC v) :=
  fun _ _ _ H _ I h => ld_blt I hg hm hv ⟨v, H, I, r, h⟩ hn hd

variable {a b : Expr} {ta tb : TE} {pos : Pos}
noncomputable def PC (X : Cx) (op : CmpOp) (a b : Expr) (t : TE) : Prop :=
  ∀ (pins : List (Addr × Obj)) (s : Shared) (σ : St) (H : Hp) (Q : VK), Inv X pins σ H s → t σ H Q →
    wpAny (model X.prog X.w) X.A (eval a X.env) (fun v s₁ => wpAny (model X.prog X.w) X.A (eval b X.env) (fun u s₂ => wpAny (model X.prog X.w) X.A (compareOp op v u) (EP X pins σ Q) X.xe s₂) X.xe s₁) X.xe s
noncomputable def tB (t : TE) : TT := fun σ H Q => t σ H fun x H1 => ∃ c, x = .bl c ∧ Q c H1
theorem pe_cmp {op : CmpOp} {t : TE} (h : PC X op a b t) (h1 : behindInMarks op b = false := by first | exact nobehind _ (by decide) (by decide) | rfl) : PE X (.Compare a [op] [b] pos) t := fun pins s σ H Q I hw => wpAny_Compare1 (h pins s σ H Q I hw) h1
theorem pt_val {e : Expr} {t : TE} (h : PE X e t) (he : ∀ whole, isTrue e X.env whole = (do let v ← whole; standAt e.pos; holding [v] (truthy v)) := by intro _; rfl) : PT X e (tB t) := by
  intro pins s σ H Q I hw
  refine isTrue_plain (thn (h pins s σ H _ I hw) fun v s1 ⟨x, H1, I1, r1, q1⟩ => ?_) (he _)
  obtain ⟨d, rfl, q⟩ := q1
  cases r1
  exact wpAny_truthy_bool ⟨H1, I1, q⟩

variable {tA tB' : TT} {rest : List Expr}
noncomputable def tAnd (t u : TT) : TT := fun σ H Q => t σ H fun c H1 => if c = true then u σ H1 Q else Q false H1
noncomputable def tOr (t u : TT) : TT := fun σ H Q => t σ H fun c H1 => if c = true then Q true H1 else u σ H1 Q
noncomputable def tNot (t : TT) : TT := fun σ H Q => t σ H fun c H1 => Q (!c) H1
theorem pw_and1 (ha : PT X a tA) : PW X (.BoolOp .And [a] pos) tA := by
  intro wh pins s σ H Q I h
  refine isTrue_and (thn (ha pins s σ H Q I h) fun c s1 e => ?_)
  cases c with
  | true => exact isTrue_and_nil e
  | false => exact e
theorem pw_or1 (ha : PT X a tA) : PW X (.BoolOp .Or [a] pos) tA := by
  intro wh pins s σ H Q I h
  refine isTrue_or (thn (ha pins s σ H Q I h) fun c s1 e => ?_)
  cases c with
  | false => exact isTrue_or_nil e
  | true => exact e
theorem pw_and (ha : PT X a tA) (hb : PW X (.BoolOp .And (b :: rest) pos) tB') : PW X (.BoolOp .And (a :: b :: rest) pos) (tAnd tA tB') := by
  intro wh pins s σ H Q I h
  refine isTrue_and (thn (ha pins s σ H _ I h) fun c s1 ⟨H1, I1, q1⟩ => ?_)
  cases c with
  | true => exact hb wh pins s1 σ H1 Q I1 q1
  | false => exact ⟨H1, I1, q1⟩
theorem pw_or (ha : PT X a tA) (hb : PW X (.BoolOp .Or (b :: rest) pos) tB') : PW X (.BoolOp .Or (a :: b :: rest) pos) (tOr tA tB') := by
  intro wh pins s σ H Q I h
  refine isTrue_or (thn (ha pins s σ H _ I h) fun c s1 ⟨H1, I1, q1⟩ => ?_)
  cases c with
  | true => exact ⟨H1, I1, q1⟩
  | false => exact hb wh pins s1 σ H1 Q I1 q1
theorem pt_not (ha : PT X a tA) : PT X (.UnaryOp .Not a pos) (tNot tA) := by
  intro pins s σ H Q I h
  exact isTrue_not (ha pins s σ H (fun c H1 => Q (!c) H1) I h)
noncomputable def tAndV (ta tb : TE) : TE := fun σ H Q => ta σ H fun x H1 => ∃ c, x = .bl c ∧ if c = true then tb σ H1 Q else Q (.bl false) H1
noncomputable def tNotV (ta : TE) : TE := fun σ H Q => ta σ H fun x H1 => ∃ c, x = .bl c ∧ Q (.bl (!c)) H1
theorem pe_one {op} {t : TE} (h : PE X a t) : PE X (.BoolOp op [a] pos) t := fun pins s σ H Q I hw => BoolOp_one (h pins s σ H Q I hw)
theorem pe_and (ha : PE X a ta) (hb : PE X (.BoolOp .And (b :: rest) pos) tb) : PE X (.BoolOp .And (a :: b :: rest) pos) (tAndV ta tb) := by
  intro pins s σ H Q I h
  refine BoolOp_and (thn (ha pins s σ H _ I h) fun v s1 ⟨x, H1, I1, r1, q1⟩ => ?_)
  obtain ⟨c, rfl, q1⟩ := q1
  cases r1
  refine wpAny_truthy_bool ?_
  cases c with
  | true => exact hb pins s1 σ H1 Q I1 q1
  | false => exact ⟨.bl false, H1, I1, rfl, q1⟩
theorem pe_not (ha : PE X a ta) : PE X (.UnaryOp .Not a pos) (tNotV ta) := by
  intro pins s σ H Q I h
  refine UnaryOp_ (thn (ha pins s σ H _ I h) fun v s1 ⟨x, H1, I1, r1, q1⟩ => ?_)
  obtain ⟨c, rfl, q1⟩ := q1
  cases r1
  exact not_of (wpAny_truthy_bool ⟨.bl (!c), H1, I1, rfl, q1⟩)
end
end L2

namespace L2
open PySem PySem.Spec PyProof.Rows

noncomputable def SqL (K : PySem.W.Frag) (H : Hp) (a : Addr) (xs : List V) : Prop :=
  Rd H a (.lst xs) ∨
    ∃ (o : Obj) (its : Array Value) (n : Nat), K.lookup a = some o ∧ o.cls = .type "list" ∧ o.dict = none ∧ o.data = .seq its n ∧ its.size ≤ sizeLine ∧ Vals xs its.toList
noncomputable def SqT (K : PySem.W.Frag) (H : Hp) (a : Addr) (xs : List V) : Prop :=
  Rd H a (.tup xs) ∨
    ∃ (o : Obj) (its : Array Value) (n : Nat), K.lookup a = some o ∧ o.cls = .type "tuple" ∧ o.data = .seq its n ∧ its.size ≤ sizeLine ∧ Vals xs its.toList
noncomputable def absV : Value → Option V
  | .none => some .non
  | .bool b => some (.bl b)
  | .int i _ => some (.int i)
  | .str x _ => some (.str x)
  | .bytes b _ => some (.byt b)
  | .float b _ => some (.flt b)
  | .ref a => some (.ref a)
  | .type n => some (.ty n)
  | _ => none
theorem RelV.abs {x : V} {u : Value} (r : RelV x u) : absV u = some x := by
  cases x with
  | non => cases r; rfl
  | bl _ => cases r; rfl
  | int _ => obtain ⟨t, rfl⟩ := r; rfl
  | str _ => obtain ⟨t, rfl⟩ := r; rfl
  | byt _ => obtain ⟨t, rfl⟩ := r; rfl
  | flt _ => obtain ⟨t, rfl⟩ := r; rfl
  | ref _ => cases r; rfl
  | ty _ => cases r; rfl
theorem RelV.inj {x y : V} {u : Value} (r : RelV x u) (q : RelV y u) : x = y := Option.some.inj (r.abs.symm.trans q.abs)
theorem list3 {α : Type} {us : List α} (h : us.length = 3) : ∃ a b c, us = [a, b, c] := by
  cases us with
  | nil => cases h
  | cons a us => cases us with
    | nil => cases h
    | cons b us => cases us with
      | nil => cases h
      | cons c us => cases us with
        | nil => exact ⟨a, b, c, rfl⟩
        | cons d us => cases h
theorem Vals.inj : ∀ {xs ys : List V} {us : List Value}, Vals xs us → Vals ys us → xs = ys := by
  intro xs ys us h
  revert ys
  induction h with
  | nil => intro ys h'; cases h'; rfl
  | cons r t ih => intro ys h'; cases h' with | cons r' t' => rw [r.inj r', ih t']
section
variable {X : Cx} {pins : List (Addr × Obj)} {σ : St} {H : Hp} {s : Shared} {a : Addr} {xs ys : List V}
theorem Inv.list (I : Inv X pins σ H s) (h : SqL X.K H a xs) : ∃ its : List Value, Vals xs its ∧ PlainL s.heap a its.toArray ∧ xs.length ≤ sizeLine := by
  rcases h with h | ⟨o, its, n, hk, hc, hd, hs, hz, r⟩
  · obtain ⟨z, its, n, r, e⟩ := h.ok I.hok
    exact ⟨its, r, ⟨_, n, e, rfl, rfl, rfl⟩, z⟩
  · refine ⟨its.toList, r, ⟨o, n, I.kIn a o hk, hc, hd, by simpa using hs⟩, ?_⟩
    have e := r.length
    simp only [Array.length_toList] at e
    omega
theorem Inv.tuple (I : Inv X pins σ H s) (h : SqT X.K H a xs) : ∃ its : List Value, Vals xs its ∧ IsTup s.heap a its.toArray ∧ xs.length ≤ sizeLine := by
  rcases h with h | ⟨o, its, n, hk, hc, hs, hz, r⟩
  · obtain ⟨z, its, r, p⟩ := h.ok I.hok
    exact ⟨its, r, p, z⟩
  · refine ⟨its.toList, r, ⟨o, I.kIn a o hk, hc, n, by simpa using hs⟩, ?_⟩
    have e := r.length
    simp only [Array.length_toList] at e
    omega
theorem Inv.list_inj (I : Inv X pins σ H s) (h : SqL X.K H a xs) (h' : SqL X.K H a ys) : xs = ys := by
  obtain ⟨its, r, ⟨o, n, e, _, _, d⟩, _⟩ := I.list h
  obtain ⟨its', r', ⟨o', n', e', _, _, d'⟩, _⟩ := I.list h'
  rw [e] at e'; cases e'
  rw [d] at d'
  injection d' with d1 _
  have : its = its' := by simpa using congrArg Array.toList d1
  subst this
  exact r.inj r'
end

noncomputable abbrev Cx.wish (X : Cx) (E : Value → Shared → Prop) : Cx := { X with xe := E }
noncomputable abbrev Cx.nox (X : Cx) : Cx := X.wish fun _ _ => False
theorem Cx.Ok.wish {X : Cx} (ok : X.Ok) (E : Value → Shared → Prop) : (X.wish E).Ok :=
  ⟨ok.mod, ok.kind, ok.glob, ok.blt, ok.above, ok.inj, ok.has, ok.cab, ok.hd, ok.frames, ok.stk, ok.exf, ok.bs, ok.bsz, ok.noex, ok.exfs, ok.funs, ok.frf⟩
theorem Cx.Ok.unwish {X : Cx} {E : Value → Shared → Prop} (ok : (X.wish E).Ok) : X.Ok :=
  ⟨ok.mod, ok.kind, ok.glob, ok.blt, ok.above, ok.inj, ok.has, ok.cab, ok.hd, ok.frames, ok.stk, ok.exf, ok.bs, ok.bsz, ok.noex, ok.exfs, ok.funs, ok.frf⟩
section
variable {X : Cx} {pins : List (Addr × Obj)} {σ : St} {H : Hp} {s : Shared} {E : Value → Shared → Prop}
theorem Inv.wish (I : Inv X pins σ H s) (E : Value → Shared → Prop) : Inv (X.wish E) pins σ H s := ⟨I.ok.wish E, I.os, I.bare, I.base, I.loc, I.cell, I.free, I.freeC, I.pin, I.hok, I.len⟩
theorem Inv.unwish (I : Inv (X.wish E) pins σ H s) : Inv X pins σ H s := ⟨I.ok.unwish, I.os, I.bare, I.base, I.loc, I.cell, I.free, I.freeC, I.pin, I.hok, I.len⟩
theorem SP.unwish {D : Ends} {f : Flow} {s' : Shared} (h : SP (X.wish E) pins D f s') : SP X pins D f s' := by
  cases f with
  | next => obtain ⟨σ', H', I, q⟩ := h; exact ⟨σ', H', I.unwish, q⟩
  | brk => obtain ⟨σ', H', I, q⟩ := h; exact ⟨σ', H', I.unwish, q⟩
  | cont => obtain ⟨σ', H', I, q⟩ := h; exact ⟨σ', H', I.unwish, q⟩
  | ret u => obtain ⟨v, σ', H', I, r, q⟩ := h; exact ⟨v, σ', H', I.unwish, r, q⟩
theorem PSs.nox {st : List Stmt} {t : TS} (h : PSs X.nox st t) : PSs X st t := fun pins s σ H D I hw =>
  wpAny_mono (h pins s σ H D (I.wish _) hw) (fun _ _ q => q.unwish) fun _ _ z => False.elim z
end

section
variable {X : Cx} {st : Stmt} {rest : List Stmt} {t u : TS} {e : Expr} {te : TE} {pos : Pos}
noncomputable def tNext : TS := fun D σ H => D.nx σ H
noncomputable def tSeq (t u : TS) : TS := fun D σ H => t { D with nx := u D } σ H
theorem pss_nil : PSs X [] tNext := fun _ _ σ H _ I h => wpAny_execs_nil ⟨σ, H, I, h⟩
theorem pss_cons (h1 : PS X st t) (h2 : PSs X rest u) : PSs X (st :: rest) (tSeq t u) := by
  intro pins s σ H D I h
  refine wpAny_execs_cons (thn (h1 pins s σ H { D with nx := u D } I h) fun f s1 q => ?_)
  cases f with
  | next =>
    obtain ⟨σ', H', I', q⟩ := q
    exact h2 pins s1 σ' H' D I' q
  | ret v => exact q
  | brk => exact q
  | cont => exact q
theorem pss_one (h1 : PS X st t) : PSs X [st] t := by
  intro pins s σ H D I h
  refine wpAny_execs_cons (thn (h1 pins s σ H D I h) fun f s1 q => ?_)
  cases f with
  | next => exact wpAny_execs_nil q
  | ret v => exact q
  | brk => exact q
  | cont => exact q
theorem Inv.quiet {pins : List (Addr × Obj)} {σ : St} {H : Hp} {s : Shared} (I : Inv X pins σ H s) : interactive X.env = false := by simp [interactive, I.ok.kind]
noncomputable def tDrop (te : TE) : TS := fun D σ H => te σ H fun _ H1 => D.nx σ H1
theorem ps_expr (he : PE X e te) (hs : swapsWith e none pos.line X.env = pure false := by rfl) : PS X (.Expr e pos) (tDrop te) := by
  intro pins s σ H D I h
  exact wpAny_Expr_any (thn (he pins s σ H _ I h) fun v s1 ⟨x, H1, I1, r1, q1⟩ => ⟨σ, H1, I1, q1⟩) I.quiet hs
noncomputable def tRet (te : TE) : TS := fun D σ H => te σ H D.rt
theorem ps_ret (he : PE X e te) : PS X (.Return (some e) pos) (tRet te) := by
  intro pins s σ H D I h
  exact wpAny_Return_some (thn (he pins s σ H _ I h) fun v s1 ⟨x, H1, I1, r1, q1⟩ => ⟨x, σ, H1, I1, r1, q1⟩)
noncomputable def tIfS (c : TT) (t u : TS) : TS := fun D σ H => c σ H fun b H1 => if b = true then t D σ H1 else u D σ H1
theorem ps_if {c : Expr} {a b : List Stmt} {tc : TT} (hc : PT X c tc) (ha : PSs X a t) (hb : PSs X b u) : PS X (.If c a b pos) (tIfS tc t u) := by
  intro pins s σ H D I h
  refine wpAny_If (thn (hc pins s σ H _ I h) fun d s1 ⟨H1, I1, q1⟩ => ?_)
  cases d with
  | true => exact ha pins s1 σ H1 D I1 q1
  | false => exact hb pins s1 σ H1 D I1 q1
noncomputable def tNever : TS := fun _ _ _ => False
theorem ps_never : PS X st tNever := fun _ _ _ _ _ _ h => h.elim
end

noncomputable abbrev TG := V → St → Hp → (St → Hp → Prop) → Prop
noncomputable abbrev TGs := List V → St → Hp → (St → Hp → Prop) → Prop
noncomputable def PG (X : Cx) (target : Expr) (t : TG) : Prop :=
  ∀ (pins : List (Addr × Obj)) (s : Shared) (σ : St) (H : Hp) (v : V) (u : Value) (Q : St → Hp → Prop), Inv X pins σ H s → RelV v u → t v σ H Q →
    wpAny (model X.prog X.w) X.A (assign target X.env u) (fun _ s' => ∃ σ' H', Inv X pins σ' H' s' ∧ Q σ' H') X.xe s
noncomputable def PGs (X : Cx) (ts : List Expr) (t : TGs) : Prop :=
  ∀ (pins : List (Addr × Obj)) (s : Shared) (σ : St) (H : Hp) (vs : List V) (us : List Value) (Q : St → Hp → Prop), Inv X pins σ H s → Vals vs us → t vs σ H Q →
    wpAny (model X.prog X.w) X.A (assignInOrder ((assignEach ts X.env).map (·.2)) us) (fun _ s' => ∃ σ' H', Inv X pins σ' H' s' ∧ Q σ' H') X.xe s
section
variable {X : Cx} {pos : Pos}
noncomputable def gName (i : Nat) : TG := fun v σ H Q => Q (σ.set i (some v)) H
theorem pg_name {i : Nat} {x : Str} (hN : X.N.Nodup) (hi : X.N[i]? = some x) (hx : Loc X.env.scope x) (hf : X.fn x = true ∨ X.env.scope.names.lookup x = some .local := by first | exact .inl rfl | exact .inr rfl | assumption) : PG X (.Name x pos) (gName i) := by
  intro pins s σ H v u Q I r h
  exact wpAny_assign_Name (store_ok I hN hi hx r (fun s' I' => ⟨_, H, I', h⟩) hf)
noncomputable def gNil : TGs := fun vs σ H Q => vs = [] ∧ Q σ H
noncomputable def gCons (t : TG) (u : TGs) : TGs := fun vs σ H Q => ∃ v r, vs = v :: r ∧ t v σ H fun σ' H' => u r σ' H' Q
theorem pgs_nil : PGs X [] gNil := by
  intro pins s σ H vs us Q I r h
  obtain ⟨e, h⟩ := h
  subst e
  cases r
  exact assignInOrder_nil ⟨σ, H, I, h⟩
theorem pgs_cons {e : Expr} {es : List Expr} {t : TG} {u : TGs} (h1 : PG X e t) (h2 : PGs X es u)
    (hs : (assignEach (e :: es) X.env).map (·.2) = assign e X.env :: (assignEach es X.env).map (·.2) := by rfl) : PGs X (e :: es) (gCons t u) := by
  intro pins s σ H vs us Q I r h
  obtain ⟨v, vr, e1, h⟩ := h
  subst e1
  cases r with
  | cons r rr =>
    rw [hs]
    refine assignInOrder_cons (thn (h1 pins s σ H _ _ _ I r h) fun _ s1 ⟨σ1, H1, I1, q1⟩ => ?_)
    exact h2 pins s1 σ1 H1 _ _ Q I1 rr q1
noncomputable def gTup (K : PySem.W.Frag) (n : Nat) (t : TGs) : TG := fun v σ H Q => ∃ a xs, v = .ref a ∧ SqT K H a xs ∧ xs.length = n ∧ t xs σ H Q
theorem pg_tup {es : List Expr} {k : Nat} {t : TGs} {n : Nat} (hc : X.calm = true) (h : PGs X es t)
    (hn : (assignEach es X.env).length = n := by rfl) (hst : (assignEach es X.env).findIdx? (·.1) = none := by rfl) : PG X (.Tuple es k pos) (gTup X.K n t) := by
  intro pins s σ H v u Q I r hw
  obtain ⟨a, xs, e1, hq, hl, hw⟩ := hw
  subst e1
  cases r
  obtain ⟨its, rv, ht, hz⟩ := I.tuple hq
  refine assign_Tuple_tuple (I.ok.hd hc) ht (by simp [hn, ← hl, rv.length]) hst fun h' hx => ?_
  have I1 : Inv X pins σ H { s with heap := h' } := I.kept (t' := s.toks) fun b o e => hx b o (Nat.ne_of_lt (Heap.lt_size e)) e
  exact h pins _ σ H xs _ Q I1 (by simpa using rv) hw
noncomputable def tAsg (te : TE) (g : TG) : TS := fun D σ H => te σ H fun x H1 => g x σ H1 D.nx
theorem ps_set {i : Nat} {x : Str} {e : Expr} {te : TE} {pos' : Pos} (hN : X.N.Nodup) (hi : X.N[i]? = some x) (hx : Loc X.env.scope x) (he : PE X e te) (hs : swapsWith e (some (.Name x pos')) pos.line X.env = pure false := by rfl) (hf : X.fn x = true ∨ X.env.scope.names.lookup x = some .local := by first | exact .inl rfl | exact .inr rfl | assumption) :
    PS X (.Assign [.Name x pos'] e pos) (tAsg te (gName i)) := by
  intro pins s σ H D I h
  refine wpAny_Assign_Name (thn (he pins s σ H _ I h) fun v s1 ⟨y, H1, I1, r1, q1⟩ => ?_) hs
  exact store_ok I1 hN hi hx r1 (fun s2 I2 => ⟨_, H1, I2, q1⟩) hf
end

section
variable {X : Cx} {pos : Pos}
noncomputable def tWhile (c : TT) (tb : TS) : TS := fun D σ H => ∃ W : Nat → St → Hp → Prop, (∃ m, W m σ H) ∧ ∀ m σ H, W m σ H →
  c σ H fun b H1 => if b = true then ∃ N : St → Hp → Prop, (∀ σ' H', N σ' H' → ∃ m', m' < m ∧ W m' σ' H') ∧ tb { D with nx := N, ct := N, bk := D.nx } σ H1 else D.nx σ H1
theorem ps_while {c : Expr} {body : List Stmt} {tc : TT} {tb : TS} (hp : PassesOwn (model X.prog X.w) X.A X.env X.xe) (hc : PT X c tc) (hb : PSs X body tb) : PS X (.While c body [] pos) (tWhile tc tb) := by
  intro pins s σ H D I h
  obtain ⟨W, ⟨m0, w0⟩, turn⟩ := h
  refine wpAny_While (codeAny_whileLoop (fun n s' => ∃ σ' H', Inv X pins σ' H' s' ∧ W n σ' H') ?_ m0 ⟨σ, H, I, w0⟩)
  rintro n s1 ⟨σ1, H1, I1, w1⟩
  refine wpAny_passesOwn hp (thn (hc pins s1 σ1 H1 _ I1 (turn n σ1 H1 w1)) fun b s2 ⟨H2, I2, q2⟩ => ?_)
  cases b with
  | true =>
    obtain ⟨N, hN, q2⟩ := q2
    rw [if_pos rfl]
    refine wpAny_passesOwn hp (thn (hb pins s2 σ1 H2 _ I2 q2) fun f s3 q3 => ?_)
    cases f with
    | next =>
      obtain ⟨σ3, H3, I3, n3⟩ := q3
      obtain ⟨m', hm, w3⟩ := hN σ3 H3 n3
      exact ⟨m', hm, σ3, H3, I3, w3⟩
    | cont =>
      obtain ⟨σ3, H3, I3, n3⟩ := q3
      obtain ⟨m', hm, w3⟩ := hN σ3 H3 n3
      exact ⟨m', hm, σ3, H3, I3, w3⟩
    | brk => exact q3
    | ret v => exact q3
  | false =>
    rw [if_neg Bool.false_ne_true]
    exact wpAny_execs_nil ⟨σ1, H2, I2, q2⟩
end

structure It where
  go : Nat → Hp → Prop
  yld : Nat → Hp → V → Hp → Prop
  stop : Nat → Hp → Prop
noncomputable def FpOk (X : Cx) (pins : List (Addr × Obj)) (H : Hp) (b : Addr) : Prop :=
  H b = none ∧ b ≠ X.env.locals ∧ b ∉ X.fs ∧ (b ∈ X.ex ∨ X.s₀.heap.objs.size ≤ b) ∧ (∀ x c, X.env.cells.lookup x = some c → c ≠ b) ∧ ∀ p ∈ X.pn ++ pins, p.1 ≠ b
theorem Inv.fpOk {X : Cx} {pins : List (Addr × Obj)} {σ : St} {H H' : Hp} {s : Shared} {b : Addr} (I : Inv X pins σ H s) (hb : s.heap.objs.size ≤ b) (hn : H' b = none) : FpOk X pins H' b := by
  refine ⟨hn, Nat.ne_of_gt (Nat.lt_of_lt_of_le I.lt hb), I.nofs hb, .inr (Nat.le_trans I.sz hb), fun x c e z => ?_, fun p hp z => ?_⟩
  · obtain ⟨v, q⟩ := I.cell x c e
    exact absurd (Nat.lt_of_lt_of_le q.lt (by rw [z]; exact hb)) (Nat.lt_irrefl _)
  · exact absurd (Nat.lt_of_lt_of_le (Heap.lt_size (I.pin p hp).1) (by rw [z]; exact hb)) (Nat.lt_irrefl _)
structure Turn (P : Program) (w : World) (K : PySem.W.Frag) (tg : Expr) (J : It) (fp : List Addr) (it : Addr) (tn : Nat → Heap → Prop) : Prop where
  mem : it ∈ fp
  obj : ∀ i h, tn i h → ∀ b ∈ fp, ∃ o, h.get? b = some o ∧ ∀ v, o.data ≠ .cell v
  keep : ∀ i h h', tn i h → (∀ b ∈ fp, ∀ o, h.get? b = some o → h'.get? b = some o) → tn i h'
  item : ∀ (X : Cx), X.prog = P → X.w = w → X.K = K → X.calm = true → ∀ (i : Nat) (pins : List (Addr × Obj)) (s : Shared) (σ : St) (H : Hp) (E : Value → Shared → Prop), Inv X pins σ H s → (∀ b ∈ fp, FpOk X pins H b) → tn i s.heap → J.go i H →
    wpAny (model P w) X.A (pyNext (.ref it)) (fun r s1 => ∃ u, r = some u ∧
      wpAny (model P w) X.A (letOwnedTupleGo tg (.ref it) u) (fun _ s2 => ∃ x H', Inv X pins σ H' s2 ∧ RelV x u ∧ J.yld i H x H' ∧ tn (i + 1) s2.heap ∧ ∀ b ∈ fp, H' b = none) E s1) E s
  done : ∀ (X : Cx), X.prog = P → X.w = w → X.K = K → X.calm = true → ∀ (i : Nat) (pins : List (Addr × Obj)) (s : Shared) (σ : St) (H : Hp) (E : Value → Shared → Prop), Inv X pins σ H s → (∀ b ∈ fp, FpOk X pins H b) → tn i s.heap → J.stop i H →
    wpAny (model P w) X.A (pyNext (.ref it)) (fun r s1 => r = none ∧ Inv X pins σ H s1) E s
  self : ∀ (A : Around) (i : Nat) (s : Shared) (Q : Value → Shared → Prop) (E : Value → Shared → Prop), tn i s.heap → Q (.ref it) s → wpAny (model P w) A (pyIter (.ref it)) Q E s
noncomputable abbrev TI := St → Hp → (It → Hp → Prop) → Prop
noncomputable def PIE (X : Cx) (pins : List (Addr × Obj)) (σ : St) (tg : Expr) (R : It → Hp → Prop) (itv : Value) (s2 : Shared) : Prop :=
  ∃ (it : Addr) (fp : List Addr) (tn : Nat → Heap → Prop) (J : It) (H' : Hp), itv = .ref it ∧ Inv X pins σ H' s2 ∧ Turn X.prog X.w X.K tg J fp it tn ∧ tn 0 s2.heap ∧ (∀ b ∈ fp, FpOk X pins H' b) ∧ R J H'
noncomputable def PI (X : Cx) (tg iter : Expr) (wi : TI) : Prop :=
  ∀ (pins : List (Addr × Obj)) (s : Shared) (σ : St) (H : Hp) (R : It → Hp → Prop), Inv X pins σ H s → wi σ H R →
    wpAny (model X.prog X.w) X.A (eval iter X.env) (fun v s1 => wpAny (model X.prog X.w) X.A (pyIter v) (PIE X pins σ tg R) X.xe s1) X.xe s

theorem go_of {M : Model} {A : Around} {E : Value → Shared → Prop} {s : Shared} {tg : Expr} {it : Addr} {u : Value} {o : Obj} {n : String} {vs : Array Value} {Q : Unit → Shared → Prop} (ho : s.heap.get? it = some o) (hc : o.cls = .type n) (hd : o.data = .fields vs)
    (hn : ["enumerate", "zip", "dict_itemiterator", "dict_reverseitemiterator", "odict_iterator", "itertools.zip_longest", "itertools.pairwise"].contains n = false) (hQ : Q () s) : wpAny M A (letOwnedTupleGo tg (.ref it) u) Q E s := by
  unfold letOwnedTupleGo
  cases tg <;> first
    | exact wpAny_pure hQ
    | (cases u <;> first
        | exact wpAny_pure hQ
        | (refine wpAny_bind (wpAny_load ho ?_)
           rw [hc, hd]
           show wpAny M A (if (["enumerate", "zip", "dict_itemiterator", "dict_reverseitemiterator", "odict_iterator", "itertools.zip_longest", "itertools.pairwise"].contains n && vs[0]? == some (rawInt _)) = true then _ else _) Q E s
           rw [if_neg (by intro h; rw [hn, Bool.false_and] at h; cases h)]
           exact wpAny_pure hQ))

noncomputable def Itl (K : PySem.W.Frag) (a : Addr) : It :=
  ⟨fun i H => ∃ xs x, SqL K H a xs ∧ xs[i]? = some x, fun i H x H' => H' = H ∧ ∀ xs, SqL K H a xs → xs[i]? = some x, fun i H => ∃ xs, SqL K H a xs ∧ xs.length ≤ i⟩
noncomputable def Itr (lo : Int) (n : Nat) : It := ⟨fun i _ => i < n, fun i H x H' => H' = H ∧ x = .int (lo + i), fun i _ => n ≤ i⟩
theorem turn_list {P : Program} {w : World} {K : PySem.W.Frag} {tg : Expr} (a it : Addr) : Turn P w K tg (Itl K a) [it] it (fun i h => h.IsListIter it a i) where
  mem := by simp
  obj := fun i h st b hb => by
    have e : b = it := by simpa using hb
    subst e
    obtain ⟨o, e, c, d⟩ := st
    exact ⟨o, e, fun v z => by rw [d] at z; cases z⟩
  keep := fun i h h' st k => st.at fun o e => k it (by simp) o e
  item := by
    intro X hP hw hK hc i pins s σ H E I hf st hg
    subst hP hw hK
    obtain ⟨xs, x, hq, hx⟩ := hg
    obtain ⟨its, rv, p, hz⟩ := I.list hq
    obtain ⟨u, hu, ru⟩ := rv.get hx
    obtain ⟨f0, f1, f2, f3, f4, f5⟩ := hf it (by simp)
    refine wpAny_pyNext_list_item st p.isList (x := u) (by simpa using hu) fun h' st' sb => ?_
    have I1 : Inv X pins σ H { s with heap := h' } := I.turned (t' := s.toks) (fun b o hb e => (sb.2 b hb).trans e) f0 f1 f3 f4 f5
    obtain ⟨o, e, c, d⟩ := id st'
    exact ⟨u, rfl, go_of (s := { s with heap := h' }) e c d (by decide) ⟨x, H, I1, ru, ⟨rfl, fun ys hy => by rw [I.list_inj hy hq]; exact hx⟩, st', fun b hb => (hf b hb).1⟩⟩
  done := by
    intro X hP hw hK hc i pins s σ H E I hf st hg
    subst hP hw hK
    obtain ⟨xs, hq, hx⟩ := hg
    obtain ⟨its, rv, p, hz⟩ := I.list hq
    obtain ⟨f0, f1, f2, f3, f4, f5⟩ := hf it (by simp)
    have hl := rv.length
    exact wpAny_pyNext_list_end (I.ok.hd hc) st p.isList (by simp; omega) fun h' eb => ⟨rfl, I.turned (t' := s.toks) (fun b o hb e => eb b o hb e) f0 f1 f3 f4 f5⟩
  self := fun _ _ _ _ _ st h => wpAny_pyIter_listiter st h
theorem turn_range {P : Program} {w : World} {K : PySem.W.Frag} {tg : Expr} (it : Addr) (lo : Int) (n : Nat) : Turn P w K tg (Itr lo n) [it] it (fun i h => IsRangeIter h it (lo + (i : Nat) * 1) ((n : Int) - (i : Nat)) 1) where
  mem := by simp
  obj := fun i h st b hb => by
    have e : b = it := by simpa using hb
    subst e
    exact ⟨_, st, fun v z => by
      have z' : Data.fields _ = Data.cell v := z
      cases z'⟩
  keep := fun i h h' st k => k it (by simp) _ st
  item := by
    intro X hP hw hK hc i pins s σ H E I hf st hg
    subst hP hw hK
    obtain ⟨f0, f1, f2, f3, f4, f5⟩ := hf it (by simp)
    have W := Walks.range (prog := X.prog) (w := X.w) (I.ok.hd hc) it lo 1 n
    refine W.item i s _ _ hg st fun v h' tk hv st' kk => ?_
    obtain ⟨t, rfl⟩ := hv
    have I1 : Inv X pins σ H { s with heap := h', toks := tk } := I.turned (fun b o hb e => kk b o (by simpa using hb) e) f0 f1 f3 f4 f5
    refine ⟨_, rfl, go_of (s := { s with heap := h', toks := tk }) (n := "range_iterator") st' rfl rfl (by decide) ⟨.int (lo + i), H, I1, ⟨t, ?_⟩, ⟨rfl, rfl⟩, st', fun b hb => (hf b hb).1⟩⟩
    rw [Int.mul_one]
  done := by
    intro X hP hw hK hc i pins s σ H E I hf st hg
    subst hP hw hK
    obtain ⟨f0, f1, f2, f3, f4, f5⟩ := hf it (by simp)
    exact wpAny_pyNext_range_end (I.ok.hd hc) st (by have : n ≤ i := hg; omega) fun h' eb => ⟨rfl, I.turned (t' := s.toks) (fun b o hb e => eb b o hb e) f0 f1 f3 f4 f5⟩
  self := fun _ _ _ _ _ st h => wpAny_pyIter_rangeiter st h
end L2

namespace L2
open PySem PySem.Spec PyProof.Rows
section
variable {X : Cx} {tg : Expr}
noncomputable def iList (K : PySem.W.Frag) (tl : TE) : TI := fun σ H R => tl σ H fun x H1 => ∃ a, x = .ref a ∧ (∃ xs, SqL K H1 a xs) ∧ R (Itl K a) H1
theorem pi_list {l : Expr} {tl : TE} (hl : PE X l tl) : PI X tg l (iList X.K tl) := by
  intro pins s σ H R I h
  refine thn (hl pins s σ H _ I h) fun v s1 ⟨x, H1, I1, r1, q1⟩ => ?_
  obtain ⟨a, e, ⟨xs, hq⟩, q⟩ := q1
  subst e
  cases r1
  obtain ⟨its, rv, p, hz⟩ := I1.list hq
  refine wpAny_pyIter_list p.isList ?_
  refine ⟨s1.heap.objs.size, [s1.heap.objs.size], _, _, H1, rfl, I1.kept (t' := s1.toks) fun b o e => Heap.get?_push_of_some _ e, turn_list a _, ⟨_, Heap.get?_push_size _ rfl, rfl, rfl⟩, fun b hb => ?_, q⟩
  have e : b = s1.heap.objs.size := by simpa using hb
  subst e
  exact I1.fpOk (Nat.le_refl _) (I1.hok.fresh (Nat.le_refl _))
theorem range_it {pins : List (Addr × Obj)} {σ : St} {H : Hp} {s : Shared} {R : It → Hp → Prop} {E : Value → Shared → Prop} {lo hi : Int} {t u v : Tok} {tk : Nat} (I : Inv X pins σ H s) (h1 : -(2 ^ 62) ≤ lo) (h2 : lo < 2 ^ 62) (h3 : -(2 ^ 62) ≤ hi) (h4 : hi < 2 ^ 62)
    (q : R (Itr lo (hi - lo).toNat) H) : wpAny (model X.prog X.w) X.A (pyIter (.ref s.heap.objs.size)) (PIE X pins σ tg R) E { s with heap := s.heap.push { cls := .type "range", data := .fields #[.int lo t, .int hi u, .int 1 v] }, toks := tk } := by
  refine wpAny_pyIter_range (IsRange.new ..) (small_one h1 h2 h3 h4) ?_
  have I1 : Inv X pins σ H { s with heap := s.heap.push { cls := .type "range", data := .fields #[.int lo t, .int hi u, .int 1 v] }, toks := tk } := I.kept fun b o e => Heap.get?_push_of_some _ e
  refine ⟨(s.heap.push { cls := .type "range", data := .fields #[.int lo t, .int hi u, .int 1 v] }).objs.size, [(s.heap.push { cls := .type "range", data := .fields #[.int lo t, .int hi u, .int 1 v] }).objs.size], _, _, H, rfl,
    I1.kept (t' := tk) fun b o e => Heap.get?_push_of_some _ e, turn_range _ lo (hi - lo).toNat, ?_, fun b hb => ?_, q⟩
  · have e1 : lo + ((0 : Nat) : Int) * 1 = lo := by simp
    have e2 : (((hi - lo).toNat : Nat) : Int) - ((0 : Nat) : Int) = Builtin.Range.rangeSize lo hi 1 := by rw [rangeSize_one]; split <;> omega
    show IsRangeIter _ _ (lo + ((0 : Nat) : Int) * 1) ((((hi - lo).toNat : Nat) : Int) - ((0 : Nat) : Int)) 1
    rw [e1, e2]
    exact Heap.get?_push_size _ rfl
  · have e : b = (s.heap.push { cls := .type "range", data := .fields #[.int lo t, .int hi u, .int 1 v] }).objs.size := by simpa using hb
    subst e
    exact I1.fpOk (Nat.le_refl _) (I1.hok.fresh (Nat.le_refl _))
noncomputable def iRng1 (ta : TA) : TI := fun σ H R => ta σ H fun vs H1 => ∃ j : Int, vs = [.int j] ∧ -(2 ^ 62) ≤ j ∧ j < 2 ^ 62 ∧ R (Itr 0 j.toNat) H1
theorem pi_range1 {a : Expr} {ta : TA} {p pos : Pos} (hg : Gl X "range") (hm : X.mg "range" = none) (ha : PA X [a] ta) (hs : starEach [a] X.env = [(false, eval a X.env)] := by rfl) : PI X tg (.Call (.Name "range" p) [a] [] pos) (iRng1 ta) := by
  intro pins s σ H R I h
  refine Call_ (ld_blt I hg hm boot_range (PyProof.Rows.callWith_type1 (thn (ha pos pins s σ H _ I h) fun us s1 ⟨vs, H1, I1, r1, q1⟩ => ?_) hs rfl))
  obtain ⟨j, e, q1, q2, q⟩ := q1
  subst e
  cases r1 with
  | cons r rr =>
    cases rr
    obtain ⟨t, rfl⟩ := r
    exact call_range_1 (range_it I1 (by omega) (by omega) q1 q2 (by simpa using q))
noncomputable def tFor (wi : TI) (g : TG) (tb : TS) : TS := fun D σ H => wi σ H fun J H1 => ∃ W : Nat → Nat → St → Hp → Prop, (∃ m, W 0 m σ H1) ∧ ∀ i m σ H, W i m σ H →
  (J.stop i H ∧ D.nx σ H) ∨ (J.go i H ∧ ∃ N : St → Hp → Prop, (∀ σ' H', N σ' H' → ∃ m', m' < m ∧ W (i + 1) m' σ' H') ∧ ∀ x H', J.yld i H x H' → g x σ H' fun σ2 H2 => tb { D with nx := N, ct := N, bk := D.nx } σ2 H2)
noncomputable def pinsAt (fp : List Addr) (h : Heap) : List (Addr × Obj) := fp.filterMap fun b => (h.get? b).map fun o => (b, o)
theorem mem_pinsAt {fp : List Addr} {h : Heap} {b : Addr} {o : Obj} (hb : b ∈ fp) (e : h.get? b = some o) : (b, o) ∈ pinsAt fp h := List.mem_filterMap.mpr ⟨b, hb, by rw [e]; rfl⟩
theorem of_pinsAt {fp : List Addr} {h : Heap} {p : Addr × Obj} (hp : p ∈ pinsAt fp h) : p.1 ∈ fp ∧ h.get? p.1 = some p.2 := by
  obtain ⟨b, hb, e⟩ := List.mem_filterMap.mp hp
  cases q : h.get? b with
  | none => rw [q] at e; cases e
  | some o =>
    rw [q] at e
    have e' : (b, o) = p := Option.some.inj e
    subst e'
    exact ⟨hb, q⟩
theorem Inv.pinned {pins : List (Addr × Obj)} {σ : St} {H : Hp} {s : Shared} {fp : List Addr} (I : Inv X pins σ H s) (hf : ∀ b ∈ fp, FpOk X pins H b) (ho : ∀ b ∈ fp, ∃ o, s.heap.get? b = some o ∧ ∀ v, o.data ≠ .cell v) : Inv X (pins ++ pinsAt fp s.heap) σ H s :=
  I.pins_of fun p hp => (List.mem_append.mp hp).elim (fun z => I.pin p (List.mem_append_right _ z)) fun z => by
    obtain ⟨hb, e⟩ := of_pinsAt z
    obtain ⟨f0, f1, f2, _⟩ := hf p.1 hb
    obtain ⟨o, e', d⟩ := ho p.1 hb
    rw [e] at e'; cases e'
    exact ⟨e, f0, f1, f2, d⟩
theorem Inv.unpinned {pins pl : List (Addr × Obj)} {σ : St} {H : Hp} {s : Shared} (I : Inv X (pins ++ pl) σ H s) : Inv X pins σ H s := I.pins_of fun p hp => I.pin p (List.mem_append_right _ (List.mem_append_left _ hp))
theorem ps_for {iter : Expr} {body : List Stmt} {wi : TI} {g : TG} {tb : TS} {pos : Pos} (hp : PassesOwn (model X.prog X.w) X.A X.env X.xe) (hc : X.calm = true) (hi : PI X tg iter wi) (hg : PG X tg g) (hb : PSs X body tb)
    (hs : ∀ x, foldedSetIterable iter X.env x = pure x := by intro _; rfl) : PS X (.For tg iter body [] pos) (tFor wi g tb) := by
  intro pins s σ H D I h
  refine wpAny_For (thn (hi pins s σ H _ I h) fun v s1 h1 => thn h1 fun itv s2 h2 => ?_) hs
  obtain ⟨it, fp, tn, J, H2, e, I2, T, st2, f2, W, ⟨m0, w0⟩, turn⟩ := h2
  subst e
  -- what stays true of the iterator's objects through the loop
  have stat : ∀ {H' : Hp}, (∀ b ∈ fp, H' b = none) → ∀ b ∈ fp, FpOk X pins H' b := fun hn b hb => ⟨hn b hb, (f2 b hb).2⟩
  refine codeAny_forLoop_any (fun n s' => ∃ i σ' H', Inv X pins σ' H' s' ∧ tn i s'.heap ∧ (∀ b ∈ fp, H' b = none) ∧ W i n σ' H') ?_ m0 ⟨0, σ, H2, I2, st2, fun b hb => (f2 b hb).1, w0⟩
  rintro n s3 ⟨i, σ3, H3, I3, st3, fr3, w3⟩
  rcases turn i n σ3 H3 w3 with ⟨stop, qn⟩ | ⟨go, N, hN, step⟩
  · refine wpAny_passesOwn hp (thn (T.done X rfl rfl rfl hc i pins s3 σ3 H3 X.xe I3 (stat fr3) st3 stop) fun r s4 ⟨hr, I4⟩ => ?_)
    subst hr
    exact wpAny_execs_nil ⟨σ3, H3, I4, qn⟩
  · refine wpAny_passesOwn hp (thn (T.item X rfl rfl rfl hc i pins s3 σ3 H3 X.xe I3 (stat fr3) st3 go) fun r s4 ⟨u, hr, h4⟩ => ?_)
    subst hr
    refine wpAny_passesOwn hp (thn h4 fun _ s5 hzz => ?_)
    obtain ⟨x, H5, I5, r5, y5, st5, fr5⟩ := hzz
    have I5' := I5.pinned (stat fr5) (T.obj _ _ st5)
    refine wpAny_passesOwn hp (thn (hg _ s5 σ3 H5 x u _ I5' r5 (step x H5 y5)) fun _ s6 ⟨σ6, H6, I6, q6⟩ => ?_)
    refine wpAny_passesOwn hp (thn (hb _ s6 σ6 H6 _ I6 q6) fun f s7 q7 => ?_)
    have again : ∀ {σ7 : St} {H7 : Hp}, Inv X (pins ++ pinsAt fp s5.heap) σ7 H7 s7 → N σ7 H7 → ∃ m, m < n ∧ ∃ i σ' H', Inv X pins σ' H' s7 ∧ tn i s7.heap ∧ (∀ b ∈ fp, H' b = none) ∧ W i m σ' H' := fun {σ7 H7} I7 n7 => by
      obtain ⟨m', hm, w7⟩ := hN σ7 H7 n7
      refine ⟨m', hm, i + 1, σ7, H7, I7.unpinned, T.keep _ _ _ st5 fun b hb o e => (I7.pin (b, o) (List.mem_append_right _ (List.mem_append_right _ (mem_pinsAt hb e)))).1, fun b hb => ?_, w7⟩
      obtain ⟨o, e, d⟩ := T.obj _ _ st5 b hb
      exact (I7.pin (b, o) (List.mem_append_right _ (List.mem_append_right _ (mem_pinsAt hb e)))).2.1
    cases f with
    | next => obtain ⟨σ7, H7, I7, n7⟩ := q7; exact again I7 n7
    | cont => obtain ⟨σ7, H7, I7, n7⟩ := q7; exact again I7 n7
    | brk => obtain ⟨σ7, H7, I7, q7⟩ := q7; exact ⟨σ7, H7, I7.unpinned, q7⟩
    | ret v => obtain ⟨x7, σ7, H7, I7, r7, q7⟩ := q7; exact ⟨x7, σ7, H7, I7.unpinned, r7, q7⟩
end

theorem for_list {K : PySem.W.Frag} {a : Addr} {xs : List V} {g : TG} {tb : TS} {D : Ends} {σ : St} {H : Hp} (Pv : Nat → St → Hp → Prop) (h0 : Pv 0 σ H) (hl : ∀ i σ H, i ≤ xs.length → Pv i σ H → SqL K H a xs)
    (hs : ∀ i x σ H, xs[i]? = some x → Pv i σ H → g x σ H fun σ2 H2 => tb { D with nx := Pv (i + 1), ct := Pv (i + 1), bk := D.nx } σ2 H2) (hd : ∀ σ H, Pv xs.length σ H → D.nx σ H) :
    ∃ W : Nat → Nat → St → Hp → Prop, (∃ m, W 0 m σ H) ∧ ∀ i m σ H, W i m σ H →
      ((Itl K a).stop i H ∧ D.nx σ H) ∨ ((Itl K a).go i H ∧ ∃ N : St → Hp → Prop, (∀ σ' H', N σ' H' → ∃ m', m' < m ∧ W (i + 1) m' σ' H') ∧ ∀ x H', (Itl K a).yld i H x H' → g x σ H' fun σ2 H2 => tb { D with nx := N, ct := N, bk := D.nx } σ2 H2) := by
  refine ⟨fun i m σ H => m = xs.length - i ∧ i ≤ xs.length ∧ Pv i σ H, ⟨xs.length, by simp, Nat.zero_le _, h0⟩, ?_⟩
  rintro i m σ H ⟨rfl, hi, p⟩
  have q := hl i σ H hi p
  by_cases hlt : i < xs.length
  · refine .inr ⟨⟨xs, xs[i], q, by simp [hlt]⟩, Pv (i + 1), fun σ' H' p' => ⟨xs.length - (i + 1), by omega, rfl, hlt, p'⟩, fun x H' y => ?_⟩
    obtain ⟨e, y⟩ := y
    subst e
    exact hs i x σ _ (y xs q) p
  · have e : i = xs.length := by omega
    subst e
    exact .inl ⟨⟨xs, q, Nat.le_refl _⟩, hd σ H p⟩
theorem for_range {lo : Int} {n : Nat} {g : TG} {tb : TS} {D : Ends} {σ : St} {H : Hp} (Pv : Nat → St → Hp → Prop) (h0 : Pv 0 σ H)
    (hs : ∀ i σ H, i < n → Pv i σ H → g (.int (lo + i)) σ H fun σ2 H2 => tb { D with nx := Pv (i + 1), ct := Pv (i + 1), bk := D.nx } σ2 H2) (hd : ∀ σ H, Pv n σ H → D.nx σ H) :
    ∃ W : Nat → Nat → St → Hp → Prop, (∃ m, W 0 m σ H) ∧ ∀ i m σ H, W i m σ H →
      ((Itr lo n).stop i H ∧ D.nx σ H) ∨ ((Itr lo n).go i H ∧ ∃ N : St → Hp → Prop, (∀ σ' H', N σ' H' → ∃ m', m' < m ∧ W (i + 1) m' σ' H') ∧ ∀ x H', (Itr lo n).yld i H x H' → g x σ H' fun σ2 H2 => tb { D with nx := N, ct := N, bk := D.nx } σ2 H2) := by
  refine ⟨fun i m σ H => m = n - i ∧ i ≤ n ∧ Pv i σ H, ⟨n, by simp, Nat.zero_le _, h0⟩, ?_⟩
  rintro i m σ H ⟨rfl, hi, p⟩
  by_cases hlt : i < n
  · refine .inr ⟨hlt, Pv (i + 1), fun σ' H' p' => ⟨n - (i + 1), by omega, rfl, hlt, p'⟩, fun x H' y => ?_⟩
    obtain ⟨e, y⟩ := y
    subst e y
    exact hs i σ _ hlt p
  · have e : i = n := by omega
    subst e
    exact .inl ⟨Nat.le_refl _, hd σ H p⟩
end L2

namespace L2
open PySem PySem.Spec PyProof.Rows

noncomputable abbrev R2 := V → V → Hp → VK → Prop
noncomputable def OpR (X : Cx) (f : Value → Value → Sem Value) (r : R2) : Prop :=
  ∀ (pins : List (Addr × Obj)) (s : Shared) (σ : St) (H : Hp) (x y : V) (v u : Value) (Q : VK), Inv X pins σ H s → RelV x v → RelV y u → r x y H Q →
    wpAny (model X.prog X.w) X.A (f v u) (EP X pins σ Q) X.xe s
noncomputable def UnR (X : Cx) (f : Value → Sem Value) (r : V → Hp → VK → Prop) : Prop :=
  ∀ (pins : List (Addr × Obj)) (s : Shared) (σ : St) (H : Hp) (x : V) (v : Value) (Q : VK), Inv X pins σ H s → RelV x v → r x H Q →
    wpAny (model X.prog X.w) X.A (f v) (EP X pins σ Q) X.xe s
noncomputable def CallR (X : Cx) (f : Value) (r : List V → Hp → VK → Prop) : Prop :=
  ∀ (pins : List (Addr × Obj)) (s : Shared) (σ : St) (H : Hp) (xs : List V) (us : List Value) (Q : VK), Inv X pins σ H s → Vals xs us → r xs H Q →
    wpAny (model X.prog X.w) X.A (call f us) (EP X pins σ Q) X.xe s
noncomputable def tOp (r : R2) (ta tb : TE) : TE := fun σ H Q => ta σ H fun x H1 => tb σ H1 fun y H2 => r x y H2 Q
noncomputable def tUn (r : V → Hp → VK → Prop) (ta : TE) : TE := fun σ H Q => ta σ H fun x H1 => r x H1 Q
noncomputable def rI (C : Int → Int → Prop) (g : Int → Int → V) : R2 := fun x y H Q => ∃ i j, x = .int i ∧ y = .int j ∧ C i j ∧ Q (g i j) H
noncomputable def rI0 (g : Int → Int → V) : R2 := fun x y H Q => ∃ i j, x = .int i ∧ y = .int j ∧ Q (g i j) H
noncomputable def rU (g : Int → V) : V → Hp → VK → Prop := fun x H Q => ∃ i, x = .int i ∧ Q (g i) H

section
variable {X : Cx} {a b c : Expr} {ta tb tc : TE} {pos : Pos}

theorem binT (ha : PE X a ta) (hb : PE X b tb) {pins : List (Addr × Obj)} {s : Shared} {σ : St} {H : Hp} {R : V → V → Hp → Prop} (I : Inv X pins σ H s)
    (h : ta σ H fun x H1 => tb σ H1 fun y H2 => R x y H2) {Q : Value → Shared → Prop} {f : Value → Value → Sem Value}
    (hf : ∀ v u s2 x y H2, Inv X pins σ H2 s2 → RelV x v → RelV y u → R x y H2 → wpAny (model X.prog X.w) X.A (f v u) Q X.xe s2) :
    wpAny (model X.prog X.w) X.A (eval a X.env) (fun v s₁ => wpAny (model X.prog X.w) X.A (eval b X.env) (fun u s₂ => wpAny (model X.prog X.w) X.A (f v u) Q X.xe s₂) X.xe s₁) X.xe s := by
  refine thn (ha pins s σ H _ I h) fun v s1 ⟨x, H1, I1, r1, q1⟩ => ?_
  refine thn (hb pins s1 σ H1 _ I1 q1) fun u s2 ⟨y, H2, I2, r2, q2⟩ => ?_
  exact hf v u s2 x y H2 I2 r1 r2 q2

theorem pe_op {op : Operator} {r : R2} (ho : OpR X (binaryOp op) r) (ha : PE X a ta) (hb : PE X b tb) : PE X (.BinOp a op b pos) (tOp r ta tb) := by
  intro pins s σ H Q I h
  exact wpAny_BinOp (binT ha hb I h fun v u s2 x y H2 I2 rx ry q => ho pins s2 σ H2 x y v u Q I2 rx ry q)
theorem pe_un {op : UnaryOp} {r : V → Hp → VK → Prop} (ho : UnR X (unaryOp op) r) (ha : PE X a ta) : PE X (.UnaryOp op a pos) (tUn r ta) := by
  intro pins s σ H Q I h
  exact UnaryOp_ (thn (ha pins s σ H _ I h) fun v s1 ⟨x, H1, I1, r1, q1⟩ => ho pins s1 σ H1 x v Q I1 r1 q1)
theorem opI {f : Value → Value → Sem Value} {C : Int → Int → Prop} {g : Int → Int → Int}
    (rule : ∀ (i j : Int) (t u : Tok) (s : Shared) (Q : Value → Shared → Prop) (E : Value → Shared → Prop), C i j → Q (.int (g i j) s.toks) { s with toks := s.toks + 1 } → wpAny (model X.prog X.w) X.A (f (.int i t) (.int j u)) Q E s) :
    OpR X f (rI C fun i j => .int (g i j)) := by
  intro pins s σ H x y v u Q I rx ry h
  obtain ⟨i, j, rfl, rfl, hc, q⟩ := h
  obtain ⟨t, rfl⟩ := rx
  obtain ⟨t', rfl⟩ := ry
  exact rule i j t t' s _ _ hc ⟨.int (g i j), H, I.tok _, ⟨_, rfl⟩, q⟩
theorem opI0 {f : Value → Value → Sem Value} {g : Int → Int → Int}
    (rule : ∀ (i j : Int) (t u : Tok) (s : Shared) (Q : Value → Shared → Prop) (E : Value → Shared → Prop), Q (.int (g i j) s.toks) { s with toks := s.toks + 1 } → wpAny (model X.prog X.w) X.A (f (.int i t) (.int j u)) Q E s) :
    OpR X f (rI0 fun i j => .int (g i j)) := by
  intro pins s σ H x y v u Q I rx ry h
  obtain ⟨i, j, rfl, rfl, q⟩ := h
  obtain ⟨t, rfl⟩ := rx
  obtain ⟨t', rfl⟩ := ry
  exact rule i j t t' s _ _ ⟨.int (g i j), H, I.tok _, ⟨_, rfl⟩, q⟩
theorem opB0 {f : Value → Value → Sem Value} {g : Int → Int → Bool}
    (rule : ∀ (i j : Int) (t u : Tok) (s : Shared) (Q : Value → Shared → Prop) (E : Value → Shared → Prop), Q (.bool (g i j)) s → wpAny (model X.prog X.w) X.A (f (.int i t) (.int j u)) Q E s) :
    OpR X f (rI0 fun i j => .bl (g i j)) := by
  intro pins s σ H x y v u Q I rx ry h
  obtain ⟨i, j, rfl, rfl, q⟩ := h
  obtain ⟨t, rfl⟩ := rx
  obtain ⟨t', rfl⟩ := ry
  exact rule i j t t' s _ _ ⟨.bl (g i j), H, I, rfl, q⟩

noncomputable def CDiv (i j : Int) : Prop := 0 < j ∧ j < 1073741824
noncomputable def CPow (i j : Int) : Prop := 0 ≤ j ∧ j ≤ 1000000 ∧ i.natAbs < 2 ^ 64
noncomputable def CMul (i j : Int) : Prop := (-(2 ^ 64) < i ∧ i < 2 ^ 64) ∨ (-(2 ^ 64) < j ∧ j < 2 ^ 64)
theorem CMul.ok {i j : Int} (h : CMul i j) : IntMulOk i j := by
  rcases h with ⟨h1, h2⟩ | ⟨h1, h2⟩
  · exact .of_left (intBits_le_64 h1 h2)
  · exact .of_right (intBits_le_64 h1 h2)
theorem op_add : OpR X (binaryOp .Add) (rI0 fun i j => .int (i + j)) := opI0 fun _ _ _ _ _ _ _ q => add_int q
theorem op_sub : OpR X (binaryOp .Sub) (rI0 fun i j => .int (i - j)) := opI0 fun _ _ _ _ _ _ _ q => sub_int q
theorem op_mul : OpR X (binaryOp .Mult) (rI CMul fun i j => .int (i * j)) := opI fun _ _ _ _ _ _ _ hc q => mul_int q hc.ok
theorem op_fdiv : OpR X (binaryOp .FloorDiv) (rI CDiv fun i j => .int (i / j)) := opI fun i j _ _ _ _ _ hc q => by
  have h1 : (0 : Int) < j := hc.1
  have h2 : j < 1073741824 := hc.2
  exact floordiv_int (by omega) (by rw [Int.fdiv_eq_ediv_of_nonneg i (by omega)]; exact q) (.inl (PyProof.noPylong_small (by omega)))
theorem op_mod : OpR X (binaryOp .Mod) (rI (fun _ j => 0 < j) fun i j => .int (i % j)) := opI fun i j _ _ _ _ _ hc q => by
  have h1 : (0 : Int) < j := hc
  exact mod_int' (by omega) (by rw [Int.fmod_eq_emod_of_nonneg i (by omega)]; exact q)
theorem op_pow : OpR X (binaryOp .Pow) (rI CPow fun i j => .int (i ^ j.toNat)) := opI fun _ _ _ _ _ _ _ hc q => pow_int_small hc.1 hc.2.1 hc.2.2 q
theorem unI {f : Value → Sem Value} {g : Int → Int}
    (rule : ∀ (i : Int) (t : Tok) (s : Shared) (Q : Value → Shared → Prop) (E : Value → Shared → Prop), Q (.int (g i) s.toks) { s with toks := s.toks + 1 } → wpAny (model X.prog X.w) X.A (f (.int i t)) Q E s) :
    UnR X f (rU fun i => .int (g i)) := by
  intro pins s σ H x v Q I rx h
  obtain ⟨i, rfl, q⟩ := h
  obtain ⟨t, rfl⟩ := rx
  exact rule i t s _ _ ⟨.int (g i), H, I.tok _, ⟨_, rfl⟩, q⟩
theorem un_neg : UnR X (unaryOp .USub) (rU fun i => .int (-i)) := unI fun _ _ _ _ _ q => neg_int q
end

noncomputable def scal : V → V → Bool
  | .non, .non => true | .non, .int _ => true | .int _, .non => true | .non, .bl _ => true | .bl _, .non => true | .non, .str _ => true | .str _, .non => true
  | .int _, .int _ => true | .bl _, .bl _ => true | .str _, .str _ => true | .byt _, .byt _ => true
  | .int _, .str _ => true | .str _, .int _ => true | .bl _, .str _ => true | .str _, .bl _ => true
  | _, _ => false
noncomputable def rEq : R2 := fun x y H Q => scal x y = true ∧ Q (.bl (decide (x = y))) H
noncomputable def rNe : R2 := fun x y H Q => scal x y = true ∧ Q (.bl (!decide (x = y))) H

theorem dec_int {i j : Int} : decide (V.int i = V.int j) = (i == j) := by
  rw [Bool.eq_iff_iff]
  simp
theorem dec_bl {i j : Bool} : decide (V.bl i = V.bl j) = (i == j) := by
  rw [Bool.eq_iff_iff]
  simp
theorem dec_str {i j : Str} : decide (V.str i = V.str j) = (i == j) := by
  rw [Bool.eq_iff_iff]
  simp
theorem dec_byt {i j : Array UInt8} : decide (V.byt i = V.byt j) = (i.toList == j.toList) := by
  rw [Bool.eq_iff_iff]
  cases i
  cases j
  simp

section
variable {X : Cx} {a b c : Expr} {ta tb tc : TE} {pos : Pos}
theorem fin_bl {pins : List (Addr × Obj)} {σ : St} {H : Hp} {s : Shared} {Q : VK} {k k' : Bool} (I : Inv X pins σ H s) (q : Q (.bl k) H) (e : k = k') : EP X pins σ Q (.bool k') s := by
  subst e
  exact ⟨.bl k, H, I, rfl, q⟩
theorem op_eq : OpR X (compareOp .Eq) rEq := by
  intro pins s σ H x y v u Q I rx ry h
  obtain ⟨hs, q⟩ := h
  cases x with
  | non =>
    cases rx
    cases y with
    | non => cases ry; exact PySem.EqNone.eq_none_none (fin_bl I q (by simp))
    | bl j => cases ry; exact PySem.EqNone.eq_none_bool (fin_bl I q (by simp))
    | int j => obtain ⟨t', rfl⟩ := ry; exact PySem.EqNone.eq_none_int (fin_bl I q (by simp))
    | str j => obtain ⟨t', rfl⟩ := ry; exact PySem.EqNone.eq_none_str (fin_bl I q (by simp))
    | _ => exact absurd (show false = true from hs) Bool.false_ne_true
  | bl i =>
    cases rx
    cases y with
    | non => cases ry; exact PySem.EqNone.eq_bool_none (fin_bl I q (by simp))
    | bl j => cases ry; exact eq_bool (fin_bl I q dec_bl)
    | str j => obtain ⟨t', rfl⟩ := ry; exact PySem.EqMixed.eq_bool_str (fin_bl I q (by simp))
    | _ => exact absurd (show false = true from hs) Bool.false_ne_true
  | int i =>
    obtain ⟨t, rfl⟩ := rx
    cases y with
    | non => cases ry; exact PySem.EqNone.eq_int_none (fin_bl I q (by simp))
    | int j => obtain ⟨t', rfl⟩ := ry; exact eq_int (fin_bl I q dec_int)
    | str j => obtain ⟨t', rfl⟩ := ry; exact PySem.EqMixed.eq_int_str (fin_bl I q (by simp))
    | _ => exact absurd (show false = true from hs) Bool.false_ne_true
  | str i =>
    obtain ⟨t, rfl⟩ := rx
    cases y with
    | non => cases ry; exact PySem.EqNone.eq_str_none (fin_bl I q (by simp))
    | bl j => cases ry; exact PySem.EqMixed.eq_str_bool (fin_bl I q (by simp))
    | int j => obtain ⟨t', rfl⟩ := ry; exact PySem.EqMixed.eq_str_int (fin_bl I q (by simp))
    | str j => obtain ⟨t', rfl⟩ := ry; exact eq_str (fin_bl I q dec_str)
    | _ => exact absurd (show false = true from hs) Bool.false_ne_true
  | byt i =>
    obtain ⟨t, rfl⟩ := rx
    cases y with
    | byt j => obtain ⟨t', rfl⟩ := ry; exact PySem.W.eq_bytes (fin_bl I q dec_byt)
    | _ => exact absurd (show false = true from hs) Bool.false_ne_true
  | _ => cases y <;> exact absurd (show false = true from hs) Bool.false_ne_true
theorem op_ne : OpR X (compareOp .NotEq) rNe := by
  intro pins s σ H x y v u Q I rx ry h
  obtain ⟨hs, q⟩ := h
  cases x with
  | non =>
    cases rx
    cases y with
    | non => cases ry; exact PySem.EqNone.ne_none_none (fin_bl I q (by simp))
    | bl j => cases ry; exact PySem.EqNone.ne_none_bool (fin_bl I q (by simp))
    | int j => obtain ⟨t', rfl⟩ := ry; exact PySem.EqNone.ne_none_int (fin_bl I q (by simp))
    | str j => obtain ⟨t', rfl⟩ := ry; exact PySem.EqNone.ne_none_str (fin_bl I q (by simp))
    | _ => exact absurd (show false = true from hs) Bool.false_ne_true
  | bl i =>
    cases rx
    cases y with
    | non => cases ry; exact PySem.EqNone.ne_bool_none (fin_bl I q (by simp))
    | bl j => cases ry; exact ne_bool (fin_bl I q (congrArg not dec_bl))
    | str j => obtain ⟨t', rfl⟩ := ry; exact PySem.EqMixed.ne_bool_str (fin_bl I q (by simp))
    | _ => exact absurd (show false = true from hs) Bool.false_ne_true
  | int i =>
    obtain ⟨t, rfl⟩ := rx
    cases y with
    | non => cases ry; exact PySem.EqNone.ne_int_none (fin_bl I q (by simp))
    | int j => obtain ⟨t', rfl⟩ := ry; exact ne_int (fin_bl I q (congrArg not dec_int))
    | str j => obtain ⟨t', rfl⟩ := ry; exact PySem.EqMixed.ne_int_str (fin_bl I q (by simp))
    | _ => exact absurd (show false = true from hs) Bool.false_ne_true
  | str i =>
    obtain ⟨t, rfl⟩ := rx
    cases y with
    | non => cases ry; exact PySem.EqNone.ne_str_none (fin_bl I q (by simp))
    | bl j => cases ry; exact PySem.EqMixed.ne_str_bool (fin_bl I q (by simp))
    | int j => obtain ⟨t', rfl⟩ := ry; exact PySem.EqMixed.ne_str_int (fin_bl I q (by simp))
    | str j => obtain ⟨t', rfl⟩ := ry; exact ne_str (fin_bl I q (congrArg not dec_str))
    | _ => exact absurd (show false = true from hs) Bool.false_ne_true
  | byt i =>
    obtain ⟨t, rfl⟩ := rx
    cases y with
    | byt j => obtain ⟨t', rfl⟩ := ry; exact PySem.W.ne_bytes (fin_bl I q (congrArg not dec_byt))
    | _ => exact absurd (show false = true from hs) Bool.false_ne_true
  | _ => cases y <;> exact absurd (show false = true from hs) Bool.false_ne_true

theorem op_lt : OpR X (compareOp .Lt) (rI0 fun i j => .bl (decide (i < j))) := opB0 fun _ _ _ _ _ _ _ q => lt_int q
theorem op_le : OpR X (compareOp .LtE) (rI0 fun i j => .bl (decide (i ≤ j))) := opB0 fun _ _ _ _ _ _ _ q => le_int q
theorem op_isN : OpR X (compareOp .Is) (fun x y H Q => y = .non ∧ Q (.bl (decide (x = .non))) H) := by
  intro pins s σ H x y v u Q I rx ry h
  obtain ⟨rfl, q⟩ := h
  cases ry
  refine is_none_gen (fin_bl I q ?_)
  cases x <;> first
    | (cases rx; rfl)
    | (obtain ⟨t, rfl⟩ := rx; rfl)
theorem op_notN : OpR X (compareOp .IsNot) (fun x y H Q => y = .non ∧ Q (.bl (!decide (x = .non))) H) := by
  intro pins s σ H x y v u Q I rx ry h
  obtain ⟨rfl, q⟩ := h
  cases ry
  refine isnot_none_gen (fin_bl I q ?_)
  cases x <;> first
    | (cases rx; rfl)
    | (obtain ⟨t, rfl⟩ := rx; rfl)

theorem nomark (b : Expr) {op : CmpOp} (h : op ≠ .In := by decide) (h2 : op ≠ .NotIn := by decide) : behindInMarks op b = false := by
  have e1 : (op == CmpOp.In) = false := by cases op <;> first | rfl | exact absurd rfl h
  have e2 : (op == CmpOp.NotIn) = false := by cases op <;> first | rfl | exact absurd rfl h2
  cases b <;> simp [behindInMarks, e1, e2]
theorem pe_cmpR {op : CmpOp} {r : R2} (ho : OpR X (compareOp op) r) (ha : PE X a ta) (hb : PE X b tb) (hm : behindInMarks op b = false) : PE X (.Compare a [op] [b] pos) (tOp r ta tb) := by
  intro pins s σ H Q I h
  exact wpAny_Compare1 (binT ha hb I h fun v u s2 x y H2 I2 rx ry q => ho pins s2 σ H2 x y v u Q I2 rx ry q) hm
noncomputable def tTest (t : TE) : TT := fun σ H Q => t σ H fun x H' => ∃ k, x = .bl k ∧ Q k H'
theorem pt_cmpR {op : CmpOp} {r : R2} (ho : OpR X (compareOp op) r) (ha : PE X a ta) (hb : PE X b tb) (hm : behindInMarks op b = false) : PT X (.Compare a [op] [b] pos) (tTest (tOp r ta tb)) := by
  intro pins s σ H Q I h
  refine wpAny_isTrue_Compare1 (thn (ha pins s σ H _ I h) fun v s1 ⟨x, H1, I1, r1, q1⟩ => thn (hb pins s1 σ H1 _ I1 q1) fun u s2 ⟨y, H2, I2, r2, q2⟩ =>
    thn (ho pins s2 σ H2 x y v u _ I2 r1 r2 q2) fun c s3 ⟨z, H3, I3, r3, k, e, q3⟩ => ?_) hm
  subst e
  cases r3
  exact wpAny_truthy_bool ⟨H3, I3, q3⟩
noncomputable def tChain (r r' : R2) (ta tb tc : TE) : TE := fun σ H Q => ta σ H fun x H1 => tb σ H1 fun y H2 => r x y H2 fun z H3 => ∃ k, z = .bl k ∧
  (if k = true then tc σ H3 fun w' H4 => r' y w' H4 Q else Q (.bl false) H3)
theorem pt_chain {op op' : CmpOp} {r r' : R2} (ho : OpR X (compareOp op) r) (ho' : OpR X (compareOp op') r') (ha : PE X a ta) (hb : PE X b tb) (hc : PE X c tc)
    (hm : lastMarks [op, op'] [b, c] = false := by with_unfolding_all rfl) : PT X (.Compare a [op, op'] [b, c] pos) (tTest (tChain r r' ta tb tc)) := by
  intro pins s σ H Q I h
  refine isTrue_chain (thn (ha pins s σ H _ I h) fun v s1 ⟨x, H1, I1, r1, q1⟩ => test_link (thn (hb pins s1 σ H1 _ I1 q1) fun u s2 ⟨y, H2, I2, r2, q2⟩ =>
    thn (ho pins s2 σ H2 x y v u _ I2 r1 r2 q2) fun d s3 ⟨z, H3, I3, r3, k, e, q3⟩ => ?_)) hm
  subst e
  cases r3
  refine wpAny_truthy_bool ?_
  cases k with
  | false =>
    obtain ⟨k', e', q'⟩ := q3
    cases e'
    exact ite_ff ⟨H3, I3, q'⟩
  | true =>
    refine ite_tt (test_last (thn (hc pins s3 σ H3 _ I3 q3) fun w' s4 ⟨z', H4, I4, r4, q4⟩ => thn (ho' pins s4 σ H4 y z' u w' _ I4 r2 r4 q4) fun d' s5 ⟨z2, H5, I5, r5, k2, e2, q5⟩ => ?_))
    subst e2
    cases r5
    exact wpAny_truthy_bool ⟨H5, I5, q5⟩

theorem line63 : (sizeLine : Nat) < 2 ^ 63 := by rw [sizeLine_eq]; decide
theorem vals1 {x : V} {us : List Value} (r : Vals [x] us) : ∃ u, us = [u] ∧ RelV x u := by
  cases r with
  | cons r1 r2 => cases r2; exact ⟨_, rfl, r1⟩
theorem vals2 {x y : V} {us : List Value} (r : Vals [x, y] us) : ∃ u w', us = [u, w'] ∧ RelV x u ∧ RelV y w' := by
  cases r with
  | cons r1 r2 =>
    cases r2 with
    | cons r3 r4 => cases r4; exact ⟨_, _, rfl, r1, r3⟩
theorem call_int1 : CallR X (.type "int") (fun xs H Q => (∃ i, xs = [.int i] ∧ Q (.int i) H) ∨ ∃ k, xs = [.bl k] ∧ Q (.int (if k then 1 else 0)) H) := by
  intro pins s σ H xs us Q I r h
  rcases h with ⟨i, rfl, q⟩ | ⟨k, rfl, q⟩
  · obtain ⟨u, rfl, t, rfl⟩ := vals1 r
    exact call_int_int ⟨.int i, H, I, ⟨_, rfl⟩, q⟩
  · obtain ⟨u, rfl, r1⟩ := vals1 r
    cases r1
    exact call_int_bool ⟨.int (if k then 1 else 0), H, I.tok _, ⟨_, rfl⟩, q⟩
end
end L2

namespace L2
open PySem PySem.Spec PyProof.Rows

structure ObjM (h : Heap) (x dx C : Addr) (mA : Str → Option Value) : Prop where
  obj : h.get? x = some (PySem.W.instObj C dx)
  ns : h.Ns1 dx mA
  ne : dx ≠ x

theorem lookIn_ns {h : Heap} {dx : Addr} {mA : Str → Option Value} (n : h.Ns1 dx mA) : ∃ od, h.get? dx = some od ∧ ∀ name, PySem.W.lookIn name od = some (mA name) := by
  obtain ⟨o, es, ep, ho, hd, hk, _, hm⟩ := n
  refine ⟨o, ho, fun name => ?_⟩
  have e := hm name
  unfold nsFind findBy at e
  rw [← Array.find?_toList] at e
  unfold PySem.W.lookIn
  rw [hd]
  dsimp only
  split
  · rename_i y q
    rw [q] at e
    exact congrArg some e
  · rename_i q
    rw [q] at e
    have a : es.toList.any (·.refKey) = false := by
      rw [List.any_eq_false]
      intro y hy
      obtain ⟨z, t, hkey⟩ := hk y (Array.mem_toList_iff.mp hy)
      simp [DictEntry.refKey, hkey]
    have a' : ¬ es.toList.any (·.refKey) = true := by rw [a]; exact Bool.false_ne_true
    rw [if_neg a']
    exact congrArg some e

theorem ObjM.look {h : Heap} {x dx C : Addr} {mA : Str → Option Value} (I : ObjM h x dx C mA) : ∃ od, PySem.W.InstAt h x (PySem.W.instObj C dx) C (some od) ∧ ∀ name, PySem.W.lookIn name od = some (mA name) :=
  let ⟨od, ho, hl⟩ := lookIn_ns I.ns
  ⟨od, ⟨I.obj, rfl, rfl, ho⟩, hl⟩

section
variable {prog : Program} {w : World} {A : Around} {E : Value → Shared → Prop} {s : Shared} {K : PySem.W.Frag} {x dx C f : Addr} {mA : Str → Option Value} {name : Str} {v : Value}

theorem get_map {expr : Bool} {Q : Value → Shared → Prop} (X : K.In s.heap) (I : ObjM s.heap x dx C mA) (hg : PySem.W.plainGet K C name = true) (hh : PySem.W.hasDictIn K C = true)
    (ha : PySem.W.findIn K (.ref C) name = some none) (hv : mA name = some v) (hv' : PySem.W.handedIn v = true) (h : Q v { s with toks := s.toks + 1 }) :
    wpAny (model prog w) A (getAttr (.ref x) name expr) Q E s := by
  obtain ⟨od, J, hl⟩ := I.look
  exact PySem.W.get_value X J (PySem.W.plainGet_of hg).1 (PySem.W.findObj_own hh ha rfl (by rw [hl, hv])) hv' h

theorem get_meth {pl : Sem Bool} {Q : Value × List Value → Shared → Prop} (X : K.In s.heap) (I : ObjM s.heap x dx C mA) (hg : PySem.W.plainGet K C name = true)
    (hf : PySem.W.findIn K (.ref C) name = some (some (.ref f))) (ht : PySem.W.isFn K (.ref f) = true) (hv : mA name = none) (h : Q (.ref f, [.ref x]) s) :
    wpAny (model prog w) A (getMethod (.ref x) name pl) Q E s := by
  obtain ⟨od, J, hl⟩ := I.look
  exact PySem.W.method_fn X J (PySem.W.plainGet_of hg).1 (PySem.W.plainGet_of hg).2 hf (beq_iff_eq.mp ht) (by show (PySem.W.lookIn name od).map (·.isSome) = some false; rw [hl, hv]; rfl) h

theorem set_map {ns : List Str} {Q : Unit → Shared → Prop} (X : K.In s.heap) (I : ObjM s.heap x dx C mA)
    (hs : PySem.W.findIn K (.ref C) "__setattr__" = some (some (.builtin "object.__setattr__"))) (hp : PySem.W.plainOver K C = true) (ht : PySem.W.takerIn K C name = some none) (hh : PySem.W.hasDictIn K C = true)
    (hw : PySem.Within mA ns) (hsz : ns.length ≤ sizeLine)
    (h : ∀ h', ObjM h' x dx C (fun y => if y = name then some v else mA y) → Heap.SameBut dx s.heap h' → Q () { s with heap := h', toks := s.toks + 2 }) :
    wpAny (model prog w) A (setAttr (.ref x) name v) Q E s := by
  obtain ⟨od, J, hl⟩ := I.look
  refine PySem.W.set_plain X J hs (PySem.W.osa_open (s := { s with toks := s.toks + 1 }) (r := none) X J hp ht fun b => ?_)
  obtain ⟨cd, hc, hd'⟩ := PySem.W.any_some hh
  have hx : s.heap.get? x = some ⟨.ref C, some dx, .plain, #[]⟩ := I.obj
  refine wpAny_bind (wpAny_pure (wpAny_bind (wpAny_bind (wpAny_loadPart hx (wpAny_bind (PySem.W.Looks.here (s := { s with toks := s.toks + 1 }) (PySem.W.looks_clsIn X hc) ?_))))))
  rw [hd']
  refine wpAny_pure (a := some dx) (wpAny_bind (wpAny_pure (wpAny_bind ?_)))
  refine wpAny_nsSet1 (s := { s with toks := s.toks + 1 }) I.ns fun h' hn2 hs2 => ?_
  obtain ⟨oD, esD, epD, hoD, hdD, hcD⟩ := hn2.count (PySem.Within.cons name v hw)
  refine wpAny_bind (wpAny_lookBehind hoD (by rw [hdD]; exact pastItsLine_dict (Nat.le_trans hcD (by rw [List.length_cons]; omega))) ?_)
  exact wpAny_pure (h _ ⟨(hs2.2 _ (Ne.symm I.ne)).trans I.obj, hn2, I.ne⟩ hs2)

theorem make_map {R : Result → Shared → Prop} {vs : List Value} {kw : List (Str × Value)} (X : K.In s.heap) (hm : PySem.W.makesIn K C = true)
    (hi : PySem.W.findIn K (.ref C) "__init__" = some (some (.ref f))) (hf : PySem.W.typeIn K (.ref f) = some (.type "function"))
    (h : codeAny (model prog w) (A.under (.builtin "type.__call__" ⟨.ref C :: vs, kw⟩)) (.call (.ref f) ⟨.ref (s.heap.objs.size + 1) :: vs, kw⟩) (PySem.W.InitBack (s.heap.objs.size + 1) R)
      { s with heap := (s.heap.push PySem.W.emptyDict).push (PySem.W.instObj C s.heap.objs.size) }) :
    codeAny (model prog w) A (.call (.ref C) ⟨vs, kw⟩) R s := by
  obtain ⟨hh, g, d, t, os⟩ := s
  exact PySem.W.make_core (PySem.W.makes_of X hm) (PySem.W.looks_findIn X hi) (fun self => PySem.W.bind_fn X self hf) (.inl rfl) h
end

noncomputable def putF (f : Str) (v : V) : List (Str × V) → List (Str × V)
  | [] => [(f, v)]
  | (g, x) :: r => if g = f then (g, v) :: r else (g, x) :: putF f v r
theorem lookup_putF (f g : Str) (v : V) : ∀ fs : List (Str × V), (putF f v fs).lookup g = if g = f then some v else fs.lookup g
  | [] => by
    show List.lookup g [(f, v)] = _
    by_cases h : g = f
    · have hb : (g == f) = true := beq_iff_eq.mpr h
      simp only [List.lookup, hb, if_pos h]
    · have hb : (g == f) = false := beq_eq_false_iff_ne.mpr h
      simp only [List.lookup, hb, if_neg h]
  | (k, x) :: r => by
    have ih := lookup_putF f g v r
    rw [show putF f v ((k, x) :: r) = (if k = f then (k, v) :: r else (k, x) :: putF f v r) from rfl]
    by_cases hk : k = f
    · rw [if_pos hk]
      by_cases h : g = k
      · have hb : (g == k) = true := beq_iff_eq.mpr h
        simp only [List.lookup, hb, if_pos (h.trans hk)]
      · have hb : (g == k) = false := beq_eq_false_iff_ne.mpr h
        simp only [List.lookup, hb, if_neg (fun e : g = f => h (e.trans hk.symm))]
    · rw [if_neg hk]
      by_cases h : g = k
      · have hb : (g == k) = true := beq_iff_eq.mpr h
        simp only [List.lookup, hb, if_neg (fun e : g = f => hk (h.symm.trans e))]
      · have hb : (g == k) = false := beq_eq_false_iff_ne.mpr h
        simp only [List.lookup, hb]
        exact ih
theorem keys_putF (f : Str) (v : V) : ∀ fs : List (Str × V), f ∈ (putF f v fs).map (·.1) ∧ ∀ g, g ∈ fs.map (·.1) → g ∈ (putF f v fs).map (·.1)
  | [] => ⟨by simp [putF], fun g h => by simp at h⟩
  | (k, x) :: r => by
    obtain ⟨i1, i2⟩ := keys_putF f v r
    rw [show putF f v ((k, x) :: r) = (if k = f then (k, v) :: r else (k, x) :: putF f v r) from rfl]
    by_cases hk : k = f
    · rw [if_pos hk]
      subst hk
      exact ⟨by simp, fun g h => by simpa using h⟩
    · rw [if_neg hk]
      refine ⟨?_, fun g h => ?_⟩
      · rw [List.map_cons]
        exact List.mem_cons_of_mem _ i1
      · rw [List.map_cons] at h ⊢
        rcases List.mem_cons.mp h with e | e
        · exact List.mem_cons.mpr (.inl e)
        · exact List.mem_cons_of_mem _ (i2 g e)
theorem length_putF (f : Str) (v : V) : ∀ fs : List (Str × V), (putF f v fs).length ≤ fs.length + 1
  | [] => by simp [putF]
  | (k, x) :: r => by
    have ih := length_putF f v r
    rw [show putF f v ((k, x) :: r) = (if k = f then (k, v) :: r else (k, x) :: putF f v r) from rfl]
    by_cases hk : k = f
    · rw [if_pos hk, List.length_cons, List.length_cons]; omega
    · rw [if_neg hk, List.length_cons, List.length_cons]; omega

theorem RelO.some_of {v : V} {o : Option Value} (r : RelO (some v) o) : ∃ u, o = some u ∧ RelV v u := by
  cases o with
  | none => exact (show False from r).elim
  | some u => exact ⟨u, rfl, r⟩
theorem RelO.none_of {o : Option Value} (r : RelO none o) : o = none := by
  cases o with
  | none => rfl
  | some u => exact (show False from r).elim
theorem handed_of {v : V} {u : Value} (r : RelV v u) : PySem.W.handedIn u = true := by
  cases v with
  | non => cases (show u = Value.none from r); rfl
  | bl b => cases (show u = Value.bool b from r); rfl
  | int i => obtain ⟨t, e⟩ := (show ∃ t, u = Value.int i t from r); cases e; rfl
  | str x => obtain ⟨t, e⟩ := (show ∃ t, u = Value.str x t from r); cases e; rfl
  | byt b => obtain ⟨t, e⟩ := (show ∃ t, u = Value.bytes b t from r); cases e; rfl
  | flt b => obtain ⟨t, e⟩ := (show ∃ t, u = Value.float b t from r); cases e; rfl
  | ref a => cases (show u = Value.ref a from r); rfl
  | ty n => cases (show u = Value.type n from r); rfl

section
variable {P : Program} {w : World} {H H' : Hp} {h h' : Heap} {a C dx : Addr} {fs fs' : List (Str × V)}
theorem ins_get (hok : HOk P w H h) (e : H a = some (.ins C dx fs)) : ∃ mA, ObjM h a dx C mA ∧ (∀ f, RelO (fs.lookup f) (mA f)) ∧ PySem.Within mA (fs.map (·.1)) ∧ fs.length ≤ 1000 ∧ H dx = some (.own a) := by
  obtain ⟨d, z, ne, ob, mA, n, r, q⟩ := (show ObjOk P w H h a (.ins C dx fs) from hok a _ e)
  exact ⟨mA, ⟨ob, n, ne⟩, r, q, z, d⟩
end

structure Cls (K : PySem.W.Frag) (C : Addr) : Prop where
  pg : PySem.W.plainGet K C Str.empty = true
  hd : PySem.W.hasDictIn K C = true
  po : PySem.W.plainOver K C = true
  sa : PySem.W.findIn K (.ref C) "__setattr__" = some (some (.builtin "object.__setattr__"))
theorem Cls.get {K : PySem.W.Frag} {C : Addr} (c : Cls K C) (f : Str) : PySem.W.plainGet K C f = true := c.pg
noncomputable def NoAttr (K : PySem.W.Frag) (C : Addr) (f : Str) : Prop := PySem.W.findIn K (.ref C) f = some none
theorem NoAttr.taker {K : PySem.W.Frag} {C : Addr} {f : Str} (n : NoAttr K C f) : PySem.W.takerIn K C f = some none := by
  unfold PySem.W.takerIn
  rw [show PySem.W.findIn K (.ref C) f = some none from n]
  rfl
structure Meth (K : PySem.W.Frag) (C : Addr) (m : Str) (f : Addr) : Prop where
  at_ : PySem.W.findIn K (.ref C) m = some (some (.ref f))
  fn : PySem.W.isFn K (.ref f) = true
  kp : PySem.W.keepIn K (.ref f) = true

section
variable {X : Cx} {pins : List (Addr × Obj)} {σ : St} {H : Hp} {s : Shared} {a C dx : Addr} {fs : List (Str × V)} {f : Str} {v : V} {A : Around} {E : Value → Shared → Prop}

theorem getattr_ok {b : Bool} {Q : Value → Shared → Prop} (I : Inv X pins σ H s) (e : H a = some (.ins C dx fs)) (c : Cls X.K C) (n : NoAttr X.K C f) (l : fs.lookup f = some v)
    (h : ∀ u s', Inv X pins σ H s' → RelV v u → Q u s') : wpAny (model X.prog X.w) A (getAttr (.ref a) f b) Q E s := by
  obtain ⟨mA, O, r, _, _, _⟩ := ins_get I.hok e
  obtain ⟨u, hu, ru⟩ := RelO.some_of (v := v) (o := mA f) (by rw [← l]; exact r f)
  exact get_map I.kIn O (c.get f) c.hd n hu (handed_of ru) (h u _ (I.tok _) ru)

theorem getmeth_ok {m : Str} {g : Addr} {pl : Sem Bool} {Q : Value × List Value → Shared → Prop} (I : Inv X pins σ H s) (e : H a = some (.ins C dx fs)) (c : Cls X.K C) (k : Meth X.K C m g) (l : fs.lookup m = none)
    (h : Q (.ref g, [.ref a]) s) : wpAny (model X.prog X.w) A (getMethod (.ref a) m pl) Q E s := by
  obtain ⟨mA, O, r, _, _, _⟩ := ins_get I.hok e
  have hn : mA m = none := RelO.none_of (by rw [← l]; exact r m)
  exact get_meth I.kIn O (c.get m) k.at_ k.fn hn h

theorem setattr_ok {y : V} {u : Value} {Q : Unit → Shared → Prop} (I : Inv X pins σ H s) (e : H a = some (.ins C dx fs)) (c : Cls X.K C) (n : NoAttr X.K C f) (hl : fs.length < 1000) (ry : RelV y u)
    (h : ∀ s', Inv X pins σ (upd H a (.ins C dx (putF f y fs))) s' → Q () s') : wpAny (model X.prog X.w) A (setAttr (.ref a) f u) Q E s := by
  obtain ⟨mA, O, r, wi, _, ho⟩ := ins_get I.hok e
  have hz : (fs.map (·.1)).length ≤ sizeLine := by rw [List.length_map, sizeLine_eq]; omega
  refine set_map I.kIn O c.sa c.po n.taker c.hd wi hz fun h' O' sb => h _ ?_
  have hd : ∃ o, h'.get? dx = some o := let ⟨o, _, _, e', _⟩ := O'.ns; ⟨o, e'⟩
  refine I.write (x := a) (e := dx) (by rw [e]; exact True.intro) (.inr ho) (fun b q hb z => (sb.2 b hb).trans z) hd ?_
  refine ⟨by rw [upd_ne O.ne]; exact ho, ?_, O.ne, O'.obj, _, O'.ns, fun g => ?_, fun g hg => ?_⟩
  · have := length_putF f y fs; omega
  · show RelO ((putF f y fs).lookup g) (if g = f then some u else mA g)
    rw [lookup_putF]
    by_cases q : g = f
    · rw [if_pos q, if_pos q]; exact ry
    · rw [if_neg q, if_neg q]; exact r g
  · by_cases q : g = f
    · rw [q]; exact (keys_putF f y fs).1
    · refine (keys_putF f y fs).2 g (wi g fun z => hg ?_)
      show (if g = f then some u else mA g) = none
      rw [if_neg q]; exact z

theorem Inv.made (I : Inv X pins σ H s) : Inv X pins σ (upd (upd H s.heap.objs.size (.own (s.heap.objs.size + 1))) (s.heap.objs.size + 1) (.ins C s.heap.objs.size []))
    { s with heap := (s.heap.push PySem.W.emptyDict).push (PySem.W.instObj C s.heap.objs.size) } := by
  have e1 : (s.heap.push PySem.W.emptyDict).get? s.heap.objs.size = some PySem.W.emptyDict := Heap.get?_push_size s.heap rfl
  have e2 : ((s.heap.push PySem.W.emptyDict).push (PySem.W.instObj C s.heap.objs.size)).get? (s.heap.objs.size + 1) = some (PySem.W.instObj C s.heap.objs.size) := by
    have := Heap.get?_push_size (s.heap.push PySem.W.emptyDict) (o := PySem.W.instObj C s.heap.objs.size) rfl
    rwa [Heap.size_push] at this
  have e3 : (s.heap.push PySem.W.emptyDict).Ns s.heap.objs.size (fun _ => none) := ⟨PySem.W.emptyDict, #[], _, e1, rfl, (fun e he => absurd he (by simp)), fun _ => rfl⟩
  have I1 := I.laid (a := s.heap.objs.size) (o := .own (s.heap.objs.size + 1)) (h' := s.heap.push PySem.W.emptyDict) (t' := s.toks) (fun b u q => Heap.get?_push_of_some _ q) (Nat.le_refl _) ⟨_, e1⟩
  refine I1.laid (a := s.heap.objs.size + 1) (o := .ins C s.heap.objs.size []) (t' := s.toks) (fun b u q => Heap.get?_push_of_some _ q) (Nat.le_of_eq (Heap.size_push _ _)) ?_
  have ne : s.heap.objs.size ≠ s.heap.objs.size + 1 := Nat.ne_of_lt (Nat.lt_succ_self _)
  refine ⟨by rw [upd_ne ne, upd_same], Nat.zero_le _, ne, e2, fun _ => none, (Heap.Ns1.of_empty e3).at fun o q => Heap.get?_push_of_some _ q, fun _ => True.intro, fun y hy => absurd rfl hy⟩

theorem attr_of {prog : Program} {w : World} {env : Env} {e : Expr} {f : Str} {pos : Pos} {s : Shared} {Q : Value → Shared → Prop} (hb : attributeBase e f env (eval e env) = eval e env)
    (h : wpAny (model prog w) A (eval e env) (fun o s₁ => wpAny (model prog w) A (getAttr o f true) Q E s₁) E s) : wpAny (model prog w) A (eval (.Attribute e f pos) env) Q E s :=
  Attribute_any_ h (by rw [arm_eval_Attribute, hb])
end

noncomputable def tFld (K : PySem.W.Frag) (ta : TE) (f : Str) : TE := fun σ H Q => ta σ H fun x H1 => ∃ a C dx fs v, x = .ref a ∧ H1 a = some (.ins C dx fs) ∧ Cls K C ∧ NoAttr K C f ∧ fs.lookup f = some v ∧ Q v H1
noncomputable def sFld (K : PySem.W.Frag) (ta tv : TE) (f : Str) : TS := fun D σ H => tv σ H fun y H1 => ta σ H1 fun x H2 => ∃ a C dx fs, x = .ref a ∧ H2 a = some (.ins C dx fs) ∧ Cls K C ∧ NoAttr K C f ∧ fs.length < 1000 ∧
  D.nx σ (upd H2 a (.ins C dx (putF f y fs)))
section
variable {X : Cx} {o e value : Expr} {f : Str} {pos pos' tpos : Pos} {ta tv : TE}
theorem pe_fld (he : PE X e ta) (hb : attributeBase e f X.env (eval e X.env) = eval e X.env) : PE X (.Attribute e f pos) (tFld X.K ta f) := by
  intro pins s σ H Q I h
  refine attr_of hb (thn (he pins s σ H _ I h) fun u s1 hzz => ?_)
  obtain ⟨x, H1, I1, rx, a, C, dx, fs, v, ex, ea, c, n, l, q⟩ := hzz
  subst ex
  obtain rfl : u = Value.ref a := rx
  exact getattr_ok I1 ea c n l fun u' s2 I2 ru => ⟨v, H1, I2, ru, q⟩
theorem ps_fld (ha : PE X o ta) (hv : PE X value tv) (hs : swapsWith value (some (.Attribute o f pos')) pos.line X.env = pure false) : PS X (.Assign [.Attribute o f pos'] value pos) (sFld X.K ta tv f) := by
  intro pins s σ H D I h
  refine plainObj_wpAny_Assign_Attribute (thn (hv pins s σ H _ I h) fun u s1 ⟨y, H1, I1, ry, q⟩ => thn (ha pins s1 σ H1 _ I1 q) fun ov s2 hzz => ?_) hs
  obtain ⟨x, H2, I2, rx, a, C, dx, fs, ex, ea, c, n, l, q2⟩ := hzz
  subst ex
  obtain rfl : ov = Value.ref a := rx
  exact setattr_ok I2 ea c n l ry fun s3 I3 => ⟨σ, _, I3, q2⟩
end

section
variable {X : Cx} {pins : List (Addr × Obj)} {σ : St} {H : Hp} {s : Shared} {A : Around} {E : Value → Shared → Prop} {Q : Value → Shared → Prop} {c : Value} {b : Bool}
inductive TyOf (K : PySem.W.Frag) (H : Hp) : V → Value → Prop where
  | non : TyOf K H .non (.type "NoneType")
  | bl (x : Bool) : TyOf K H (.bl x) (.type "bool")
  | int (i : Int) : TyOf K H (.int i) (.type "int")
  | str (x : Str) : TyOf K H (.str x) (.type "str")
  | flt (x : UInt64) : TyOf K H (.flt x) (.type "float")
  | lst {a : Addr} {xs : List V} (e : H a = some (.lst xs)) : TyOf K H (.ref a) (.type "list")
  | frz {a : Addr} {o : Obj} {xs : List V} (e : H a = some (.frz o (.lst xs))) : TyOf K H (.ref a) (.type "list")
  | tup {a : Addr} {xs : List V} (e : H a = some (.tup xs)) : TyOf K H (.ref a) (.type "tuple")
  | dK {a : Addr} {kvs : List (Key × V)} (e : H a = some (.dK kvs)) : TyOf K H (.ref a) (.type "dict")
  | dT {a : Addr} {kvs : List (List Key × V)} (e : H a = some (.dT kvs)) : TyOf K H (.ref a) (.type "dict")
  | ins {a C dx : Addr} {fs : List (Str × V)} (e : H a = some (.ins C dx fs)) (cl : Cls K C) (ha : PySem.W.findIn K (.ref C) "__class__" = some (some (.builtin "object.__class__")))
      (hn : PySem.W.specialIn K (.builtin "object.__class__") "__get__" = some (some (.builtin "getset_descriptor.__get__"))) (htk : PySem.W.takesIn K (.builtin "object.__class__") = some true)
      (hm : PySem.W.mroIn K C (.type "object") = some true) : TyOf K H (.ref a) (.ref C)
theorem isinst_ok {x : V} {u t : Value} (I : Inv X pins σ H s) (rx : RelV x u) (ty : TyOf X.K H x t) (e : PySem.W.kitOne X.K t c = some b) (h : ∀ tk, Q (.bool b) { s with toks := tk }) :
    wpAny (model X.prog X.w) A (call (.builtin "isinstance") [u, c]) Q E s := by
  cases ty with
  | non => cases (show u = Value.none from rx); exact PySem.W.kia_one PySem.W.kitx_none I.kIn True.intro e (fun z => nomatch z) h
  | bl y => cases (show u = Value.bool y from rx); exact PySem.W.kia_one PySem.W.kitx_bool I.kIn True.intro e (fun z => nomatch z) h
  | int i => obtain ⟨t, q⟩ := (show ∃ t, u = Value.int i t from rx); cases q; exact PySem.W.kia_one PySem.W.kitx_int I.kIn True.intro e (fun z => nomatch z) h
  | str y => obtain ⟨t, q⟩ := (show ∃ t, u = Value.str y t from rx); cases q; exact PySem.W.kia_one PySem.W.kitx_str I.kIn True.intro e (fun z => nomatch z) h
  | flt y => obtain ⟨t, q⟩ := (show ∃ t, u = Value.float y t from rx); cases q; exact PySem.W.kia_one PySem.W.kitx_float I.kIn True.intro e (fun z => nomatch z) h
  | @lst a xs ea =>
    cases (show u = Value.ref a from rx)
    obtain ⟨_, _, n, _, h1⟩ := (show ObjOk X.prog X.w H s.heap a (.lst xs) from I.hok a _ ea)
    exact PySem.W.kia_one PySem.W.kitx_list I.kIn ⟨_, h1, rfl⟩ e (fun z => nomatch z) h
  | @frz a ob xs ea =>
    cases (show u = Value.ref a from rx)
    obtain ⟨_, _, _, n, _, h1⟩ := (show ObjOk X.prog X.w H s.heap a (.frz ob (.lst xs)) from I.hok a _ ea)
    exact PySem.W.kia_one PySem.W.kitx_list I.kIn ⟨_, h1, rfl⟩ e (fun z => nomatch z) h
  | @tup a xs ea =>
    cases (show u = Value.ref a from rx)
    obtain ⟨_, _, _, p⟩ := (show ObjOk X.prog X.w H s.heap a (.tup xs) from I.hok a _ ea)
    obtain ⟨o, h1, h2, _⟩ := p
    exact PySem.W.kia_one PySem.W.kitx_tuple I.kIn ⟨o, h1, h2⟩ e (fun z => nomatch z) h
  | @dK a kvs ea =>
    cases (show u = Value.ref a from rx)
    obtain ⟨_, _, vs, _, p⟩ := (show ObjOk X.prog X.w H s.heap a (.dK kvs) from I.hok a _ ea)
    obtain ⟨o, es, ep, h1, h2, _⟩ := p
    exact PySem.W.kia_one PySem.W.kitx_dict I.kIn ⟨o, h1, h2.1⟩ e (fun z => nomatch z) h
  | @dT a kvs ea =>
    cases (show u = Value.ref a from rx)
    obtain ⟨_, _, xs, _, o, es, ep, h1, h2, _⟩ := (show ObjOk X.prog X.w H s.heap a (.dT kvs) from I.hok a _ ea)
    exact PySem.W.kia_one PySem.W.kitx_dict I.kIn ⟨o, h1, h2.1⟩ e (fun z => nomatch z) h
  | @ins a C dx fs ea cl ha hn htk hm =>
    cases (show u = Value.ref a from rx)
    obtain ⟨mA, O, _⟩ := ins_get I.hok ea
    obtain ⟨od, J, _⟩ := O.look
    exact PySem.W.kia_one (PySem.W.kitx_own (cl.get _) cl.hd ha hn htk hm) I.kIn J e (fun z => nomatch z) h
end
end L2

namespace L2
open PySem PySem.Spec PyProof.Rows

structure Room (k : Nat) (A : Around) : Prop where
  hd : A.handled = none
  dp : A.depth + 3 * k + 5 < recursionLimit
  un : A.units + 16 * k + 200 < cLine
theorem Room.mono {j k : Nat} {A : Around} (r : Room k A) (h : j ≤ k) : Room j A := ⟨r.hd, by have := r.dp; omega, by have := r.un; omega⟩
theorem Room.deeper {k : Nat} {A : Around} (r : Room (k + 1) A) (env : Env) : Room k (A.deeper env) :=
  ⟨r.hd, by have := r.dp; show A.depth + 1 + 3 * k + 5 < _; omega, by have := r.un; show A.units + 3 + 16 * k + 200 < _; omega⟩
theorem make_depth {A : Around} {C : Addr} {us : List Value} {kw : List (Str × Value)} : (A.under (.builtin "type.__call__" ⟨.ref C :: us, kw⟩)).depth = A.depth + 1 := by
  first | rfl | simp [Around.under, Code.weight, Code.isCreation, Code.isGuard, Code.isCaller, Code.frames, Code.isFrame, guardIds]
theorem make_units {A : Around} {C : Addr} {us : List Value} {kw : List (Str × Value)} : (A.under (.builtin "type.__call__" ⟨.ref C :: us, kw⟩)).units = A.units + 1 := by
  first | rfl | simp [Around.under, Code.cUnits, Code.frames, Code.isFrame]
theorem Room.make {k : Nat} {A : Around} (r : Room (k + 1) A) (C : Addr) (us : List Value) (kw : List (Str × Value)) : Room k (A.under (.builtin "type.__call__" ⟨.ref C :: us, kw⟩)) :=
  ⟨r.hd, by have := r.dp; rw [make_depth]; omega, by have := r.un; rw [make_units]; omega⟩
theorem Room.depth {k : Nat} {A : Around} (r : Room k A) : A.depth < recursionLimit := by have := r.dp; omega
theorem Room.units {k : Nat} {A : Around} (r : Room k A) : A.units + 64 < cLine := by have := r.un; omega
noncomputable def tNil : TA := fun _ H Q => Q [] H
noncomputable def tCons (ta : TE) (tr : TA) : TA := fun σ H Q => ta σ H fun x H1 => tr σ H1 fun xs H2 => Q (x :: xs) H2
section
variable {X : Cx} {e : Expr} {es : List Expr} {te : TE} {t : TA} {pos : Pos}
theorem pa_nil : PA X [] tNil := fun _ _ _ _ H Q I h => Calls.spliced_nil ⟨[], H, I, .nil, h⟩
theorem pa_cons (ha : PE X e te) (hr : PA X es t) (hs : starEach (e :: es) X.env = (false, eval e X.env) :: starEach es X.env := by rfl) : PA X (e :: es) (tCons te t) := by
  intro pos pins s σ H Q I h
  rw [hs]
  show wpAny _ _ (spliced ((false, eval e X.env) :: backTo pos (starEach es X.env))) _ _ s
  refine Calls.spliced_cons (thn (ha pins s σ H _ I h) fun u s1 ⟨x, H1, I1, r1, q1⟩ => ?_)
  exact thn (hr pos pins s1 σ H1 _ I1 q1) fun us s2 ⟨xs, H2, I2, r2, q2⟩ => ⟨x :: xs, H2, I2, .cons r1 r2, q2⟩

noncomputable def tTup (t : TA) : TE := fun σ H Q => t σ H fun xs H1 => xs.length ≤ sizeLine ∧ ∀ p, H1 p = none → Q (.ref p) (upd H1 p (.tup xs))
noncomputable def tLst (t : TA) : TE := fun σ H Q => t σ H fun xs H1 => xs.length ≤ sizeLine ∧ ∀ p, H1 p = none → Q (.ref p) (upd H1 p (.lst xs))
theorem pe_tup {x1} (h : PA X es t) : PE X (.Tuple es x1 pos) (tTup t) := by
  intro pins s σ H Q I hq
  refine wpAny_Tuple_spliced (thn (h pos pins s σ H _ I hq) fun us s1 ⟨xs, H1, I1, r, z, q⟩ => ⟨by rw [← r.length]; exact z, ?_⟩)
  have hf : H1 s1.heap.objs.size = none := I1.hok.fresh (Nat.le_refl _)
  refine ⟨.ref s1.heap.objs.size, upd H1 s1.heap.objs.size (.tup xs), I1.laid (t' := s1.toks) (fun b u e => Heap.get?_push_of_some _ e) (Nat.le_refl _) ?_, rfl, q _ hf⟩
  exact ⟨z, us, r, ⟨_, Heap.get?_push_size _ rfl, rfl, _, rfl⟩⟩
theorem pe_lst (h : PA X es t) : PE X (.List es pos) (tLst t) := by
  intro pins s σ H Q I hq
  refine wpAny_List_spliced (thn (h pos pins s σ H _ I hq) fun us s1 ⟨xs, H1, I1, r, z, q⟩ => ⟨by rw [← r.length]; exact z, ?_⟩)
  have hf : H1 s1.heap.objs.size = none := I1.hok.fresh (Nat.le_refl _)
  refine ⟨.ref s1.heap.objs.size, upd H1 s1.heap.objs.size (.lst xs), I1.laid (t' := s1.toks) (fun b u e => Heap.get?_push_of_some _ e) (Nat.le_refl _) ?_, rfl, q _ hf⟩
  exact ⟨z, us, 0, r, Heap.get?_push_size _ rfl⟩
end

noncomputable abbrev Sp := List V → Hp → VK → XK → Prop
noncomputable abbrev CXT := List Env → Hp → Shared → XK → Value → Shared → Prop

structure Env0 (P : Program) (w : World) (K : PySem.W.Frag) (mg : Str → Option Value) (base : Heap) (A : Around) (outer : List Env) (s : Shared) (H : Hp) : Prop where
  frames : A.frames = some outer
  mod : Mod K mg base
  bs : ∀ b o, base.get? b = some o → s.heap.get? b = some o ∧ H b = none
  bsz : base.objs.size ≤ s.heap.objs.size
  funs : s.heap.FunFrames base outer
  frf : ∀ b ∈ frs outer, H b = none
  hok : HOk P w H s.heap
  bare : AllBare s.gens
noncomputable def CE (outer : List Env) (P : Program) (w : World) (H : Hp) (s : Shared) (Q : VK) (u : Value) (s' : Shared) : Prop :=
  ∃ v H', s'.os = s.os ∧ AllBare s'.gens ∧ Un (frs outer) [] H H' s.heap s'.heap ∧ HOk P w H' s'.heap ∧ RelV v u ∧ Q v H'
noncomputable def CR (CX : CXT) (outer : List Env) (P : Program) (w : World) (H : Hp) (s : Shared) (Q : VK) (E : XK) (r : Result) (s' : Shared) : Prop :=
  match r with
  | .ok (.ret u) => CE outer P w H s Q u s'
  | .ok _ => False
  | .error e => CX outer H s E e s'
structure FnOk (P : Program) (w : World) (K : PySem.W.Frag) (mg : Str → Option Value) (base : Heap) (CX : CXT) (k : Nat) (f : Addr) (fd : FuncData) (ps : List Str) (sp : Sp) : Prop where
  len : ∀ vs H Q E, sp vs H Q E → vs.length = ps.length
  run : ∀ (A : Around) (outer : List Env) (s : Shared) (H : Hp) (args : Args) (us : List Value) (vs : List V) (Q : VK) (E : XK), Room k A → Env0 P w K mg base A outer s H → BindsTo s fd args (ps.zip us) → Vals vs us → sp vs H Q E →
    codeAny (model P w) A (.call (.ref f) args) (CR CX outer P w H s Q E) s
theorem Env0.make {P : Program} {w : World} {K : PySem.W.Frag} {mg : Str → Option Value} {base : Heap} {A : Around} {outer : List Env} {s : Shared} {H : Hp} (e : Env0 P w K mg base A outer s H) (C : Addr) (us : List Value) (kw : List (Str × Value)) :
    Env0 P w K mg base (A.under (.builtin "type.__call__" ⟨.ref C :: us, kw⟩)) outer s H := ⟨by first | exact e.frames | (simpa [Around.under, Code.envs, Code.isFrame, pushEnvs] using e.frames), e.mod, e.bs, e.bsz, e.funs, e.frf, e.hok, e.bare⟩
section
variable {X : Cx} {pins : List (Addr × Obj)} {σ : St} {H : Hp} {s s' : Shared}
theorem Inv.env0 (I : Inv X pins σ H s) : Env0 X.prog X.w X.K X.mg X.base X.A X.stack s H :=
  ⟨I.ok.frames, I.ok.mod, I.bs, Nat.le_trans I.ok.bsz I.sz, I.stack, I.stkFree, I.hok, I.bare⟩
theorem Inv.after {Q : VK} {u : Value} (I : Inv X pins σ H s) (h : CE X.stack X.prog X.w H s Q u s') : EP X pins σ Q u s' := by
  obtain ⟨v, H', os, bare, un, hok, r, q⟩ := h
  obtain ⟨hh, g, d, t, os'⟩ := s'
  obtain rfl : os' = s.os := os
  exact ⟨v, H', I.call (h' := hh) (g' := g) (d' := d) (t' := t) (ch := []) un hok bare (fun b z => absurd z (by simp)), r, q⟩
end

noncomputable def tCall (sp : Sp) (dvs : List V) (E : XK) (t : TA) : TE := fun σ H Q => t σ H fun vs H1 => sp (vs ++ dvs) H1 Q E
noncomputable def tMake (C : Addr) (sp : Sp) (dvs : List V) (E : XK) (t : TA) : TE := fun σ H Q => t σ H fun vs H1 => ∀ x dx, H1 x = none → H1 dx = none → dx ≠ x →
  sp (.ref x :: (vs ++ dvs)) (upd (upd H1 dx (.own x)) x (.ins C dx [])) (fun v H2 => v = .non ∧ Q (.ref x) H2) E

noncomputable def Binds (K : PySem.W.Frag) (fd : FuncData) (ps : List Str) (ds : List Value) : Prop :=
  ∀ (s : Shared) (us : List Value), K.In s.heap → (us ++ ds).length = ps.length → BindsTo s fd ⟨us, []⟩ (ps.zip (us ++ ds))
theorem Binds.all {K : PySem.W.Frag} {fd : FuncData} {ps : List Str} (h : ∀ us : List Value, us.length = ps.length → bindArgs fd ⟨us, []⟩ = pure (ps.zip us)) : Binds K fd ps [] := fun s us _ hl => by
  rw [List.append_nil] at hl ⊢
  exact .of_eq (h us hl)

noncomputable def Passes (CX : CXT) (X : Cx) (E : XK) : Prop := ∀ (pins : List (Addr × Obj)) (σ : St) (H : Hp) (s : Shared) (e : Value) (s' : Shared), Inv X pins σ H s → CX X.stack H s E e s' → X.xe e s'

section
variable {X : Cx} {CX : CXT} {k : Nat} {f C : Addr} {fd : FuncData} {ps : List Str} {sp : Sp} {dvs : List V} {ds : List Value} {E : XK} {x m : Str} {p pos apos : Pos} {e o : Expr} {es : List Expr} {ta : TE} {t : TA}

theorem run_fn {pins : List (Addr × Obj)} {σ : St} {H : Hp} {s : Shared} {Q : VK} {us : List Value} {vs : List V} (F : FnOk X.prog X.w X.K X.mg X.base CX k f fd ps sp) (hr : Room k X.A) (hb : Binds X.K fd ps ds) (hd : Vals dvs ds) (hx : Passes CX X E)
    (I : Inv X pins σ H s) (r : Vals vs us) (h : sp (vs ++ dvs) H Q E) : wpAny (model X.prog X.w) X.A (call (.ref f) us) (EP X pins σ Q) X.xe s := by
  have r2 : Vals (vs ++ dvs) (us ++ ds) := r.append hd
  have hl : (us ++ ds).length = ps.length := by rw [← r2.length]; exact F.len _ _ _ _ h
  refine wpAny_call (codeAny_mono (F.run X.A X.stack s H ⟨us, []⟩ (us ++ ds) (vs ++ dvs) Q E hr I.env0 (hb s us I.kIn hl) r2 h) fun r s' hq => ?_)
  cases r with
  | error e => exact hx pins σ H s e s' I hq
  | ok fl =>
    cases fl with
    | ret u => exact I.after hq
    | next => exact False.elim hq
    | brk => exact False.elim hq
    | cont => exact False.elim hq

theorem pe_call (F : FnOk X.prog X.w X.K X.mg X.base CX k f fd ps sp) (hr : Room k X.A) (hg : Gl X x) (hm : X.mg x = some (.ref f)) (hk : PySem.W.keepIn X.K (.ref f) = true) (hb : Binds X.K fd ps ds) (hd : Vals dvs ds) (hx : Passes CX X E)
    (ha : PA X (e :: es) t) (hdb : (x == ("__debug__" : Str)) = false := by decide) (he : starEach (e :: es) X.env = (false, eval e X.env) :: starEach es X.env := by rfl) (hpl : (backTo pos (starEach es X.env)).any (·.1) = false := by rfl) :
    PE X (.Call (.Name x p) (e :: es) [] pos) (tCall sp dvs E t) := by
  intro pins s σ H Q I h
  refine wpAny_Call_Name_kw (ld_glob I hg hm ?_ hdb)
  refine PySem.W.callWith_K (h₀ := X.base) I.ok.mod.kin hk (thn (ha pos pins s σ H _ I h) fun us s1 ⟨vs, H1, I1, r, q⟩ => ⟨I1.kIn, ?_⟩) he hpl
  exact run_fn F hr hb hd hx I1 r q
structure Mk (K : PySem.W.Frag) (C f : Addr) : Prop where
  makes : PySem.W.makesIn K C = true
  init : PySem.W.findIn K (.ref C) "__init__" = some (some (.ref f))
  fn : PySem.W.isFn K (.ref f) = true
  kp : PySem.W.keepIn K (.ref C) = true

theorem run_make {pins : List (Addr × Obj)} {σ : St} {H : Hp} {s : Shared} {Q : VK} {us : List Value} {vs : List V} (M : Mk X.K C f) (F : FnOk X.prog X.w X.K X.mg X.base CX k f fd ps sp) (hr : Room (k + 1) X.A) (hb : Binds X.K fd ps ds) (hd : Vals dvs ds)
    (hx : Passes CX X E) (I : Inv X pins σ H s) (r : Vals vs us)
    (h : ∀ x dx, H x = none → H dx = none → dx ≠ x → sp (.ref x :: (vs ++ dvs)) (upd (upd H dx (.own x)) x (.ins C dx [])) (fun v H2 => v = .non ∧ Q (.ref x) H2) E) :
    wpAny (model X.prog X.w) X.A (call (.ref C) us) (EP X pins σ Q) X.xe s := by
  have hq := h (s.heap.objs.size + 1) s.heap.objs.size (I.hok.fresh (Nat.le_succ _)) (I.hok.fresh (Nat.le_refl _)) (Nat.ne_of_lt (Nat.lt_succ_self _))
  have I2 := Inv.made (C := C) I
  have r2 : Vals (V.ref (s.heap.objs.size + 1) :: (vs ++ dvs)) (Value.ref (s.heap.objs.size + 1) :: (us ++ ds)) := .cons rfl (r.append hd)
  have hl : (Value.ref (s.heap.objs.size + 1) :: us ++ ds).length = ps.length := by
    have e := r2.length
    rw [F.len _ _ _ _ hq] at e
    exact e.symm
  refine wpAny_call (make_map (f := f) I.kIn M.makes M.init (beq_iff_eq.mp M.fn) (codeAny_mono (F.run _ X.stack _ _ ⟨Value.ref (s.heap.objs.size + 1) :: us, []⟩ (Value.ref (s.heap.objs.size + 1) :: (us ++ ds)) _ _ E (hr.make C us [])
    (I2.env0.make C us []) (hb _ (Value.ref (s.heap.objs.size + 1) :: us) I2.kIn hl) r2 hq) fun r s' hq' => ?_))
  cases r with
  | error e => exact hx pins σ _ _ e s' I2 hq'
  | ok fl =>
    cases fl with
    | ret u =>
      obtain ⟨v, H', I3, rv, ev, q3⟩ := I2.after hq'
      subst ev
      exact ⟨rv, ⟨V.ref (s.heap.objs.size + 1), H', I3, rfl, q3⟩⟩
    | next => exact False.elim hq'
    | brk => exact False.elim hq'
    | cont => exact False.elim hq'
theorem pe_make (M : Mk X.K C f) (F : FnOk X.prog X.w X.K X.mg X.base CX k f fd ps sp) (hr : Room (k + 1) X.A) (hg : Gl X x) (hm : X.mg x = some (.ref C)) (hb : Binds X.K fd ps ds) (hd : Vals dvs ds) (hx : Passes CX X E)
    (ha : PA X (e :: es) t) (hdb : (x == ("__debug__" : Str)) = false := by decide) (he : starEach (e :: es) X.env = (false, eval e X.env) :: starEach es X.env := by rfl) (hpl : (backTo pos (starEach es X.env)).any (·.1) = false := by rfl) :
    PE X (.Call (.Name x p) (e :: es) [] pos) (tMake C sp dvs E t) := by
  intro pins s σ H Q I h
  refine wpAny_Call_Name_kw (ld_glob I hg hm ?_ hdb)
  refine PySem.W.callWith_K (h₀ := X.base) I.ok.mod.kin M.kp (thn (ha pos pins s σ H _ I h) fun us s1 ⟨vs, H1, I1, r, q⟩ => ⟨I1.kIn, ?_⟩) he hpl
  exact run_make M F hr hb hd hx I1 r q
end

section
variable {X : Cx} {CX : CXT} {k : Nat} {f C : Addr} {fd : FuncData} {ps ks : List Str} {sp : Sp} {E : XK} {x m : Str} {p pos apos kpos : Pos} {e o : Expr} {es : List Expr} {kws : List Keyword} {te ta : TE} {t tk : TA} {nm : Option Str}
variable {g : List Value → List Value → List Value} {gV : List V → List V → List V}
end

structure FnScope (N P : List Str) (sc : Scope) : Prop where
  kind : sc.kind = .function
  co : sc.isCoroutine = false
  gen : sc.isGenerator = false
  nd : N.Nodup
  pre : N.take P.length = P
  par : ∀ x ∈ P, sc.names.lookup x = some .local ∨ sc.names.lookup x = some .cell
  nofree : ∀ y ∈ sc.names, y.2 ≠ .free

theorem bindL_out {kindOf : Str → Option NameKind} {x : Str} : ∀ {binds : List (Str × Value)} {m : Str → Option Value}, (∀ v, (x, v) ∉ binds) → bindL kindOf binds m x = m x
  | [], _, _ => rfl
  | (n, v) :: r, m, h => by
    unfold bindL
    rw [bindL_out fun w hw => h w (List.mem_cons_of_mem _ hw)]
    split
    · have : x ≠ n := by rintro rfl; exact h v List.mem_cons_self
      simp [this]
    · rfl
theorem bindC_out {kindOf : Str → Option NameKind} {x : Str} : ∀ {binds : List (Str × Value)} {m : Str → Option Value}, (∀ v, (x, v) ∉ binds) → bindC kindOf binds m x = m x
  | [], _, _ => rfl
  | (n, v) :: r, m, h => by
    unfold bindC
    rw [bindC_out fun w hw => h w (List.mem_cons_of_mem _ hw)]
    split
    · rfl
    · have : x ≠ n := by rintro rfl; exact h v List.mem_cons_self
      simp [this]
theorem bindL_get {kindOf : Str → Option NameKind} {x : Str} {v : Value} : ∀ {P : List Str} {vs : List Value} {i : Nat} {m : Str → Option Value}, P.Nodup → P[i]? = some x → vs[i]? = some v → kindOf x = some .local →
    bindL kindOf (P.zip vs) m x = some v
  | [], _, _, _, _, h, _, _ => by simp at h
  | _ :: _, [], _, _, _, _, h, _ => by simp at h
  | p :: P, w :: vs, 0, m, nd, h1, h2, hk => by
    simp at h1 h2; subst h1; subst h2
    show bindL kindOf ((p, w) :: P.zip vs) m p = _
    unfold bindL
    rw [bindL_out fun v hv => (List.nodup_cons.mp nd).1 (List.of_mem_zip hv).1, if_pos hk]
    simp
  | p :: P, w :: vs, i + 1, m, nd, h1, h2, hk => by
    show bindL kindOf ((p, w) :: P.zip vs) m x = _
    unfold bindL
    exact bindL_get (i := i) (List.nodup_cons.mp nd).2 (by simpa using h1) (by simpa using h2) hk
theorem bindC_get {kindOf : Str → Option NameKind} {x : Str} {v : Value} : ∀ {P : List Str} {vs : List Value} {i : Nat} {m : Str → Option Value}, P.Nodup → P[i]? = some x → vs[i]? = some v → kindOf x ≠ some .local →
    bindC kindOf (P.zip vs) m x = some v
  | [], _, _, _, _, h, _, _ => by simp at h
  | _ :: _, [], _, _, _, _, h, _ => by simp at h
  | p :: P, w :: vs, 0, m, nd, h1, h2, hk => by
    simp at h1 h2; subst h1; subst h2
    show bindC kindOf ((p, w) :: P.zip vs) m p = _
    unfold bindC
    rw [bindC_out fun v hv => (List.nodup_cons.mp nd).1 (List.of_mem_zip hv).1, if_neg hk]
    simp
  | p :: P, w :: vs, i + 1, m, nd, h1, h2, hk => by
    show bindC kindOf ((p, w) :: P.zip vs) m x = _
    unfold bindC
    exact bindC_get (i := i) (List.nodup_cons.mp nd).2 (by simpa using h1) (by simpa using h2) hk

noncomputable def start (N : List Str) (vs : List V) : St := vs.map some ++ List.replicate (N.length - vs.length) none

noncomputable def cxOf (CX : CXT) (P : Program) (w : World) (K : PySem.W.Frag) (mg : Str → Option Value) (base : Heap) (N : List Str) (qual : Str) (scope : Scope) (f : Addr) (cd : Value) (A : Around) (outer : List Env) (s : Shared) (H : Hp) (E : XK) : Cx where
  prog := P
  w := w
  K := K
  mg := mg
  base := base
  A := A.deeper (envOfC qual scope s.heap.objs.size f cd)
  N := N
  s₀ := s
  H₀ := H
  env := envOfC qual scope s.heap.objs.size f cd
  outer := outer
  stack := envOfC qual scope s.heap.objs.size f cd :: outer
  ex := []
  calm := true
  fn := fun _ => true
  pn := []
  xe := fun e s' => wpAny (model P w) (A.deeper (envOfC qual scope s.heap.objs.size f cd)) («leaving» (envOfC qual scope s.heap.objs.size f cd) e) (fun _ s'' => CX outer H s E e s'') (fun e' s'' => CX outer H s E e' s'') s'

theorem cell_has {sc : Scope} {n : Nat} {x : Str} (h : sc.names.lookup x = some .cell) : ∃ c, (cellsFrom n sc.names []).lookup x = some c := by
  have q := PySem.W.cellsFrom_some sc.names n [] (.inl h)
  exact Option.isSome_iff_exists.mp q

theorem inv_start {CX : CXT} {P : Program} {w : World} {K : PySem.W.Frag} {mg : Str → Option Value} {base : Heap} {N ps : List Str} {qual : Str} {scope : Scope} {f : Addr} {cd : Value} {A : Around} {outer : List Env} {s s1 : Shared} {H : Hp} {E : XK} {us : List Value} {vs : List V}
    (S : FnScope N ps scope) (hd : A.handled = none) (e0 : Env0 P w K mg base A outer s H) (hl : vs.length = ps.length) (r : Vals vs us)
    (x : InCallC s s.heap.objs.size (bindL (envOfC qual scope s.heap.objs.size f cd).kindOf (ps.zip us) fun _ => none) (cellsFrom (s.heap.objs.size + 1) scope.names []) (bindC (envOfC qual scope s.heap.objs.size f cd).kindOf (ps.zip us) fun _ => none) s1) :
    Inv (cxOf CX P w K mg base N qual scope f cd A outer s H E) [] (start N vs) H s1 := by
  have hpl : ps.length ≤ N.length := by have := congrArg List.length S.pre; rw [List.length_take] at this; omega
  obtain ⟨h1, tk, rfl, hk⟩ := x.done
  have noA : ∀ b : Addr, b ∉ (cxOf CX P w K mg base N qual scope f cd A outer s H E).ex := fun b z => absurd (show b ∈ ([] : List Addr) from z) (by simp)
  refine ⟨⟨e0.mod, S.kind, rfl, rfl, Nat.le_refl _, fun y z c h1 h2 => ?_, fun y hy => ?_, fun y c _ h => ?_, fun _ => hd, Around.frames_deeper e0.frames, .inr ⟨rfl, rfl⟩, fun b z => absurd z (noA b), e0.bs, e0.bsz, fun b _ _ => noA b, fun b z => absurd z (noA b), e0.funs, e0.frf⟩,
    rfl, e0.bare, Un.kept hk, ⟨_, x.toInCall.ns, fun i y v h1 h2 h3 => ?_⟩, fun y c h => ⟨_, x.cell y c h⟩, e0.hok.fresh (Nat.le_refl _), fun y c h => ?_, fun p hp => absurd (show p ∈ ([] : List (Addr × Obj)) from hp) (by simp), e0.hok.kept hk, ?_⟩
  · exact name_of_addr x.apart (PySem.mem_of_lookup h1) (PySem.mem_of_lookup h2)
  · have hy : scope.names.lookup y = some .cell ∨ scope.names.lookup y = some .free := hy
    rcases hy with hy | hy
    · exact cell_has hy
    · exact absurd rfl (S.nofree _ (PySem.mem_of_lookup hy))
  · exact Nat.le_of_lt (x.above y c (PySem.mem_of_lookup h))
  · have hi : i < vs.length := by
      unfold start at h2
      by_cases hi : i < vs.length
      · exact hi
      · rw [List.getElem?_append_right (by simpa using hi)] at h2
        rw [List.getElem?_replicate] at h2
        split at h2 <;> cases h2
    have ha : vs[i]? = some v := by
      unfold start at h2
      rw [List.getElem?_append_left (by simpa using hi), List.getElem?_map] at h2
      cases e : vs[i]? with
      | none => rw [e] at h2; cases h2
      | some a => rw [e] at h2; cases h2; rfl
    obtain ⟨u, hu, rv⟩ := r.get ha
    have hp : ps[i]? = some y := by
      rw [← S.pre, List.getElem?_take_of_lt (by omega)]; exact h1
    have ndP : ps.Nodup := by rw [← S.pre]; exact S.nd.sublist (List.take_sublist _ _)
    refine ⟨u, rv, ?_⟩
    rcases S.par y (List.mem_of_getElem? hp) with k | k
    · exact .inl ⟨k, bindL_get ndP hp hu k⟩
    · obtain ⟨c, e⟩ := cell_has (n := s.heap.objs.size + 1) k
      refine .inr ⟨.inl k, c, e, ?_⟩
      have q := x.cell y c e
      rw [bindC_get ndP hp hu (by show scope.names.lookup y ≠ _; rw [k]; decide)] at q
      exact q
  · exact e0.hok.fresh (Nat.le_of_lt (x.above y c (PySem.mem_of_lookup h)))
  · unfold start
    show _ = N.length
    rw [List.length_append, List.length_map, List.length_replicate]
    omega

theorem fn_of {CX : CXT} {P : Program} {w : World} {K : PySem.W.Frag} {mg : Str → Option Value} {base : Heap} {k : Nat} {f : Addr} {name qual : Str} {params : Arguments} {body : List Stmt} {scope : Scope} {dV kV doc pm cdv ct oc : Value} {an od : Option Addr}
    {osl : Array (Option Value)} {N ps : List Str} {sp : Sp} (lk : K.lookup f = some ⟨oc, od, .func (PySem.W.fnOf name qual params body scope dV kV doc pm an cdv ct), osl⟩) (hcd : PySem.W.codeIn K cdv qual = true) (S : FnScope N ps scope)
    (len : ∀ vs H Q E, sp vs H Q E → vs.length = ps.length)
    (hbody : ∀ (A : Around) (outer : List Env) (s : Shared) (H : Hp) (vs : List V) (Q : VK) (E : XK), Room k (A.deeper (envOfC qual scope s.heap.objs.size f cdv)) → sp vs H Q E →
      ∃ t, PSs (cxOf CX P w K mg base N qual scope f cdv A outer s H E) body t ∧ t { nx := fun _ H' => Q .non H', rt := Q } (start N vs) H) :
    FnOk P w K mg base CX (k + 1) f (PySem.W.fnOf name qual params body scope dV kV doc pm an cdv ct) ps sp := by
  refine ⟨len, fun A outer s H args us vs Q E hr e0 hb r hsp => ?_⟩
  have hl := len _ _ _ _ hsp
  have KX : K.In s.heap := e0.mod.kin.keeps fun b o e => (e0.bs b o e).1
  have lim : s.heap.NoLimit := e0.mod.nolimit.keeps fun b o e => (e0.bs b o e).1
  have hkind : ∀ y ∈ ps.zip us, scope.names.lookup y.1 = some .local ∨ (scope.names.lookup y.1 = some .cell ∧ ((cellsFrom (s.heap.objs.size + 1) scope.names []).lookup y.1).isSome = true) := fun ⟨n, v⟩ hy => by
    rcases S.par n (List.of_mem_zip hy).1 with q | q
    · exact .inl q
    · exact .inr ⟨q, PySem.W.cellsFrom_some _ _ _ (.inl q)⟩
  refine codeAny_call_function hr.depth (KX _ _ lk) rfl S.co S.gen rfl (PySem.W.codeRec_of KX hcd) (hb _ _ _ _ ?_)
  refine wpAny_newFunctionEnv_cells S.kind hkind fun env he s1 x => ?_
  subst he
  refine ⟨lim.keeps x.toInCall.keep, codeAny_func ?_⟩
  obtain ⟨t, ht, hq⟩ := hbody A outer s H vs Q E (hr.deeper _) hsp
  have I : Inv (cxOf CX P w K mg base N qual scope f cdv A outer s H E) [] (start N vs) H s1 := inv_start S hr.hd e0 hl r x
  refine wpAny_mono (ht [] s1 (start N vs) H _ I hq) (fun fl s' hs => ?_) fun e s' hs => hs
  have fin : ∀ {σ' : St} {H' : Hp} {v : V} {u : Value}, Inv (cxOf CX P w K mg base N qual scope f cdv A outer s H E) [] σ' H' s' → RelV v u → Q v H' → CE outer P w H s Q u s' :=
    fun {σ' H' v u} J rv q => ⟨v, H', J.os, J.bare, J.base, J.hok, rv, q⟩
  cases fl with
  | ret u =>
    obtain ⟨v, σ', H', J, rv, q⟩ := hs
    exact fin J rv q
  | next =>
    obtain ⟨σ', H', J, q⟩ := hs
    exact fin (v := V.non) (u := Value.none) J rfl q
  | brk =>
    obtain ⟨_, _, _, q⟩ := hs
    exact False.elim q
  | cont =>
    obtain ⟨_, _, _, q⟩ := hs
    exact False.elim q
end L2

namespace L2
open PySem PySem.Spec PyProof.Rows
section
variable {X : Cx} {x : Str} {p pos : Pos} {e : Expr} {es : List Expr} {t : TA} {id T : String} {r : List V → Hp → VK → Prop}

noncomputable def tCB (r : List V → Hp → VK → Prop) (t : TA) : TE := fun σ H Q => t σ H fun vs H1 => r vs H1 Q
theorem pe_callB (hc : CallR X (.builtin id) r) (hg : Gl X x) (hm : X.mg x = none) (hv : bootBuiltins x = some (.builtin id)) (ha : PA X (e :: es) t) (hn : x ≠ "__name__" := by decide) (hdb : (x == ("__debug__" : Str)) = false := by decide)
    (he : starEach (e :: es) X.env = (false, eval e X.env) :: starEach es X.env := by rfl) (hpl : (backTo pos (starEach es X.env)).any (·.1) = false := by rfl) : PE X (.Call (.Name x p) (e :: es) [] pos) (tCB r t) := by
  intro pins s σ H Q I h
  refine wpAny_Call_Name_kw (ld_blt I hg hm hv ?_ hn hdb)
  exact PyProof.Rows.callWith_builtin1 (thn (ha pos pins s σ H _ I h) fun us s1 ⟨vs, H1, I1, r1, q1⟩ => hc pins s1 σ H1 vs us Q I1 r1 q1) he hpl
theorem pe_callTy (hc : CallR X (.type T) r) (hg : Gl X x) (hm : X.mg x = none) (hv : bootBuiltins x = some (.type T)) (ha : PA X (e :: es) t) (hn : x ≠ "__name__" := by decide) (hdb : (x == ("__debug__" : Str)) = false := by decide)
    (he : starEach (e :: es) X.env = (false, eval e X.env) :: starEach es X.env := by rfl) (hpl : (backTo pos (starEach es X.env)).any (·.1) = false := by rfl) : PE X (.Call (.Name x p) (e :: es) [] pos) (tCB r t) := by
  intro pins s σ H Q I h
  refine wpAny_Call_Name_kw (ld_blt I hg hm hv ?_ hn hdb)
  exact PyProof.Rows.callWith_type1 (thn (ha pos pins s σ H _ I h) fun us s1 ⟨vs, H1, I1, r1, q1⟩ => hc pins s1 σ H1 vs us Q I1 r1 q1) he hpl
end
end L2

namespace HT
open PySem PyProof.Rows

section
open PySem.SeqAt
open PySem.AutoSeq1 (wpAny_loadPart')
open PySem.MeetsSeq PySem.MeetsSeq2 PySem.MeetsSeq3

end

section
variable {prog : Program} {w : World} {A : Around} {E : Value → Shared → Prop} {s : Shared}

noncomputable def sIx (n d : Nat) : Option Int → Nat
  | none => d
  | some v => if v < 0 then (v + (n : Int)).toNat else min v.toNat n
end
end HT

namespace L2
open PySem PySem.Spec PyProof.Rows

noncomputable abbrev TO := St → Hp → (Option Int → Hp → Prop) → Prop
noncomputable def PO (X : Cx) (e : Option Expr) (t : TO) : Prop :=
  ∀ (pins : List (Addr × Obj)) (s : Shared) (σ : St) (H : Hp) (Q : Option Int → Hp → Prop), Inv X pins σ H s → t σ H Q →
    wpAny (model X.prog X.w) X.A (evalPart e X.env) (fun u s' => ∃ o H', Inv X pins σ H' s' ∧ IsPart u o ∧ Q o H') X.xe s
noncomputable def tPart (t : TE) : TO := fun σ H Q => t σ H fun x H1 => ∃ i, x = .int i ∧ Q (some i) H1

section
variable {X : Cx} {e : Expr} {te : TE} {lo hi : Option Expr} {tl th : TO} {pos p2 : Pos}

theorem po_some (h : PE X e te) : PO X (some e) (tPart te) := by
  intro pins s σ H Q I hw
  rw [evalPart_some]
  refine thn (h pins s σ H _ I hw) fun u s1 ⟨x, H1, I1, r1, q1⟩ => ?_
  obtain ⟨i, rfl, q⟩ := q1
  obtain ⟨t, rfl⟩ := r1
  exact ⟨some i, H1, I1, .int i t, q⟩

noncomputable def SlR (X : Cx) (r : V → Option Int → Option Int → Hp → VK → Prop) : Prop :=
  ∀ (pins : List (Addr × Obj)) (s : Shared) (σ : St) (H : Hp) (x : V) (v vl vu : Value) (lo hi : Option Int) (sl : Addr) (Q : VK), Inv X pins σ H s → RelV x v → s.heap.IsSliceOf sl vl vu .none → IsPart vl lo → IsPart vu hi → r x lo hi H Q →
    ∃ T id, typeLookup (.type T) "__getitem__" = pure (some (.builtin id)) ∧ s.TypeIs v T ∧ wpAny (model X.prog X.w) X.A (getItem v (.ref sl)) (EP X pins σ Q) X.xe s
noncomputable def tSl (r : V → Option Int → Option Int → Hp → VK → Prop) (te : TE) (tl th : TO) : TE := fun σ H Q => te σ H fun x H1 => tl σ H1 fun l H2 => th σ H2 fun u H3 => r x l u H3 Q
theorem pe_slice {r : V → Option Int → Option Int → Hp → VK → Prop} (hr : SlR X r) (he : PE X e te) (hl : PO X lo tl) (hu : PO X hi th) : PE X (.Subscript e (.Slice lo hi none p2) pos) (tSl r te tl th) := by
  intro pins s σ H Q I h
  refine Subscript_ (thn (he pins s σ H _ I h) fun v s1 ⟨x, H1, I1, r1, q1⟩ => ?_)
  refine wpAny_Slice (thn (hl pins s1 σ H1 _ I1 q1) fun vl s2 ⟨l, H2, I2, pl, q2⟩ => thn (hu pins s2 σ H2 _ I2 q2) fun vu s3 ⟨u, H3, I3, pu, q3⟩ => ?_)
  rw [evalPart_none]
  refine wpAny_pure ?_
  have I4 : Inv X pins σ H3 { s3 with heap := s3.heap.push { cls := .type "slice", data := .fields #[vl, vu, .none] } } := I3.kept (t' := s3.toks) fun b ob q => Heap.get?_push_of_some _ q
  obtain ⟨T, id, hT, ht, hg⟩ := hr pins { s3 with heap := s3.heap.push { cls := .type "slice", data := .fields #[vl, vu, .none] } } σ H3 x v vl vu l u s3.heap.objs.size Q I4 r1 (Heap.IsSliceOf.new ..) pl pu q3
  show wpAny (model X.prog X.w) X.A (subscriptTail e (.Slice lo hi none p2) v (.ref s3.heap.objs.size)) (EP X pins σ Q) X.xe { s3 with heap := s3.heap.push { cls := .type "slice", data := .fields #[vl, vu, .none] } }
  exact tail_any (ops := [.ref s3.heap.objs.size, v]) ht hT hg (by with_unfolding_all rfl)

noncomputable def cutV (xs : List V) (lo hi : Option Int) : List V := (xs.drop (HT.sIx xs.length 0 lo)).take (HT.sIx xs.length xs.length hi - HT.sIx xs.length 0 lo)
theorem cutV_length (xs : List V) (lo hi : Option Int) : (cutV xs lo hi).length ≤ xs.length := by
  unfold cutV
  rw [List.length_take, List.length_drop]
  omega
end
end L2

namespace L2
open PySem PySem.Spec PyProof.Rows

noncomputable def ixN (n : Nat) (i : Int) : Option Nat := if 0 ≤ i then (if i < n then some i.toNat else none) else if -(n : Int) ≤ i then some (i + n).toNat else none
noncomputable def atI {α : Type} (xs : List α) (i : Int) : Option α := (ixN xs.length i).bind fun j => xs[j]?
theorem ixN_seq {n : Nat} {i : Int} {j : Nat} (h : ixN n i = some j) : seqIndex? i n = some j ∧ j < n ∧ -(n : Int) ≤ i ∧ i < n := by
  unfold ixN at h
  by_cases h0 : 0 ≤ i
  · rw [if_pos h0] at h
    by_cases h1 : i < n
    · rw [if_pos h1] at h
      have e : i.toNat = j := Option.some.inj h
      exact ⟨by rw [seqIndex_of h0 h1, e], by omega, by omega, h1⟩
    · rw [if_neg h1] at h; cases h
  · rw [if_neg h0] at h
    by_cases h1 : -(n : Int) ≤ i
    · rw [if_pos h1] at h
      have e : (i + n).toNat = j := Option.some.inj h
      exact ⟨by rw [seqIndex_neg (by omega) h1, e], by omega, h1, by omega⟩
    · rw [if_neg h1] at h; cases h
theorem atI_get {α : Type} {xs : List α} {i : Int} {v : α} (h : atI xs i = some v) : ∃ j, seqIndex? i xs.length = some j ∧ xs[j]? = some v ∧ j < xs.length ∧ -(xs.length : Int) ≤ i ∧ i < xs.length := by
  unfold atI at h
  cases e : ixN xs.length i with
  | none => rw [e] at h; cases h
  | some j =>
    rw [e] at h
    obtain ⟨h1, h2, h3, h4⟩ := ixN_seq e
    exact ⟨j, h1, h, h2, h3, h4⟩
theorem atI_nat {α : Type} {xs : List α} {j : Nat} {v : α} (h : xs[j]? = some v) : atI xs (j : Int) = some v := by
  have hj : j < xs.length := (List.getElem?_eq_some_iff.mp h).1
  have e : ixN xs.length (j : Int) = some j := by
    unfold ixN
    rw [if_pos (by omega), if_pos (by omega)]; simp
  unfold atI; rw [e]; exact h
noncomputable def PlainIx (b : Expr) : Prop := ∀ o i, subscripted b false o i = operate [o, i] (getItem o i)
noncomputable def IxR (X : Cx) (r : R2) : Prop :=
  ∀ (value slice : Expr) (pins : List (Addr × Obj)) (s : Shared) (σ : St) (H : Hp) (x y : V) (v u : Value) (Q : VK), Inv X pins σ H s → RelV x v → RelV y u → r x y H Q →
    subscripted slice false v u = operate [v, u] (getItem v u) → wpAny (model X.prog X.w) X.A (subscriptTail value slice v u) (EP X pins σ Q) X.xe s
noncomputable def MtR (X : Cx) (id : String) (r : V → List V → Hp → VK → Prop) : Prop :=
  ∀ (pins : List (Addr × Obj)) (s : Shared) (σ : St) (H : Hp) (x : V) (xs : List V) (v : Value) (us : List Value) (Q : VK), Inv X pins σ H s → RelV x v → Vals xs us → r x xs H Q →
    wpAny (model X.prog X.w) X.A (call (.builtin id) (v :: us)) (EP X pins σ Q) X.xe s
section
variable {X : Cx} {a b : Expr} {ta tb : TE} {pos : Pos}
theorem pe_ix {r : R2} (hr : IxR X r) (ha : PE X a ta) (hb : PE X b tb) (hs : PlainIx b) : PE X (.Subscript a b pos) (tOp r ta tb) := by
  intro pins s σ H Q I h
  exact Subscript_ (binT ha hb I h fun v u s2 x y H2 I2 rx ry q => hr a b pins s2 σ H2 x y v u Q I2 rx ry q (hs _ _))

noncomputable def rIxL (K : PySem.W.Frag) : R2 := fun x y H Q => ∃ p xs i v, x = .ref p ∧ y = .int i ∧ SqL K H p xs ∧ atI xs i = some v ∧ Q v H
noncomputable def rIxT (K : PySem.W.Frag) : R2 := fun x y H Q => ∃ p xs i v, x = .ref p ∧ y = .int i ∧ SqT K H p xs ∧ atI xs i = some v ∧ Q v H
theorem ix_list : IxR X (rIxL X.K) := by
  intro value slice pins s σ H x y v u Q I rx ry h hs
  obtain ⟨p, xs, i, z, rfl, rfl, hq, he, q⟩ := h
  cases rx
  obtain ⟨t, rfl⟩ := ry
  obtain ⟨its, r, pl, hz⟩ := I.list hq
  obtain ⟨j, h1, h2, h3, h4, h5⟩ := atI_get he
  obtain ⟨w, ew, rw'⟩ := r.get h2
  have hl := r.length
  have hn := line63
  have fin : EP X pins σ Q w s := ⟨z, H, I, rw', q⟩
  by_cases h0 : 0 ≤ i
  · have hj : i.toNat = j := by
      rw [seqIndex_of h0 h5] at h1
      exact Option.some.inj h1
    exact item_listR pl.isList h0 (by omega) (by rw [hj]; simpa using ew) fin hs
  · have hj : (i + (its.toArray.size : Int)).toNat = j := by
      rw [seqIndex_neg (by omega) h4] at h1
      rw [List.size_toArray, ← hl]
      exact Option.some.inj h1
    exact subscriptTail_builtinR (x := w) pl.isList.typeIs slot_list_getitem.lookup
      (wpAny_getItem_list_neg (Q := fun r s' => r = w ∧ EP X pins σ Q r s') pl.isList (by omega) (by rw [List.size_toArray] <;> omega) (by omega) (by rw [hj]; simpa using ew) ⟨rfl, fin⟩) hs
theorem ix_tup : IxR X (rIxT X.K) := by
  intro value slice pins s σ H x y v u Q I rx ry h hs
  obtain ⟨p, xs, i, z, rfl, rfl, hq, he, q⟩ := h
  cases rx
  obtain ⟨t, rfl⟩ := ry
  obtain ⟨its, r, pl, hz⟩ := I.tuple hq
  obtain ⟨j, h1, h2, h3, h4, h5⟩ := atI_get he
  obtain ⟨w, ew, rw'⟩ := r.get h2
  have hl := r.length
  have hn := line63
  have fin : EP X pins σ Q w s := ⟨z, H, I, rw', q⟩
  exact subscriptTail_builtinR (x := w) pl.typeIs slot_tuple_getitem.lookup
    (getItem_tuple (j := j) (Q := fun r s' => r = w ∧ EP X pins σ Q r s') pl (by omega) (by omega) (by rw [List.size_toArray, ← hl]; exact h1) (by simpa using ew) ⟨rfl, fin⟩) hs
theorem slice_bounds (lo hi : Option Int) (n : Nat) : (sliceBounds lo hi none n).1 = ((HT.sIx n 0 lo : Nat) : Int) ∧ (sliceBounds lo hi none n).2.1 = ((HT.sIx n n hi : Nat) : Int) ∧ (sliceBounds lo hi none n).2.2 = 1 := by
  refine ⟨?_, ?_, rfl⟩
  · cases lo with
    | none => simp [sliceBounds, HT.sIx]
    | some i =>
      simp only [sliceBounds, HT.sIx, Option.getD_none, show (1 : Int) > 0 by decide, if_true]
      by_cases h : i < 0
      · simp only [h, if_true] <;> omega
      · simp only [h, if_false] <;> omega
  · cases hi with
    | none => simp [sliceBounds, HT.sIx]
    | some i =>
      simp only [sliceBounds, HT.sIx, Option.getD_none, show (1 : Int) > 0 by decide, if_true]
      by_cases h : i < 0
      · simp only [h, if_true] <;> omega
      · simp only [h, if_false] <;> omega
theorem slicePick_cut (its : List Value) (lo hi : Option Int) : slicePick its.toArray lo hi none = ((its.drop (HT.sIx its.length 0 lo)).take (HT.sIx its.length its.length hi - HT.sIx its.length 0 lo)).toArray := by
  obtain ⟨h1, h2, h3⟩ := slice_bounds lo hi its.toArray.size
  unfold slicePick
  rw [h1, h2, h3]
  simp only [sliceRange_one, pick_run, List.size_toArray] <;> rfl
noncomputable def rSlL (K : PySem.W.Frag) : V → Option Int → Option Int → Hp → VK → Prop := fun x lo hi H Q => ∃ a xs, x = .ref a ∧ SqL K H a xs ∧ ∀ p, H p = none → Q (.ref p) (upd H p (.lst (cutV xs lo hi)))
theorem sl_list : SlR X (rSlL X.K) := by
  intro pins s σ H x v vl vu lo hi sl Q I rx hs pl pu h
  obtain ⟨a, xs, rfl, hx, q⟩ := h
  cases rx
  obtain ⟨its, r, ht, hz⟩ := I.list hx
  have hlen := r.length
  refine ⟨"list", _, slot_list_getitem.lookup, ht.isList.typeIs, ?_⟩
  refine wpAny_getItem_list_slice ht.isList hs pl pu .none (by simp) ?_ (by rw [List.size_toArray] <;> omega)
  rw [slicePick_cut, ← hlen]
  refine ⟨.ref s.heap.objs.size, _, I.laid (t' := s.toks) (o := .lst (cutV xs lo hi)) (fun b ob q => Heap.get?_push_of_some _ q) (Nat.le_refl _) ?_, rfl, q _ (I.hok.fresh (Nat.le_refl _))⟩
  exact ⟨Nat.le_trans (cutV_length xs lo hi) hz, _, 0, (r.drop (HT.sIx xs.length 0 lo)).take (HT.sIx xs.length xs.length hi - HT.sIx xs.length 0 lo), Heap.get?_push_size _ rfl⟩

noncomputable def flatV : V → Bool
  | .non => true
  | .bl _ => true
  | .int _ => true
  | .str _ => true
  | _ => false
noncomputable def eqV : V → V → Bool
  | .non, .non => true
  | .bl a, .bl b => a == b
  | .bl a, .int b => (if a then 1 else 0) == b
  | .int a, .bl b => a == (if b then 1 else 0)
  | .int a, .int b => a == b
  | .str a, .str b => a == b
  | _, _ => false
theorem eqAt_V {A : Around} {s : Shared} {y x : V} {u v : Value} (ry : RelV y u) (rx : RelV x v) (fy : flatV y = true) (fx : flatV x = true) : SeqAt.EqAt A s u v (eqV y x) := by
  cases y with
  | non =>
    cases ry
    cases x with
    | non => cases rx; exact SeqAt.EqAt.same _
    | bl b => cases rx; exact SeqAt.EqAt.none_bool b
    | int b => obtain ⟨t, rfl⟩ := rx; exact SeqAt.EqAt.none_int b t
    | str b => obtain ⟨t, rfl⟩ := rx; exact SeqAt.EqAt.none_str b t
    | _ => exact absurd (show false = true from fx) Bool.false_ne_true
  | bl a =>
    cases ry
    cases x with
    | non => cases rx; exact SeqAt.EqAt.bool_none a
    | bl b => cases rx; exact SeqAt.EqAt.bool_bool a b
    | int b => obtain ⟨t, rfl⟩ := rx; exact SeqAt.EqAt.bool_int a b t
    | str b => obtain ⟨t, rfl⟩ := rx; exact SeqAt.EqAt.bool_str a b t
    | _ => exact absurd (show false = true from fx) Bool.false_ne_true
  | int a =>
    obtain ⟨t', rfl⟩ := ry
    cases x with
    | non => cases rx; exact SeqAt.EqAt.int_none a t'
    | bl b => cases rx; exact SeqAt.EqAt.int_bool a t' b
    | int b => obtain ⟨t, rfl⟩ := rx; exact SeqAt.EqAt.int_int a t' b t
    | str b => obtain ⟨t, rfl⟩ := rx; exact SeqAt.EqAt.int_str a t' b t
    | _ => exact absurd (show false = true from fx) Bool.false_ne_true
  | str a =>
    obtain ⟨t', rfl⟩ := ry
    cases x with
    | non => cases rx; exact SeqAt.EqAt.str_none a t'
    | bl b => cases rx; exact SeqAt.EqAt.str_bool a t' b
    | int b => obtain ⟨t, rfl⟩ := rx; exact SeqAt.EqAt.str_int a t' b t
    | str b => obtain ⟨t, rfl⟩ := rx; exact SeqAt.EqAt.str_str a t' b t
    | _ => exact absurd (show false = true from fx) Bool.false_ne_true
  | _ => exact absurd (show false = true from fy) Bool.false_ne_true
theorem call_len_seq : CallR X (.builtin "len") (fun xs H Q => ∃ p ys, xs = [.ref p] ∧ (SqL X.K H p ys ∨ SqT X.K H p ys) ∧ Q (.int ys.length) H) := by
  intro pins s σ H xs us Q I r h
  obtain ⟨p, ys, rfl, hq, q⟩ := h
  obtain ⟨u, rfl, rx⟩ := vals1 r
  cases rx
  have hn := line63
  rcases hq with hq | hq
  · obtain ⟨its, r', pl, hz⟩ := I.list hq
    have hlen := r'.length
    exact Calls.call_len_list pl.isList (by simp only [List.size_toArray] <;> omega) ⟨.int ys.length, H, I.tok _, ⟨s.toks + 1, by rw [List.size_toArray, hlen]⟩, q⟩
  · obtain ⟨its, r', pl, hz⟩ := I.tuple hq
    have hlen := r'.length
    exact len_tuple pl (by simp only [List.size_toArray] <;> omega) ⟨.int ys.length, H, I.tok _, ⟨s.toks + 1, by rw [List.size_toArray, hlen]⟩, q⟩
theorem call_list_of : CallR X (.type "list") (fun xs H Q => ∃ p ys, xs = [.ref p] ∧ (SqL X.K H p ys ∨ SqT X.K H p ys) ∧ ∀ l, H l = none → Q (.ref l) (upd H l (.lst ys))) := by
  intro pins s σ H xs us Q I r h
  obtain ⟨p, ys, rfl, hq, q⟩ := h
  obtain ⟨u, rfl, rx⟩ := vals1 r
  cases rx
  have fin : ∀ (its : List Value), Vals ys its → ys.length ≤ sizeLine → ∀ (h' : Heap) (c' : Nat), (∀ b o', s.heap.get? b = some o' → h'.get? b = some o') →
      h'.get? s.heap.objs.size = some { cls := .type "list", dict := none, data := .seq its.toArray c', slots := #[] } → EP X pins σ Q (.ref s.heap.objs.size) { s with heap := h' } := fun its r' hz h' c' kp e =>
    ⟨.ref s.heap.objs.size, _, I.laid (t' := s.toks) kp (Nat.le_refl _) (show ObjOk X.prog X.w _ h' _ (.lst ys) from ⟨hz, its, c', r', e⟩), rfl, q _ (I.hok.fresh (Nat.le_refl _))⟩
  rcases hq with hq | hq
  · obtain ⟨its, r', pl, hz⟩ := I.list hq
    have hlen := r'.length
    obtain ⟨o, ho, hc, n, hd⟩ := pl.isList
    exact call_list_seq p (.inl rfl) ho hc hd (fun h' c' kp e => fin its r' hz h' c' kp e) (by simp only [List.size_toArray] <;> omega)
  · obtain ⟨its, r', pl, hz⟩ := I.tuple hq
    have hlen := r'.length
    obtain ⟨o, ho, hc, n, hd⟩ := pl
    exact call_list_seq p (.inr rfl) ho hc hd (fun h' c' kp e => fin its r' hz h' c' kp e) (by simp only [List.size_toArray] <;> omega)
noncomputable def tyV (K : PySem.W.Frag) (T : String) (x : V) (H : Hp) : Prop := match x with
  | .str _ => T = "str"
  | .int _ => T = "int"
  | .ref p => (T = "list" ∧ ∃ xs, SqL K H p xs) ∨ (T = "tuple" ∧ ∃ o, K.lookup p = some o ∧ o.cls = .type "tuple" ∧ o.dict = none) ∨
      (T = "dict" ∧ ((∃ kvs, H p = some (.dK kvs)) ∨ ∃ kvs, H p = some (.dT kvs))) ∨ (T = "set" ∧ ∃ S n, H p = some (.set S n))
  | _ => False
theorem tyV_is {pins : List (Addr × Obj)} {σ : St} {H : Hp} {s : Shared} {T : String} {x : V} {v : Value} (I : Inv X pins σ H s) (r : RelV x v) (ty : tyV X.K T x H) :
    s.TypeIs v T ∧ ∀ a, v = .ref a → ∃ ob, s.heap.get? a = some ob ∧ ob.dict = none := by
  cases x with
  | str z =>
    obtain ⟨t, rfl⟩ := r
    cases (show T = "str" from ty)
    exact ⟨typeIs_str s z t, fun _ e => nomatch e⟩
  | int i =>
    obtain ⟨t, rfl⟩ := r
    cases (show T = "int" from ty)
    exact ⟨typeIs_int s i t, fun _ e => nomatch e⟩
  | ref p =>
    cases r
    rcases ty with ⟨rfl, xs, hq⟩ | ⟨rfl, o, hk, hc, hd⟩ | ⟨rfl, hk⟩ | ⟨rfl, S, n, hk⟩
    · obtain ⟨its, _, pl, _⟩ := I.list hq
      refine ⟨pl.isList.typeIs, fun a e => ?_⟩
      cases e
      obtain ⟨o, n, e, c, hd, _⟩ := pl
      exact ⟨o, e, hd⟩
    · refine ⟨⟨o, I.kIn p o hk, hc⟩, fun a e => ?_⟩
      cases e
      exact ⟨o, I.kIn _ o hk, hd⟩
    · have z : ∃ o, s.heap.get? p = some o ∧ o.ExactDict := by
        rcases hk with ⟨kvs, hk⟩ | ⟨kvs, hk⟩
        · obtain ⟨_, _, _, _, o, _, _, e, ex, _⟩ := I.hok p _ hk
          exact ⟨o, e, ex⟩
        · obtain ⟨_, _, _, _, o, _, _, e, ex, _⟩ := I.hok p _ hk
          exact ⟨o, e, ex⟩
      obtain ⟨o, e, ex⟩ := z
      refine ⟨⟨o, e, ex.1⟩, fun a e2 => ?_⟩
      cases e2
      exact ⟨o, e, ex.2.1⟩
    · obtain ⟨o, _, _, _, e, ex, _⟩ := I.hok p _ hk
      refine ⟨⟨o, e, ex.1⟩, fun a e2 => ?_⟩
      cases e2
      exact ⟨o, e, ex.2.1⟩
  | _ => exact False.elim ty
noncomputable def tBM0 (K : PySem.W.Frag) (T : String) (r : V → List V → Hp → VK → Prop) (to : TE) : TE := fun σ H Q => to σ H fun x H1 => tyV K T x H1 ∧ r x [] H1 Q
noncomputable def tBM (K : PySem.W.Frag) (T : String) (r : V → List V → Hp → VK → Prop) (to : TE) (t : TA) : TE := fun σ H Q => to σ H fun x H1 => tyV K T x H1 ∧ t σ H1 fun xs H2 => r x xs H2 Q
variable {o e : Expr} {es : List Expr} {to : TE} {t : TA} {name : Str} {apos cpos : Pos} {T id : String} {r : V → List V → Hp → VK → Prop}
theorem pe_bm0 (pa : PlainAttrs T) (slot : Slot T name id) (hty : typeOf (.builtin id) = pure (.type "method_descriptor")) (hm : MtR X id r) (ho : PE X o to)
    (hbase : attributeBase o name X.env (eval o X.env) = eval o X.env := by rfl) (hline : (apos.endLine == cpos.line) = true := by rfl) : PE X (.Call (.Attribute o name apos) [] [] cpos) (tBM0 X.K T r to) := by
  intro pins s σ H Q I h
  refine wpAny_Call_method0_late hbase hline (thn (ho pins s σ H _ I h) fun v s1 ⟨x, H1, I1, r1, ty, q1⟩ => ?_)
  obtain ⟨h1, h2⟩ := tyV_is I1 r1 ty
  exact ⟨T, id, pa, slot, hty, h1, h2, Calls.callWith_builtin rfl (PySem.evalArgs_none (hm pins s1 σ H1 x [] v [] Q I1 r1 .nil q1))⟩
theorem pe_bm (pa : PlainAttrs T) (slot : Slot T name id) (hty : typeOf (.builtin id) = pure (.type "method_descriptor")) (hm : MtR X id r) (ho : PE X o to) (ha : PA X (e :: es) t)
    (hbase : attributeBase o name X.env (eval o X.env) = eval o X.env := by rfl)
    (hfew : ((backTo cpos (starEach (e :: es) X.env)).all (fun x => !x.1) && (backToKw cpos (keywordEach [] X.env)).all (fun x => x.1.isSome)
      && decide ((e :: es).length + ([] : List Keyword).length + (if ([] : List Keyword).isEmpty then 0 else 1) < 30)) = true := by rfl)
    (hline : (apos.endLine == cpos.line) = true := by rfl) (hs : starEach (e :: es) X.env = (false, eval e X.env) :: starEach es X.env := by rfl) (hplain : (backTo cpos (starEach es X.env)).any (·.1) = false := by rfl) :
    PE X (.Call (.Attribute o name apos) (e :: es) [] cpos) (tBM X.K T r to t) := by
  intro pins s σ H Q I h
  refine wpAny_Call_method_late hbase hfew hline rfl (thn (ho pins s σ H _ I h) fun v s1 ⟨x, H1, I1, r1, ty, q1⟩ => ?_)
  obtain ⟨h1, h2⟩ := tyV_is I1 r1 ty
  refine ⟨T, id, pa, slot, hty, h1, h2, ?_⟩
  have hA := ha cpos pins s1 σ H1 _ I1 q1
  rw [hs] at hA ⊢
  refine Calls.callWith_builtin (by show (false || (backTo cpos (starEach es X.env)).any (·.1)) = false; rw [hplain] <;> rfl) (Calls.evalArgs_plain ?_)
  exact thn hA fun us s2 ⟨vs, H2, I2, r2, q2⟩ => hm pins s2 σ H2 x vs v us Q I2 r1 r2 q2
end
end L2

namespace L2
open PySem PySem.Spec PyProof.Rows

noncomputable def MtM (X : Cx) (id : String) (r : V → List V → Hp → VK → Prop) : Prop :=
  ∀ (pins : List (Addr × Obj)) (s : Shared) (σ : St) (H : Hp) (x : V) (xs : List V) (v : Value) (us : List Value) (Q : VK), Inv X pins σ H s → RelV x v → Vals xs us → r x xs H Q →
    wpAny (model X.prog X.w) X.A (call (.builtin id) (v :: us)) (EP X pins σ Q) X.xe s

theorem Vals.one : ∀ {x : V} {us : List Value}, Vals [x] us → ∃ u, us = [u] ∧ RelV x u := by
  intro x us h
  cases h with
  | cons r t => cases t; exact ⟨_, rfl, r⟩
theorem Vals.zero : ∀ {us : List Value}, Vals [] us → us = []
  | _, .nil => rfl
theorem Vals.reverse {xs : List V} {us : List Value} (h : Vals xs us) : Vals xs.reverse us.reverse := by
  induction h with
  | nil => exact .nil
  | cons r t ih => rw [List.reverse_cons, List.reverse_cons]; exact Vals.append ih (.cons r .nil)
section
variable {X : Cx} {pins : List (Addr × Obj)} {σ : St} {H : Hp} {s : Shared} {l b : Addr} {xs ys zs : List V}

theorem Inv.lset {its its' : List Value} {n : Nat} {f : Array Value → Array Value} {t' : Nat} (I : Inv X pins σ H s) (hH : H l = some (.lst xs))
    (e : s.heap.get? l = some { cls := .type "list", data := .seq its.toArray n }) (hf : f its.toArray = its'.toArray) (hv : Vals ys its') (hz : ys.length ≤ sizeLine) :
    Inv X pins σ (upd H l (.lst ys)) { s with heap := s.heap.update l (Obj.mapSeq f), toks := t' } := by
  have q := PySem.IsL.update e f
  rw [hf] at q
  refine I.write (x := l) (e := l) (by rw [hH]; exact trivial) (.inl rfl) (fun b' u hb hu => (Heap.get?_update_other s.heap (Obj.mapSeq f) (Ne.symm hb)).trans hu) ⟨_, q⟩ ?_
  exact ⟨hz, its', _, hv, q⟩
theorem Inv.lnew {its : List Value} {t' : Nat} (I : Inv X pins σ H s) (hv : Vals ys its) (hz : ys.length ≤ sizeLine) :
    Inv X pins σ (upd H s.heap.objs.size (.lst ys)) { s with heap := s.heap.push { cls := .type "list", data := .seq its.toArray }, toks := t' } :=
  I.laid (fun _ _ q => Heap.get?_push_of_some _ q) (Nat.le_refl _) ⟨hz, its, 0, hv, Heap.get?_push_size _ rfl⟩
theorem Inv.fresh (I : Inv X pins σ H s) : H s.heap.objs.size = none := I.hok.fresh (Nat.le_refl _)
theorem Inv.lstM (I : Inv X pins σ H s) (hH : H l = some (.lst xs)) : xs.length ≤ sizeLine ∧ ∃ (its : List Value) (n : Nat), Vals xs its ∧ xs.length = its.length ∧ s.heap.get? l = some { cls := .type "list", data := .seq its.toArray n } := by
  obtain ⟨z, its, n, r, e⟩ := I.hok l _ hH
  exact ⟨z, its, n, r, r.length, e⟩

end

section
variable {X : Cx}

noncomputable def rAppend : V → List V → Hp → VK → Prop := fun x vs H Q => ∃ l xs y, x = .ref l ∧ vs = [y] ∧ H l = some (.lst xs) ∧ xs.length < sizeLine ∧ Q .non (upd H l (.lst (xs ++ [y])))
theorem mt_append : MtM X "list.append" rAppend := by
  intro pins s σ H x vs v us Q I rx rv h
  obtain ⟨l, xs, y, rfl, rfl, hH, hz, q⟩ := h
  cases rx
  obtain ⟨u, rfl, ru⟩ := rv.one
  obtain ⟨z, its, n, r, hl, e⟩ := I.lstM hH
  refine call_meets F.slot_list_append ⟨_, e, rfl⟩ F.entry_list_append (F.args_list_append_2 _ _) (PySem.list_append l its.toArray n u (by rw [List.size_toArray]; omega)) ⟨e, ?_⟩
  refine ⟨.non, _, I.lset (its' := its ++ [u]) hH e (by simp) (r.append (.cons ru .nil)) ?_, rfl, q⟩
  rw [List.length_append, List.length_singleton]
  omega

noncomputable def rReverse : V → List V → Hp → VK → Prop := fun x vs H Q => ∃ l xs, x = .ref l ∧ vs = [] ∧ H l = some (.lst xs) ∧ Q .non (upd H l (.lst xs.reverse))
theorem mt_reverse : MtM X "list.reverse" rReverse := by
  intro pins s σ H x vs v us Q I rx rv h
  obtain ⟨l, xs, rfl, rfl, hH, q⟩ := h
  cases rx
  have hus := rv.zero
  subst hus
  obtain ⟨z, its, n, r, hl, e⟩ := I.lstM hH
  refine call_meets F.slot_list_reverse ⟨_, e, rfl⟩ F.entry_list_reverse (F.args_list_reverse_1 _) (AutoSeq1.list_reverse_list_0 l its.toArray n (by rw [List.size_toArray]; omega)) ⟨e, ?_⟩
  refine ⟨.non, _, I.lset (its' := its.reverse) hH e (by simp) r.reverse ?_, rfl, q⟩
  rw [List.length_reverse]
  omega

noncomputable def rCat : R2 := fun x y H Q => ∃ l b xs zs, x = .ref l ∧ y = .ref b ∧ H l = some (.lst xs) ∧ H b = some (.lst zs) ∧ xs.length + zs.length ≤ sizeLine ∧ ∀ p, H p = none → Q (.ref p) (upd H p (.lst (xs ++ zs)))
theorem op_cat : OpR X (binaryOp .Add) rCat := by
  intro pins s σ H x y v u Q I rx ry h
  obtain ⟨l, b, xs, zs, rfl, rfl, hH, hB, hz, q⟩ := h
  cases rx
  cases ry
  obtain ⟨z, its, n, r, hl, e⟩ := I.lstM hH
  obtain ⟨z2, its2, n2, r2, hl2, e2⟩ := I.lstM hB
  refine PySem.P.add_list e e2 ?_ (by rw [List.size_toArray, List.size_toArray]; omega)
  have ea : its.toArray ++ its2.toArray = (its ++ its2).toArray := by simp
  rw [ea]
  exact ⟨.ref _, _, I.lnew (t' := s.toks) (r.append r2) (by rw [List.length_append]; omega), rfl, q _ I.fresh⟩
end

section
variable {prog : Program} {w : World} {A : Around} {E : Value → Shared → Prop} {s : Shared}
end

section
variable {X : Cx}
end
end L2

namespace Att
open PySem PySem.W PySem.Calls PyProof.Rows

theorem ints_of_wellAll {P : Params} {h : Heap} : ∀ (ns : List Int) (vs : List Value), WellAll P h vs (ns.map WData.int) → IntsAre vs ns := by
  intro ns
  induction ns with
  | nil =>
    intro vs w
    rw [List.map_nil] at w
    cases w
    exact .nil
  | cons n ns ih =>
    intro vs w
    rw [List.map_cons] at w
    cases w with
    | cons a b =>
      cases a
      exact .cons _ _ (ih _ b)

theorem script_of {l : OpenLaw} {n : Nat} (hn : l.most = some n) {P : Params} {h : Heap} {args : List WData} {vals : List Value}
    (hpre : l.row.toRowW.claim.pre args = true) (hwl : WellAll P h vals args) :
    ∃ a vs ns, vals = [Value.ref a] ∧ args = [WData.list (ns.map WData.int)] ∧ h.get? a = some { cls := .type "list", data := .seq vs.toArray } ∧ IntsAre vs ns ∧ ns.length ≤ n := by
  have hsh : WShape.hasAll [] args [.list .int] = true := (pre_splitW hpre).1
  have hc : l.pre.holds [] { args := args } = true := (pre_splitW hpre).2
  obtain ⟨d, r, rfl, h1, h2⟩ := hasAllW_cons hsh
  obtain rfl := hasAllW_nil h2
  obtain ⟨xs, rfl, h3⟩ := hasW_list h1
  obtain ⟨ns, rfl⟩ := items_int h3
  have hlen : ns.length ≤ n := by
    unfold OpenLaw.pre at hc
    have h4 : (WTm.not (.lt (.lit (.int (n : Int))) (.len (.arg 0)))).holds [] { args := [.list (ns.map .int)] } = true := by
      have h4 := (holds_andW hc).1
      rw [hn] at h4
      exact h4
    have h5 := condW_of h4 (w_not (w_lt w_lit (w_len_list (w_arg rfl))))
    rw [List.length_map] at h5
    refine Nat.le_of_not_lt fun q => ?_
    have q' : (n : Int) < ((ns.length : Nat) : Int) := by omega
    first
      | (rw [decide_eq_true q'] at h5; exact absurd h5 (by decide))
      | (simp at h5; omega)
  cases hwl with
  | cons w1 w2 =>
    cases w2
    cases w1 with
    | list ho hall => exact ⟨_, _, ns, rfl, rfl, ho, ints_of_wellAll ns _ hall, hlen⟩

theorem post_true (l : OpenLaw) (args : List WData) : l.row.toRowW.claim.post args (.bool true) args = true :=
  postW_of (r := l.row.toRowW) (X := (true == true))
    (show WShape.has [] (.bool true) .bool = true by first | rfl | decide | simp [WShape.has, WShape.arms, WShape.armsAll])
    (show (WTm.eq .res (.lit (.bool true))).value [] { args := args, res := some (.bool true), after := args } = some (.bool (true == true)) from w_eq_bool (w_res rfl) w_lit) rfl

theorem attach_call {l : OpenLaw} {n : Nat} {q : Program} {loose : List Str} {XP : (Str → Option Value) → Heap → Prop} {YP : World → Heap → Prop} {d : DefRec}
    (hn : l.most = some n) (hdf : d.params.defaults = [])
    (call : ∀ (w : World) (s₀ s₁ : Shared) (mg mb : Str → Option Value) (fa : Addr) (o : Obj) (pm cd doc : Value) (a : Addr) (vs : List Value) (ns : List Int),
      Ground q loose [] XP w s₀ mg mb s₁.heap → YP w s₁.heap →
      s₁.heap.get? fa = some o → o.data = .func (docDef d.name d.params d.body d.scope pm cd doc) → s₁.heap.CodeRec cd d.name → mg d.name = some (.ref fa) →
      s₁.heap.get? a = some { cls := .type "list", data := .seq vs.toArray } → IntsAre vs ns → ns.length ≤ n → s₁.gens = #[] →
      codeAny (model l.prog w) callerA (.call (.ref fa) ⟨[.ref a], []⟩) (fun r s' => r = .ok (.ret (.bool true)) ∧ OldK s₁.heap s'.heap ∧ s'.os = s₁.os ∧ AllBare s'.gens) s₁) :
    WalkO q loose XP YP l.row.toRowW d [] (fun f vs => PySem.call f vs) := by
  intro w s₀ s₁ mg mb G Y fa o pm cd doc dV kV ho hd hcd hD hmg hg args vals as hpre hlay hrd hwl hlo
  obtain rfl : dV = .none := Dflts.none hD hdf
  obtain rfl : kV = .none := Dflts.noKw hD
  obtain ⟨a, vs, ns, rfl, rfl, hobj, hints, hlen⟩ := script_of hn hpre hwl
  refine enter_call (codeAny_mono (call w s₀ s₁ mg mb fa o pm cd doc a vs ns G Y ho (fd_plain hd) hcd hmg hobj hints hlen hg) fun r s' hq => ?_)
  obtain ⟨rfl, h2, h3, h4⟩ := hq
  exact ⟨.inl ⟨.bool true, .bool true, [], rfl, fun _ => rfl, .bool true, post_true l _, fun _ => ⟨List.Pairwise.nil, fun _ hm => (nomatch hm)⟩⟩, h2, h3, h4⟩

section
variable {prog : Program} {w : World} {A : Around} {E : Value → Shared → Prop} {s : Shared} {K : Frag}

end
end Att

namespace L2
open PySem PySem.Spec PyProof.Rows

theorem vals_ints : ∀ {vs : List Value} {ns : List Int}, IntsAre vs ns → Vals (ns.map V.int) vs := by
  intro vs ns h
  induction h with
  | nil => exact .nil
  | cons n t h ih => exact .cons ⟨t, rfl⟩ ih

noncomputable def Only (H : Hp) : Prop := ∀ b, H b = none ∨ ∃ o xs, H b = some (.frz o (.lst xs))

theorem law_call {P : Program} {w : World} {K : PySem.W.Frag} {mg mb : Str → Option Value} {CX : CXT} {k : Nat} {fa a : Addr} {fd : FuncData} {x : Str} {sp : Sp} {s₁ : Shared} {vs : List Value} {ns : List Int}
    (KX : K.In s₁.heap) (hns : s₁.heap.Ns mainGlobals mg) (hb : s₁.heap.Ns builtinsNs mb) (hbb : ∀ x : Str, x ≠ "__name__" → mb x = bootBuiltins x) (hlim : s₁.heap.NoLimit) (hg : s₁.gens = #[])
    (ha : s₁.heap.get? a = some { cls := .type "list", data := .seq vs.toArray }) (hi : IntsAre vs ns) (hl : ns.length ≤ sizeLine) (hr : Room k callerA)
    (F : ∀ base : Heap, K.In base → base.Ns mainGlobals mg → FnOk P w K mg base CX k fa fd [x] sp) (hbind : ∀ (s : Shared) (u : Value), BindsTo s fd ⟨[u], []⟩ [(x, u)])
    (hsp : ∀ H : Hp, Only H → SqL K H a (ns.map V.int) → sp [.ref a] H (fun v _ => v = .bl true) fun _ _ _ => False)
    (hCX : ∀ H e s', CX [] H s₁ (fun _ _ _ => False) e s' → False) :
    codeAny (model P w) callerA (.call (.ref fa) ⟨[.ref a], []⟩) (fun r s' => r = .ok (.ret (.bool true)) ∧ OldK s₁.heap s'.heap ∧ s'.os = s₁.os ∧ AllBare s'.gens) s₁ := by
  have rv := vals_ints hi
  have lenV := hi.length
  -- from an abstract heap in which nothing but the script may be tracked
  have core : ∀ H : Hp, Only H → SqL K H a (ns.map V.int) → HOk P w H s₁.heap → (∀ b, H b ≠ none → b = a) → (H a ≠ none → K.lookup a = none) →
      codeAny (model P w) callerA (.call (.ref fa) ⟨[.ref a], []⟩) (fun r s' => r = .ok (.ret (.bool true)) ∧ OldK s₁.heap s'.heap ∧ s'.os = s₁.os ∧ AllBare s'.gens) s₁ := by
    intro H hO hS hok hA hK
    have base_of : ∀ {b : Addr} {o : Obj}, s₁.heap.get? b = some o → H b = none → (hidT s₁.heap H).get? b = some o := fun e n => hidT_get e n
    have noA : ∀ {b : Addr} {o : Obj} {es : Array DictEntry} {ep : Nat}, s₁.heap.get? b = some o → o.data = .dict es ep → H b = none := fun {b o es ep} e d => by
      cases q : H b with
      | none => rfl
      | some u =>
        have e' : b = a := hA b (by rw [q]; simp)
        subst e'
        rw [ha] at e; cases e
        have d' : Data.seq vs.toArray _ = Data.dict es ep := d
        cases d'
    have nsK : ∀ {b : Addr} {m : Str → Option Value}, s₁.heap.Ns b m → (hidT s₁.heap H).Ns b m := fun {b m} ⟨o, es, ep, e, d, r⟩ => ⟨o, es, ep, base_of e (noA e d), d, r⟩
    have hKb : K.In (hidT s₁.heap H) := fun b o e => base_of (KX b o e) (by
      cases q : H b with
      | none => rfl
      | some u =>
        have e' : b = a := hA b (by rw [q]; simp)
        subst e'
        rw [hK (by rw [q]; simp)] at e; cases e)
    have hM : Mod K mg (hidT s₁.heap H) := ⟨hKb, nsK hns, ⟨mb, nsK hb, hbb⟩, let ⟨mc, h1, h2⟩ := hlim; ⟨mc, nsK h1, h2⟩⟩
    have e0 : Env0 P w K mg (hidT s₁.heap H) callerA [] s₁ H := ⟨rfl, hM, fun b o e => of_hidT e, Nat.le_of_eq (hidT_size _ _), trivial, fun b hb => absurd (show b ∈ ([] : List Addr) from hb) (by simp), hok, .of_eq hg⟩
    refine codeAny_mono ((F _ hKb (nsK hns)).run callerA [] s₁ H ⟨[.ref a], []⟩ [.ref a] [.ref a] _ _ hr e0 (hbind s₁ (.ref a)) (.cons rfl .nil) (hsp H hO hS)) fun r s' h => ?_
    cases r with
    | error e => exact (hCX H e s' h).elim
    | ok fl =>
      cases fl with
      | next => exact False.elim h
      | brk => exact False.elim h
      | cont => exact False.elim h
      | ret u =>
        obtain ⟨v, H', os, bare, un, hok', r', q⟩ := h
        have q' : v = .bl true := q
        subst q'
        obtain rfl : u = Value.bool true := r'
        refine ⟨rfl, OldK.of_keep fun b o e => ?_, os, bare⟩
        cases q : H b with
        | none => exact un.keep b o e q (by intro z; exact absurd (show b ∈ ([] : List Addr) from z) (by simp)) (by simp)
        | some u =>
          rcases hO b with z | ⟨ob, xs, z⟩
          · rw [q] at z; cases z
          · have z2 := un.frzs b ob _ z
            obtain ⟨e1, _⟩ := hok b _ z
            obtain ⟨e2, _⟩ := hok' b _ z2
            rw [e] at e1; cases e1
            exact e2
  cases hk : K.lookup a with
  | some o =>
    -- the script is one of the module's own objects
    have e := KX a o hk
    rw [ha] at e
    cases e
    refine core (fun _ => none) (fun _ => .inl rfl) (.inr ⟨_, vs.toArray, _, hk, rfl, rfl, rfl, by rw [List.size_toArray, lenV]; exact hl, by simpa using rv⟩) (fun b u z => by have z' : (none : Option HO) = some u := z; cases z') (fun b z => absurd rfl z) fun z => absurd rfl z
  | none =>
    refine core (fun b => if b = a then some (.frz { cls := .type "list", data := .seq vs.toArray } (.lst (ns.map V.int))) else none) (fun b => ?_) (.inl (.inr ⟨{ cls := .type "list", data := .seq vs.toArray }, if_pos rfl⟩)) (fun b u z => ?_) (fun b z => ?_) fun _ => hk
    · by_cases hb : b = a
      · exact .inr ⟨_, _, if_pos hb⟩
      · exact .inl (if_neg hb)
    · by_cases hb : b = a
      · have z' := (if_pos hb).symm.trans z
        cases z'
        subst hb
        exact ⟨ha, by rw [List.length_map]; exact hl, vs, _, rv, ha⟩
      · have z' := (if_neg hb).symm.trans z
        cases z'
    · by_cases hb : b = a
      · exact hb
      · exact absurd (if_neg hb) z
end L2

namespace L2
open PySem PySem.Spec PyProof.Rows

theorem walk_of {l : PySem.W.OpenLaw} {n k : Nat} {q : Program} {loose : List Str} {XP : (Str → Option Value) → Heap → Prop} {YP : World → Heap → Prop} {d : DefRec} {K : Params → PySem.W.Frag} {CX : World → CXT} {sp : World → Sp} {x : Str}
    (hn : l.most = some n) (hn2 : n ≤ sizeLine) (hdf : d.params.defaults = []) (hr : Room k callerA)
    (hY : ∀ (w : World) (h : Heap), YP w h → (K w.params).In h)
    (F : ∀ (w : World) (mg : Str → Option Value) (fa : Addr) (h : Heap), (K w.params).In h → h.Ns mainGlobals mg → mg d.name = some (.ref fa) →
      ∃ fd : FuncData, (∀ (s : Shared) (u : Value), BindsTo s fd ⟨[u], []⟩ [(x, u)]) ∧
        ∀ base : Heap, (K w.params).In base → base.Ns mainGlobals mg → FnOk l.prog w (K w.params) mg base (CX w) k fa fd [x] (sp w))
    (hsp : ∀ (w : World) (H : Hp) (a : Addr) (ns : List Int), ns.length ≤ n → Only H → SqL (K w.params) H a (ns.map V.int) → sp w [.ref a] H (fun v _ => v = .bl true) fun _ _ _ => False)
    (hCX : ∀ (w : World) (H : Hp) (s : Shared) (e : Value) (s' : Shared), CX w [] H s (fun _ _ _ => False) e s' → False) :
    PySem.W.WalkO q loose XP YP l.row.toRowW d [] (fun f vs => PySem.call f vs) := by
  refine Att.attach_call hn hdf fun w s₀ s₁ mg mb fa o pm cd doc a vs ns G Y ho hd hcd hmg hobj hints hlen hg => ?_
  have KX := hY w _ Y
  obtain ⟨fd, hb, hF⟩ := F w mg fa _ KX G.T.g hmg
  exact law_call KX G.T.g G.T.b G.T.builtins G.T.nolimit hg hobj hints (Nat.le_trans hlen hn2) hr hF hb (fun H hO hS => hsp w H a ns hlen hO hS) fun H e s' => hCX w H s₁ e s'
end L2


namespace L2
open PySem PySem.Spec PyProof.Rows

noncomputable def inClass (s : Stmt) (j : Nat) : Stmt := match s with
  | .ClassDef _ _ _ body _ _ _ _ _ _ _ => body.getD j (.Pass ⟨0, 0, 0, 0⟩)
  | _ => .Pass ⟨0, 0, 0, 0⟩
noncomputable def defArgs (s : Stmt) : Arguments := match s with
  | .FunctionDef _ a _ _ _ _ _ _ _ _ => a
  | _ => { posonlyargs := [], args := [], vararg := none, kwonlyargs := [], kw_defaults := [], kwarg := none, defaults := [] }
noncomputable def defBody (s : Stmt) : List Stmt := match s with
  | .FunctionDef _ _ b _ _ _ _ _ _ _ => b
  | _ => []
noncomputable def defScope (s : Stmt) : Scope := match s with
  | .FunctionDef _ _ _ _ _ _ sc _ _ _ => sc
  | _ => { kind := .function, names := [], isGenerator := false, isCoroutine := false }

noncomputable abbrev CX0 : CXT := fun _ _ _ _ _ _ => False
noncomputable abbrev E0 : XK := fun _ _ _ => False
theorem pass0 {X : Cx} : Passes CX0 X E0 := fun _ _ _ _ _ _ _ h => h.elim

structure Fun (K : PySem.W.Frag) (x qual : Str) (st : Stmt) (f : Addr) (fd : FuncData) : Prop where
  ex : ∃ (oc : Value) (od : Option Addr) (kV doc pm : Value) (an : Option Addr) (cdv ct : Value) (osl : Array (Option Value)),
    fd = PySem.W.fnOf x qual (defArgs st) (defBody st) (defScope st) .none kV doc pm an cdv ct ∧ K.lookup f = some ⟨oc, od, .func fd, osl⟩ ∧ PySem.W.codeIn K cdv qual = true
  kp : PySem.W.keepIn K (.ref f) = true
section
variable {P : Program} {w : World} {K : PySem.W.Frag} {mg : Str → Option Value} {base : Heap}
theorem Fun.ok {x qual : Str} {st : Stmt} {f : Addr} {fd : FuncData} {N ps : List Str} {k : Nat} {sp : Sp} (F : Fun K x qual st f fd) (S : FnScope N ps (defScope st)) (len : ∀ vs H Q E, sp vs H Q E → vs.length = ps.length)
    (hbody : ∀ (cdv : Value) (A : Around) (outer : List Env) (s : Shared) (H : Hp) (vs : List V) (Q : VK) (E : XK), Room k (A.deeper (envOfC qual (defScope st) s.heap.objs.size f cdv)) → sp vs H Q E →
      ∃ t, PSs (cxOf CX0 P w K mg base N qual (defScope st) f cdv A outer s H E).nox (defBody st) t ∧ t { nx := fun _ H' => Q .non H', rt := Q } (start N vs) H) : FnOk P w K mg base CX0 (k + 1) f fd ps sp := by
  obtain ⟨oc, od, kV, doc, pm, an, cdv, ct, osl, rfl, lk, hcd⟩ := F.ex
  refine fn_of lk hcd S len fun A outer s H vs Q E hr hsp => ?_
  obtain ⟨t, h, q⟩ := hbody cdv A outer s H vs Q E hr hsp
  exact ⟨t, h.nox, q⟩
theorem Fun.binds {x qual : Str} {st : Stmt} {f : Addr} {fd : FuncData} {ps : List Str} (F : Fun K x qual st f fd)
    (h : ∀ (kV doc pm : Value) (an : Option Addr) (cdv ct : Value) (us : List Value), us.length = ps.length → bindArgs (PySem.W.fnOf x qual (defArgs st) (defBody st) (defScope st) .none kV doc pm an cdv ct) ⟨us, []⟩ = pure (ps.zip us)) : Binds K fd ps [] := by
  obtain ⟨oc, od, kV, doc, pm, an, cdv, ct, osl, rfl, lk, hcd⟩ := F.ex
  exact .all (h kV doc pm an cdv ct)
theorem fun_mk {x qual : Str} {st : Stmt} {f : Addr} {oc : Value} {od an : Option Addr} {osl : Array (Option Value)} {kV doc pm cdv ct : Value} (l : K.lookup f = some ⟨oc, od, .func (PySem.W.fnOf x qual (defArgs st) (defBody st) (defScope st) .none kV doc pm an cdv ct), osl⟩)
    (c : PySem.W.codeIn K cdv qual = true) (k : PySem.W.keepIn K (.ref f) = true) : Fun K x qual st f (PySem.W.fnOf x qual (defArgs st) (defBody st) (defScope st) .none kV doc pm an cdv ct) := ⟨⟨oc, od, kV, doc, pm, an, cdv, ct, osl, rfl, l, c⟩, k⟩
end
theorem small1000 {n : Nat} (h : n ≤ 1000) : n < sizeLine := Nat.lt_of_le_of_lt h (by decide)

section
variable {X : Cx}
theorem pv (i : Nat) {x : Str} {pos : Pos} (hN : X.N[i]? = some x := by rfl) (hv : Vis X.env.scope x := by first | exact Or.inl rfl | exact Or.inr (Or.inl rfl) | exact Or.inr (Or.inr rfl)) (hd : (x == ("__debug__" : Str)) = false := by decide)
    (hcd : (x == ("__classdict__" : Str)) = false := by decide) : PE X (.Name x pos) (tVar i) := pe_var hN hv hd hcd
end

theorem iteF {A B : Prop} (h : B) : if false = true then A else B := by
  rw [if_neg Bool.false_ne_true]
  exact h
theorem iteT {A B : Prop} (h : A) : if true = true then A else B := by
  rw [if_pos rfl]
  exact h
noncomputable def Same (H H' : Hp) : Prop := ∀ b o, H b = some o → H' b = some o
theorem Same.refl (H : Hp) : Same H H := fun _ _ h => h
theorem Same.trans {H H1 H2 : Hp} (a : Same H H1) (b : Same H1 H2) : Same H H2 := fun c o h => b c o (a c o h)
theorem Same.seq {K : PySem.W.Frag} {H H' : Hp} {a : Addr} {xs : List V} (e : Same H H') (h : SqL K H a xs) : SqL K H' a xs := by
  rcases h with (h | ⟨o, h⟩) | h
  · exact .inl (.inl (e _ _ h))
  · exact .inl (.inr ⟨o, e _ _ h⟩)
  · exact .inr h

end L2

set_option Elab.async false
set_option linter.all false
set_option maxRecDepth 100000
namespace L2
open PySem PySem.Spec PyProof.Rows
section
variable {X : Cx}

theorem Same.upd {H : Hp} {p : Addr} {o : HO} (h : H p = none) : Same H (upd H p o) := fun b u e => by
  rw [upd_ne (ne_of_none e h)]; exact e
noncomputable def EqV (X : Cx) (k : Nat) (H : Hp) (x y : V) (b : Bool) : Prop :=
  ∀ (A : Around) (pins : List (Addr × Obj)) (σ : St) (s : Shared) (u v : Value), Inv X pins σ H s → A.units + k < cLine → RelV x u → RelV y v → SeqAt.EqAt A s u v b
theorem EqV.flat {k : Nat} {H : Hp} {x y : V} (fx : flatV x = true) (fy : flatV y = true) : EqV X k H x y (eqV x y) := fun A pins σ s u v I hu rx ry => eqAt_V rx ry fx fy
theorem EqV.mono {k l : Nat} {H : Hp} {x y : V} {b : Bool} (h : EqV X k H x y b) (hk : k ≤ l) : EqV X l H x y b := fun A pins σ s u v I hu rx ry => h A pins σ s u v I (by omega) rx ry
noncomputable def eqL (e : Nat → Bool) (n m : Nat) : Bool := (List.range (min n m)).all e && n == m
theorem items_eq {k : Nat} {H : Hp} {xs ys : List V} {e : Nat → Bool} {A : Around} {pins : List (Addr × Obj)} {σ : St} {s : Shared} (I : Inv X pins σ H s) (hu : A.units + k < cLine)
    (he : ∀ j x y, xs[j]? = some x → ys[j]? = some y → EqV X k H x y (e j)) {us vs : List Value} (r1 : Vals xs us) (r2 : Vals ys vs) :
    ∀ j (h1 : j < us.toArray.size) (h2 : j < vs.toArray.size), SeqAt.EqAt A s us.toArray[j] vs.toArray[j] (e j) := by
  intro j h1 h2
  rw [List.size_toArray] at h1 h2
  have l1 := r1.length
  have l2 := r2.length
  have g1 : xs[j]? = some xs[j] := by simp [l1, h1]
  have g2 : ys[j]? = some ys[j] := by simp [l2, h2]
  obtain ⟨u, e1, q1⟩ := r1.get g1
  obtain ⟨v, e2, q2⟩ := r2.get g2
  have f1 : us.toArray[j] = u := by
    rw [List.getElem_toArray]
    have : us[j]? = some us[j] := by simp [h1]
    rw [this] at e1; exact Option.some.inj e1
  have f2 : vs.toArray[j] = v := by
    rw [List.getElem_toArray]
    have : vs[j]? = some vs[j] := by simp [h2]
    rw [this] at e2; exact Option.some.inj e2
  rw [f1, f2]
  exact he j _ _ g1 g2 A pins σ s u v I hu q1 q2
theorem in1_units (A : Around) : A.in1.units = A.units + 1 := by
  first | rfl | simp [Around.in1] | (unfold Around.in1; rfl)
theorem EqV.tup {k : Nat} {H : Hp} {a b : Addr} {xs ys : List V} {e : Nat → Bool} (ha : H a = some (.tup xs)) (hb : H b = some (.tup ys)) (he : ∀ j x y, xs[j]? = some x → ys[j]? = some y → EqV X k H x y (e j))
    (hs : a = b → eqL e xs.length ys.length = true) : EqV X (k + 1) H (.ref a) (.ref b) (eqL e xs.length ys.length) := by
  intro A pins σ s u v I hu rx ry
  cases rx
  cases ry
  by_cases hab : a = b
  · rw [hs hab]
    subst hab
    exact SeqAt.EqAt.same _
  · obtain ⟨us, r1, p1, _⟩ := I.tuple (.inl (.inl ha))
    obtain ⟨vs, r2, p2, _⟩ := I.tuple (.inl (.inl hb))
    refine SeqAt.EqAt.of_refs hab ?_
    have z := SeqAt.RcAt.tuples (e := e) (A := A) (s := s) p1 p2 (by omega) (items_eq I (by rw [in1_units]; omega) he r1 r2)
    unfold eqL
    rw [r1.length, r2.length]
    simpa using z
noncomputable def pV (p : List Str) : List V := p.map V.str
theorem eqL_path (p q : List Str) : eqL (fun j => decide (p[j]? = q[j]?)) p.length q.length = decide (p = q) := by
  by_cases h : p = q
  · subst h; simp [eqL]
  · rw [decide_eq_false h]
    cases hh : eqL (fun j => decide (p[j]? = q[j]?)) p.length q.length with
    | false => rfl
    | true =>
      exfalso; apply h
      unfold eqL at hh
      rw [Bool.and_eq_true] at hh
      have hl : p.length = q.length := by simpa using hh.2
      have ha := hh.1
      rw [hl, Nat.min_self, List.all_eq_true] at ha
      apply List.ext_getElem? 
      intro i
      by_cases hi : i < q.length
      · have := ha i (List.mem_range.mpr hi)
        simpa using this
      · rw [List.getElem?_eq_none (by omega), List.getElem?_eq_none (by omega)]
theorem path_items {k : Nat} {H : Hp} (p q : List Str) : ∀ (j : Nat) (x y : V), (pV p)[j]? = some x → (pV q)[j]? = some y → EqV X k H x y (decide (p[j]? = q[j]?)) := by
  intro j x y hx hy
  unfold pV at hx hy
  rw [List.getElem?_map] at hx hy
  cases e1 : p[j]? with
  | none => rw [e1] at hx; cases hx
  | some a =>
    cases e2 : q[j]? with
    | none => rw [e2] at hy; cases hy
    | some b =>
      rw [e1] at hx; rw [e2] at hy
      cases hx; cases hy
      have := EqV.flat (X := X) (k := k) (H := H) (x := V.str a) (y := V.str b) rfl rfl
      have e : eqV (V.str a) (V.str b) = decide (some a = some b) := by
        show (a == b) = _
        by_cases h : a = b
        · subst h; simp
        · rw [decide_eq_false (fun z => h (Option.some.inj z))]; exact beq_eq_false_iff_ne.mpr h
      rw [← e]; exact this
noncomputable def IsP (H : Hp) (v : V) (p : List Str) : Prop := ∃ a, v = .ref a ∧ H a = some (.tup (pV p))
theorem IsP.same {H H' : Hp} {v : V} {p : List Str} (h : IsP H v p) (s : Same H H') : IsP H' v p := by
  obtain ⟨a, e, q⟩ := h
  exact ⟨a, e, s _ _ q⟩
theorem IsP.inj {H : Hp} {v : V} {p q : List Str} (h : IsP H v p) (h' : IsP H v q) : p = q := by
  obtain ⟨a, rfl, e⟩ := h
  obtain ⟨b, e', e2⟩ := h'
  cases e'
  rw [e] at e2
  injection e2 with e2
  injection e2 with e2
  unfold pV at e2
  exact (List.map_inj_right (fun _ _ z => by injection z)).mp e2
theorem EqV.path {k : Nat} {H : Hp} {x y : V} {p q : List Str} (hx : IsP H x p) (hy : IsP H y q) : EqV X (k + 1) H x y (decide (p = q)) := by
  obtain ⟨a, rfl, ha⟩ := id hx
  obtain ⟨b, rfl, hb⟩ := id hy
  have z := EqV.tup (X := X) (k := k) ha hb (path_items p q) (fun e => by
    subst e
    have : p = q := hx.inj hy
    subst this
    unfold pV; rw [List.length_map, eqL_path]; simp)
  unfold pV at z
  rw [List.length_map, List.length_map, eqL_path] at z
  exact z
noncomputable def clsVal : V → Option Value
  | .ty n => some (.type n)
  | .ref C => some (.ref C)
  | _ => none
noncomputable def rIsi (K : PySem.W.Frag) : List V → Hp → VK → Prop := fun xs H Q => ∃ x c t cv b, xs = [x, c] ∧ TyOf K H x t ∧ clsVal c = some cv ∧ PySem.W.kitOne K t cv = some b ∧ Q (.bl b) H
theorem call_isinst : CallR X (.builtin "isinstance") (rIsi X.K) := by
  intro pins s σ H xs us Q I r h
  obtain ⟨x, c, t, cv, b, rfl, ty, hc, hk, q⟩ := h
  obtain ⟨u, w', rfl, r1, r2⟩ := vals2 r
  have e : w' = cv := by
    cases c with
    | ty n => cases hc; exact r2
    | ref C => cases hc; exact r2
    | _ => cases hc
  subst e
  exact isinst_ok I r1 ty hk fun tk => ⟨.bl b, H, I.tok _, rfl, q⟩
end
end L2

set_option Elab.async false
set_option linter.all false
set_option maxRecDepth 100000
namespace L2
open PySem PySem.Spec PyProof.Rows

section
variable {σ : St} {H : Hp} {Q : VK} {D : Ends} {K : PySem.W.Frag} {ta tb tc te : TE} {v : V} {i : Nat}
theorem wp_var (h1 : σ[i]? = some (some v)) (h : Q v H) : tVar i σ H Q := ⟨v, h1, h⟩
theorem wp_c (h : Q v H) : tC v σ H Q := h
theorem wp_op {r : R2} (h : ta σ H fun x H1 => tb σ H1 fun y H2 => r x y H2 Q) : tOp r ta tb σ H Q := h
theorem wp_un {r : V → Hp → VK → Prop} (h : ta σ H fun x H1 => r x H1 Q) : tUn r ta σ H Q := h
theorem wp_rU {g : Int → V} {j : Int} (h : Q (g j) H) : rU g (.int j) H Q := ⟨j, rfl, h⟩
theorem wp_rI0 {g : Int → Int → V} {j k : Int} (h : Q (g j k) H) : rI0 g (.int j) (.int k) H Q := ⟨j, k, rfl, rfl, h⟩
theorem wp_rI {C : Int → Int → Prop} {g : Int → Int → V} {j k : Int} (hc : C j k) (h : Q (g j k) H) : rI C g (.int j) (.int k) H Q := ⟨j, k, rfl, rfl, hc, h⟩
theorem wp_rEqI {j k : Int} (h : Q (.bl (decide (j = k))) H) : rEq (.int j) (.int k) H Q := ⟨rfl, by
  have e : decide (V.int j = V.int k) = decide (j = k) := by rw [dec_int]; by_cases z : j = k <;> simp [z]
  rw [e]; exact h⟩
theorem wp_rNeI {j k : Int} (h : Q (.bl (!decide (j = k))) H) : rNe (.int j) (.int k) H Q := ⟨rfl, by
  have e : decide (V.int j = V.int k) = decide (j = k) := by rw [dec_int]; by_cases z : j = k <;> simp [z]
  rw [e]; exact h⟩
theorem wp_test {Q : Bool → Hp → Prop} (h : te σ H fun x H' => ∃ k, x = .bl k ∧ Q k H') : tTest te σ H Q := h
theorem wp_tB {Q : Bool → Hp → Prop} (h : te σ H fun x H' => ∃ k, x = .bl k ∧ Q k H') : tB te σ H Q := h
theorem wp_bl {b : Bool} {P : Bool → Prop} (h : P b) : ∃ k, V.bl b = .bl k ∧ P k := ⟨b, rfl, h⟩
theorem wp_and {t u : TT} {Q : Bool → Hp → Prop} (h : t σ H fun c H1 => if c = true then u σ H1 Q else Q false H1) : tAnd t u σ H Q := h
theorem wp_or {t u : TT} {Q : Bool → Hp → Prop} (h : t σ H fun c H1 => if c = true then Q true H1 else u σ H1 Q) : tOr t u σ H Q := h
theorem wp_not {t : TT} {Q : Bool → Hp → Prop} (h : t σ H fun c H1 => Q (!c) H1) : tNot t σ H Q := h
theorem wp_andV (h : ta σ H fun x H1 => ∃ c, x = .bl c ∧ if c = true then tb σ H1 Q else Q (.bl false) H1) : tAndV ta tb σ H Q := h
theorem wp_notV (h : ta σ H fun x H1 => ∃ c, x = .bl c ∧ Q (.bl (!c)) H1) : tNotV ta σ H Q := h
theorem wp_seq {t u : TS} (h : t { D with nx := u D } σ H) : tSeq t u D σ H := h
theorem wp_next (h : D.nx σ H) : tNext D σ H := h
theorem wp_drop (h : te σ H fun _ H1 => D.nx σ H1) : tDrop te D σ H := h
theorem wp_ret (h : te σ H D.rt) : tRet te D σ H := h
theorem wp_ifS {c : TT} {t u : TS} (h : c σ H fun b H1 => if b = true then t D σ H1 else u D σ H1) : tIfS c t u D σ H := h
theorem wp_asg {g : TG} (h : te σ H fun x H1 => g x σ H1 D.nx) : tAsg te g D σ H := h
theorem wp_name {R : St → Hp → Prop} (h : R (σ.set i (some v)) H) : gName i v σ H R := h
theorem wp_chain {r r' : R2} (h : ta σ H fun x H1 => tb σ H1 fun y H2 => r x y H2 fun z H3 => ∃ k, z = .bl k ∧ (if k = true then tc σ H3 fun w' H4 => r' y w' H4 Q else Q (.bl false) H3)) : tChain r r' ta tb tc σ H Q := h
theorem wp_nil {R : List V → Hp → Prop} (h : R [] H) : tNil σ H R := h
theorem wp_cons {tr : TA} {R : List V → Hp → Prop} (h : ta σ H fun x H1 => tr σ H1 fun xs H2 => R (x :: xs) H2) : tCons ta tr σ H R := h
noncomputable def tupK (xs : List V) (H : Hp) (Q : VK) : Prop := xs.length ≤ sizeLine ∧ ∀ p, H p = none → Q (.ref p) (upd H p (.tup xs))
noncomputable def lstK (xs : List V) (H : Hp) (Q : VK) : Prop := xs.length ≤ sizeLine ∧ ∀ p, H p = none → Q (.ref p) (upd H p (.lst xs))
theorem wp_tup {t : TA} (h : t σ H fun xs H1 => tupK xs H1 Q) : tTup t σ H Q := h
theorem wp_lst {t : TA} (h : t σ H fun xs H1 => lstK xs H1 Q) : tLst t σ H Q := h
theorem wp_tupP {xs : List Str} (hz : xs.length ≤ 1000) (h : ∀ (z : V) (r : List Str) H', r = xs → r.length = xs.length → Same H H' → IsP H' z r → Q z H') : tupK (pV xs) H Q :=
  ⟨by unfold pV; rw [List.length_map]; exact Nat.le_of_lt (small1000 hz), fun p hp => h _ _ _ rfl rfl (Same.upd hp) ⟨p, rfl, upd_same⟩⟩
theorem wp_tupP0 (h : ∀ (z : V) H', Same H H' → IsP H' z [] → Q z H') : tupK [] H Q := wp_tupP (xs := []) (by decide) fun z r H' e _ hs hz => h z H' hs (by rw [← e]; exact hz)
theorem wp_cB {r : List V → Hp → VK → Prop} {t : TA} (h : t σ H fun vs H1 => r vs H1 Q) : tCB r t σ H Q := h
theorem wp_part {R : Option Int → Hp → Prop} (h : te σ H fun x H1 => ∃ i, x = .int i ∧ R (some i) H1) : tPart te σ H R := h
theorem wp_int {b : Int} {P : Int → Prop} (h : P b) : ∃ k, V.int b = .int k ∧ P k := ⟨b, rfl, h⟩
theorem wp_sl {r : V → Option Int → Option Int → Hp → VK → Prop} {tl th : TO} (h : te σ H fun x H1 => tl σ H1 fun l H2 => th σ H2 fun u H3 => r x l u H3 Q) : tSl r te tl th σ H Q := h
noncomputable def tLoop (g : TG) (tb : TS) (D : Ends) (σ : St) (J : It) (H1 : Hp) : Prop := ∃ W : Nat → Nat → St → Hp → Prop, (∃ m, W 0 m σ H1) ∧ ∀ i m σ H, W i m σ H →
  (J.stop i H ∧ D.nx σ H) ∨ (J.go i H ∧ ∃ N : St → Hp → Prop, (∀ σ' H', N σ' H' → ∃ m', m' < m ∧ W (i + 1) m' σ' H') ∧ ∀ x H', J.yld i H x H' → g x σ H' fun σ2 H2 => tb { D with nx := N, ct := N, bk := D.nx } σ2 H2)
theorem wp_for {wi : TI} {g : TG} {tb : TS} (h : wi σ H (tLoop g tb D σ)) : tFor wi g tb D σ H := h
theorem loop_range {lo : Int} {n : Nat} {g : TG} {tb : TS} (Pv : Nat → St → Hp → Prop) (h0 : Pv 0 σ H)
    (hs : ∀ i σ H, i < n → Pv i σ H → g (.int (lo + i)) σ H fun σ2 H2 => tb { D with nx := Pv (i + 1), ct := Pv (i + 1), bk := D.nx } σ2 H2) (hd : ∀ σ H, Pv n σ H → D.nx σ H) : tLoop g tb D σ (Itr lo n) H := for_range Pv h0 hs hd
theorem loop_list {a : Addr} {xs : List V} {g : TG} {tb : TS} (Pv : Nat → St → Hp → Prop) (h0 : Pv 0 σ H) (hl : ∀ i σ H, i ≤ xs.length → Pv i σ H → SqL K H a xs)
    (hs : ∀ i x σ H, xs[i]? = some x → Pv i σ H → g x σ H fun σ2 H2 => tb { D with nx := Pv (i + 1), ct := Pv (i + 1), bk := D.nx } σ2 H2) (hd : ∀ σ H, Pv xs.length σ H → D.nx σ H) : tLoop g tb D σ (Itl K a) H := for_list Pv h0 hl hs hd
theorem wp_rng1 {t : TA} {R : It → Hp → Prop} (h : t σ H fun vs H1 => ∃ j : Int, vs = [.int j] ∧ -(2 ^ 62) ≤ j ∧ j < 2 ^ 62 ∧ R (Itr 0 j.toNat) H1) : iRng1 t σ H R := h
theorem wp_rng1' {R : It → Hp → Prop} {j : Int} (h1 : -(2 ^ 62) ≤ j) (h2 : j < 2 ^ 62) (h : R (Itr 0 j.toNat) H) : ∃ k : Int, [V.int j] = [V.int k] ∧ -(2 ^ 62) ≤ k ∧ k < 2 ^ 62 ∧ R (Itr 0 k.toNat) H := ⟨j, rfl, h1, h2, h⟩
theorem wp_list {tl : TE} {R : It → Hp → Prop} (h : tl σ H fun x H1 => ∃ a, x = .ref a ∧ (∃ xs, SqL K H1 a xs) ∧ R (Itl K a) H1) : iList K tl σ H R := h
theorem wp_iteP {p A B : Prop} {inst : Decidable p} (h1 : p → A) (h2 : ¬ p → B) : if decide p = true then A else B := by
  by_cases h : p
  · rw [decide_eq_true h]; exact iteT (h1 h)
  · rw [decide_eq_false h]; exact iteF (h2 h)
theorem wp_iteN {p A B : Prop} {inst : Decidable p} (h1 : ¬ p → A) (h2 : p → B) : if (!decide p) = true then A else B := by
  by_cases h : p
  · rw [decide_eq_true h]; exact iteF (h2 h)
  · rw [decide_eq_false h]; exact iteT (h1 h)
theorem wp_iteB {b : Bool} {A B : Prop} (h1 : b = true → A) (h2 : b = false → B) : if b = true then A else B := by
  cases b
  · exact iteF (h2 rfl)
  · exact iteT (h1 rfl)
theorem wp_iteNB {b : Bool} {A B : Prop} (h1 : b = false → A) (h2 : b = true → B) : if (!b) = true then A else B := by
  cases b
  · exact iteT (h1 rfl)
  · exact iteF (h2 rfl)
theorem atI_some {α : Type} {xs : List α} {j : Int} (h0 : 0 ≤ j) (h1 : j < xs.length) : ∃ v, atI xs j = some v := by
  have hl : j.toNat < xs.length := by omega
  refine ⟨xs[j.toNat], ?_⟩
  unfold atI ixN
  rw [if_pos h0, if_pos h1]
  simp [hl]
end
structure Fn (K : PySem.W.Frag) (mg : Str → Option Value) (x : Str) (st : Stmt) (ps : List Str) : Prop where
  ex : ∃ f fd, Fun K x x st f fd ∧ mg x = some (.ref f) ∧ Binds K fd ps []
structure FnAll (P : Program) (w : World) (K : PySem.W.Frag) (mg : Str → Option Value) (base : Heap) (x : Str) (k : Nat) (ps : List Str) (sp : Sp) : Prop where
  ex : ∃ f fd, FnOk P w K mg base CX0 k f fd ps sp ∧ mg x = some (.ref f) ∧ PySem.W.keepIn K (.ref f) = true ∧ Binds K fd ps []
section
variable {P : Program} {w : World} {K : PySem.W.Frag} {mg : Str → Option Value} {base : Heap}
theorem Fn.ok {x : Str} {st : Stmt} {N ps : List Str} {k : Nat} {sp : Sp} (F : Fn K mg x st ps) (S : FnScope N ps (defScope st)) (len : ∀ vs H Q E, sp vs H Q E → vs.length = ps.length)
    (hbody : ∀ (f : Addr) (cdv : Value) (A : Around) (outer : List Env) (s : Shared) (H : Hp) (vs : List V) (Q : VK) (E : XK), Room k (A.deeper (envOfC x (defScope st) s.heap.objs.size f cdv)) → sp vs H Q E →
      ∃ t, PSs (cxOf CX0 P w K mg base N x (defScope st) f cdv A outer s H E).nox (defBody st) t ∧ t { nx := fun _ H' => Q .non H', rt := Q } (start N vs) H) : FnAll P w K mg base x (k + 1) ps sp := by
  obtain ⟨f, fd, F, hm, hb⟩ := F.ex
  exact ⟨f, fd, F.ok S len (fun cdv A outer s H vs Q E hr h => hbody f cdv A outer s H vs Q E hr h), hm, F.kp, hb⟩
end
section
variable {X : Cx} {x : Str} {k n : Nat} {ps : List Str} {sp : Sp} {e : Expr} {es : List Expr} {t : TA} {p pos : Pos}
noncomputable def tCall0 (sp : Sp) (t : TA) : TE := fun σ H Q => t σ H fun vs H1 => sp vs H1 Q E0
theorem pe_callF (F : FnAll X.prog X.w X.K X.mg X.base x k ps sp) (hr : Room n X.A) (ha : PA X (e :: es) t) (hk : k ≤ n := by decide) (hg : Gl X x := by rfl) (hdb : (x == ("__debug__" : Str)) = false := by decide)
    (he : starEach (e :: es) X.env = (false, eval e X.env) :: starEach es X.env := by rfl) (hpl : (backTo pos (starEach es X.env)).any (·.1) = false := by rfl) : PE X (.Call (.Name x p) (e :: es) [] pos) (tCall0 sp t) := by
  obtain ⟨f, fd, G, hm, hkp, hb⟩ := F.ex
  intro pins s σ H Q I h
  refine pe_call G (hr.mono hk) hg hm hkp hb .nil pass0 ha hdb he hpl pins s σ H Q I ?_
  have z : tCall sp [] E0 t = tCall0 sp t := by
    unfold tCall tCall0
    funext σ H Q
    congr 1
    funext vs H1
    rw [List.append_nil]
  rw [z]; exact h
theorem wp_call {σ : St} {H : Hp} {Q : VK} (h : t σ H fun vs H1 => sp vs H1 Q E0) : tCall0 sp t σ H Q := h
end
end L2

set_option Elab.async false
set_option linter.all false
set_option maxRecDepth 100000
set_option maxHeartbeats 0
namespace L2
open PySem PySem.Spec PyProof.Rows

structure MethAll (P : Program) (w : World) (K : PySem.W.Frag) (mg : Str → Option Value) (base : Heap) (C : Addr) (m : Str) (k : Nat) (ps : List Str) (sp : Sp) : Prop where
  ex : ∃ f fd, Cls K C ∧ Meth K C m f ∧ FnOk P w K mg base CX0 k f fd ps sp ∧ Binds K fd ps []
structure MkAll (P : Program) (w : World) (K : PySem.W.Frag) (mg : Str → Option Value) (base : Heap) (x : Str) (C : Addr) (k : Nat) (ps : List Str) (sp : Sp) : Prop where
  ex : ∃ f fd, Mk K C f ∧ FnOk P w K mg base CX0 k f fd ps sp ∧ Binds K fd ps [] ∧ mg x = some (.ref C)
structure Mt (K : PySem.W.Frag) (C : Addr) (x qual : Str) (st : Stmt) (ps : List Str) : Prop where
  ex : ∃ f fd, Fun K x qual st f fd ∧ PySem.W.findIn K (.ref C) x = some (some (.ref f)) ∧ PySem.W.isFn K (.ref f) = true ∧ Binds K fd ps []
noncomputable def methK (ok : Addr → Prop) (m : Str) (sp : Addr → Sp) (t : TA) (x : V) (σ : St) (H1 : Hp) (Q : VK) : Prop := ∃ a C dx fs, x = .ref a ∧ H1 a = some (.ins C dx fs) ∧ ok C ∧ fs.lookup m = none ∧ t σ H1 fun vs H2 => sp C (x :: vs) H2 Q E0
noncomputable def tMethD (ok : Addr → Prop) (m : Str) (sp : Addr → Sp) (ta : TE) (t : TA) : TE := fun σ H Q => ta σ H fun x H1 => methK ok m sp t x σ H1 Q
noncomputable def mkK (C : Addr) (sp : Sp) (vs : List V) (H : Hp) (Q : VK) : Prop := ∀ x dx, H x = none → H dx = none → dx ≠ x → sp (.ref x :: vs) (upd (upd H dx (.own x)) x (.ins C dx [])) (fun v H2 => v = .non ∧ Q (.ref x) H2) E0
noncomputable def tMake0 (C : Addr) (sp : Sp) (t : TA) : TE := fun σ H Q => t σ H fun vs H1 => mkK C sp vs H1 Q
section
variable {P : Program} {w : World} {K : PySem.W.Frag} {mg : Str → Option Value} {base : Heap}
theorem Mt.ok {C : Addr} {x qual : Str} {st : Stmt} {N ps : List Str} {k : Nat} {sp : Sp} (F : Mt K C x qual st ps) (c : Cls K C) (S : FnScope N ps (defScope st)) (len : ∀ vs H Q E, sp vs H Q E → vs.length = ps.length)
    (hbody : ∀ (f : Addr) (cdv : Value) (A : Around) (outer : List Env) (s : Shared) (H : Hp) (vs : List V) (Q : VK) (E : XK), Room k (A.deeper (envOfC qual (defScope st) s.heap.objs.size f cdv)) → sp vs H Q E →
      ∃ t, PSs (cxOf CX0 P w K mg base N qual (defScope st) f cdv A outer s H E).nox (defBody st) t ∧ t { nx := fun _ H' => Q .non H', rt := Q } (start N vs) H) : MethAll P w K mg base C x (k + 1) ps sp := by
  obtain ⟨f, fd, F, hf, hi, hb⟩ := F.ex
  exact ⟨f, fd, c, ⟨hf, hi, F.kp⟩, F.ok S len (fun cdv A outer s H vs Q E hr h => hbody f cdv A outer s H vs Q E hr h), hb⟩
theorem MethAll.make {x : Str} {C : Addr} {k : Nat} {ps : List Str} {sp : Sp} (M : MethAll P w K mg base C "__init__" k ps sp) (hm : PySem.W.makesIn K C = true) (kp : PySem.W.keepIn K (.ref C) = true) (hg : mg x = some (.ref C)) : MkAll P w K mg base x C k ps sp := by
  obtain ⟨f, fd, c, m, G, b⟩ := M.ex
  exact ⟨f, fd, ⟨hm, m.at_, m.fn, kp⟩, G, b, hg⟩
end
section
variable {X : Cx} {ok : Addr → Prop} {m : Str} {k n : Nat} {ps : List Str} {sp : Sp} {spC : Addr → Sp} {o e : Expr} {es : List Expr} {t : TA} {ta : TE} {p pos apos : Pos} {x : Str} {C : Addr}
theorem pe_methD {pl : Sem Bool} (hok : ∀ C, ok C → MethAll X.prog X.w X.K X.mg X.base C m k ps (spC C)) (hr : Room n X.A) (he : PE X o ta) (ha : PA X (e :: es) t) (hk : k ≤ n := by decide)
    (hst : starEach (e :: es) X.env = (false, eval e X.env) :: starEach es X.env := by rfl) (hpl : (backTo pos (starEach es X.env)).any (·.1) = false := by rfl)
    (ht : eval (.Call (.Attribute o m apos) (e :: es) [] pos) X.env = (do
      let ov ← eval o X.env
      standAt apos.atName
      let (f, first) ← holding [ov] (getMethod ov m pl)
      callWith pos f first (backTo pos (starEach (e :: es) X.env)) (backToKw pos (keywordEach [] X.env))) := by rfl) :
    PE X (.Call (.Attribute o m apos) (e :: es) [] pos) (tMethD ok m spC ta t) := by
  intro pins s σ H Q I h
  refine PySem.W.methodCall_KW (pl := pl) (thn (he pins s σ H _ I h) fun u s1 hzz => ?_) ht
  obtain ⟨x, H1, I1, rx, a, C, dx, fs, ex, ea, hC, l, q⟩ := hzz
  subst ex
  obtain rfl : u = Value.ref a := rx
  obtain ⟨f, fd, c, hm, F, hb⟩ := (hok C hC).ex
  refine getmeth_ok I1 ea c hm l ?_
  refine PySem.W.callWith_K (first := [.ref a]) (h₀ := X.base) I.ok.mod.kin hm.kp (thn (ha pos pins s1 σ H1 _ I1 q) fun us s2 ⟨vs, H2, I2, r, q2⟩ => ⟨I2.kIn, ?_⟩) hst hpl
  exact run_fn (us := .ref a :: us) (vs := .ref a :: vs) (dvs := []) F (hr.mono hk) hb .nil pass0 I2 (.cons rfl r) (by rw [List.append_nil]; exact q2)
theorem pe_methD0 {pl : Sem Bool} (hok : ∀ C, ok C → MethAll X.prog X.w X.K X.mg X.base C m k ps (spC C)) (hr : Room n X.A) (he : PE X o ta) (hk : k ≤ n := by decide)
    (ht : eval (.Call (.Attribute o m apos) [] [] pos) X.env = (do
      let ov ← eval o X.env
      standAt apos.atName
      let (f, first) ← holding [ov] (getMethod ov m pl)
      callWith pos f first (backTo pos (starEach [] X.env)) (backToKw pos (keywordEach [] X.env))) := by rfl) :
    PE X (.Call (.Attribute o m apos) [] [] pos) (tMethD ok m spC ta tNil) := by
  intro pins s σ H Q I h
  refine PySem.W.methodCall_KW (pl := pl) (thn (he pins s σ H _ I h) fun u s1 hzz => ?_) ht
  obtain ⟨x, H1, I1, rx, a, C, dx, fs, ex, ea, hC, l, q⟩ := hzz
  subst ex
  obtain rfl : u = Value.ref a := rx
  obtain ⟨f, fd, c, hm, F, hb⟩ := (hok C hC).ex
  refine getmeth_ok I1 ea c hm l ?_
  exact PySem.W.callWith_K0 (first := [.ref a]) I1.kIn hm.kp (run_fn (us := [.ref a]) (vs := [.ref a]) (dvs := []) F (hr.mono hk) hb .nil pass0 I1 (.cons rfl .nil) q)
theorem pe_makeF (M : MkAll X.prog X.w X.K X.mg X.base x C k ps sp) (hr : Room n X.A) (ha : PA X (e :: es) t) (hk : k + 1 ≤ n := by decide) (hg : Gl X x := by rfl) (hdb : (x == ("__debug__" : Str)) = false := by decide)
    (he : starEach (e :: es) X.env = (false, eval e X.env) :: starEach es X.env := by rfl) (hpl : (backTo pos (starEach es X.env)).any (·.1) = false := by rfl) : PE X (.Call (.Name x p) (e :: es) [] pos) (tMake0 C sp t) := by
  obtain ⟨f, fd, M, G, b, hm⟩ := M.ex
  intro pins s σ H Q I h
  refine pe_make M G (hr.mono hk) hg hm b .nil pass0 ha hdb he hpl pins s σ H Q I ?_
  have z : tMake C sp [] E0 t = tMake0 C sp t := by
    unfold tMake tMake0 mkK
    funext σ H Q
    congr 1
    funext vs H1
    rw [List.append_nil]
  rw [z]; exact h
end
section
variable {σ : St} {H : Hp} {Q : VK} {D : Ends} {K : PySem.W.Frag} {ta tb te : TE} {v : V} {i : Nat} {C a dx : Addr} {fs : List (Str × V)} {f : Str}
theorem wp_make {sp : Sp} {t : TA} (h : t σ H fun vs H1 => mkK C sp vs H1 Q) : tMake0 C sp t σ H Q := h
theorem wp_methD {ok : Addr → Prop} {m : Str} {sp : Addr → Sp} {t : TA} (h : ta σ H fun x H1 => methK ok m sp t x σ H1 Q) : tMethD ok m sp ta t σ H Q := h
noncomputable def fldK (K : PySem.W.Frag) (f : Str) (x : V) (H : Hp) (Q : VK) : Prop := ∃ a C dx fs v, x = .ref a ∧ H a = some (.ins C dx fs) ∧ Cls K C ∧ NoAttr K C f ∧ fs.lookup f = some v ∧ Q v H
theorem wp_fld (h : ta σ H fun x H1 => fldK K f x H1 Q) : tFld K ta f σ H Q := h
theorem wp_fldK (ha : H a = some (.ins C dx fs)) (c : Cls K C) (n : NoAttr K C f) (l : fs.lookup f = some v) (h : Q v H) : fldK K f (.ref a) H Q := ⟨a, C, dx, fs, v, rfl, ha, c, n, l, h⟩
noncomputable def sfK (K : PySem.W.Frag) (f : Str) (x y : V) (H : Hp) (R : Hp → Prop) : Prop := ∃ a C dx fs, x = .ref a ∧ H a = some (.ins C dx fs) ∧ Cls K C ∧ NoAttr K C f ∧ fs.length < 1000 ∧ R (upd H a (.ins C dx (putF f y fs)))
theorem wp_sfld (h : tb σ H fun y H1 => ta σ H1 fun x H2 => sfK K f x y H2 (D.nx σ)) : sFld K ta tb f D σ H := h
theorem wp_sfK {y : V} {R : Hp → Prop} (ha : H a = some (.ins C dx fs)) (c : Cls K C) (n : NoAttr K C f) (l : fs.length < 1000) (h : R (upd H a (.ins C dx (putF f y fs)))) : sfK K f (.ref a) y H R := ⟨a, C, dx, fs, rfl, ha, c, n, l, h⟩
theorem at_same {H H' : Hp} {a : Addr} {o : HO} (h : H a = some o) (s : Same H H') : H' a = some o := s _ _ h
noncomputable def spInit (C : Addr) (names : List Str) : Sp := fun vs H Q _ => ∃ (x dx : Addr) (us : List V), vs = .ref x :: us ∧ us.length = names.length ∧ H x = some (.ins C dx []) ∧ ∀ H', H' x = some (.ins C dx (names.zip us)) → (∀ b, b ≠ x → H' b = H b) → Q .non H'
theorem mk_use {names : List Str} {us : List V} (hl : us.length = names.length) (h : ∀ x dx H', Same H H' → H' x = some (.ins C dx (names.zip us)) → Q (.ref x) H') : mkK C (spInit C names) us H Q := by
  intro x dx hx hdx hne
  refine ⟨x, dx, us, rfl, hl, upd_same, fun H' e1 e2 => ⟨rfl, h x dx H' (fun b o e => ?_) e1⟩⟩
  rw [e2 b (ne_of_none e hx), upd_ne (ne_of_none e hx), upd_ne (ne_of_none e hdx)]
  exact e
end
section
variable {P : Program} {w : World} {K : PySem.W.Frag} {mg : Str → Option Value} {base : Heap} {C : Addr}
end

structure Cl where
  deed : Addr
  put : Addr
  cut : Addr
  set : Addr
  move : Addr
inductive DD where
  | put (p : List Str) (n : Int) | cut (p : List Str) (n : Int) | set (p : List Str) (n m : Int) | move (p q : List Str)
  deriving DecidableEq
noncomputable def DD.cls (c : Cl) : DD → Addr
  | .put _ _ => c.put
  | .cut _ _ => c.cut
  | .set _ _ _ => c.set
  | .move _ _ => c.move
noncomputable def DD.flds (x y : V) : DD → List (Str × V)
  | .put _ n => [("path", x), ("number", .int n)]
  | .cut _ n => [("path", x), ("number", .int n)]
  | .set _ n m => [("path", x), ("old", .int n), ("new", .int m)]
  | .move _ _ => [("path", x), ("goal", y)]
noncomputable def DD.tl (x y : V) : DD → List V
  | .put _ n => [.str "put", x, .int n]
  | .cut _ n => [.str "cut", x, .int n]
  | .set _ n m => [.str "set", x, .int n, .int m]
  | .move _ _ => [.str "move", x, y]
noncomputable def DD.holds (H : Hp) (x y : V) : DD → Prop
  | .put p _ => IsP H x p
  | .cut p _ => IsP H x p
  | .set p _ _ => IsP H x p
  | .move p q => IsP H x p ∧ IsP H y q
theorem DD.holds_same {H H' : Hp} {x y : V} {d : DD} (h : d.holds H x y) (s : Same H H') : d.holds H' x y := by
  cases d with
  | put p n => exact IsP.same h s
  | cut p n => exact IsP.same h s
  | set p n m => exact IsP.same h s
  | move p q => exact ⟨IsP.same h.1 s, IsP.same h.2 s⟩
noncomputable def IsD (c : Cl) (H : Hp) (v : V) (d : DD) : Prop := ∃ a dx x y, v = .ref a ∧ H a = some (.ins (d.cls c) dx (d.flds x y)) ∧ d.holds H x y
noncomputable def IsT (H : Hp) (v : V) (d : DD) : Prop := ∃ a x y, v = .ref a ∧ H a = some (.tup (d.tl x y)) ∧ d.holds H x y
theorem IsD.same {c : Cl} {H H' : Hp} {v : V} {d : DD} (h : IsD c H v d) (s : Same H H') : IsD c H' v d := by
  obtain ⟨a, dx, x, y, e, q, r⟩ := h
  exact ⟨a, dx, x, y, e, s _ _ q, DD.holds_same r s⟩
theorem IsT.same {H H' : Hp} {v : V} {d : DD} (h : IsT H v d) (s : Same H H') : IsT H' v d := by
  obtain ⟨a, x, y, e, q, r⟩ := h
  exact ⟨a, x, y, e, s _ _ q, DD.holds_same r s⟩
section
variable {σ : St} {H : Hp} {Q : VK} {c : Cl} {K : PySem.W.Frag}
theorem mk_set {x : V} {p : List Str} {n m : Int} (hx : IsP H x p) (h : ∀ z H', Same H H' → IsD c H' z (.set p n m) → Q z H') : mkK c.set (spInit c.set ["path", "old", "new"]) [x, .int n, .int m] H Q :=
  mk_use rfl fun a dx H' hs e => h _ H' hs ⟨a, dx, x, .non, rfl, e, hx.same hs⟩
theorem tupK_new {xs : List V} (hz : xs.length ≤ 1000) (h : ∀ a H', Same H H' → H' a = some (.tup xs) → Q (.ref a) H') : tupK xs H Q :=
  ⟨Nat.le_of_lt (small1000 hz), fun p hp => h p _ (Same.upd hp) upd_same⟩
theorem wp_tset {x : V} {p : List Str} {n m : Int} (hx : IsP H x p) (h : ∀ z H', Same H H' → IsT H' z (.set p n m) → Q z H') : tupK [.str "set", x, .int n, .int m] H Q :=
  tupK_new (by show 4 ≤ 1000; decide) fun a H' hs e => h _ H' hs ⟨a, x, .non, rfl, e, hx.same hs⟩
theorem wp_ixT {a : Addr} {xs : List V} {j : Int} {v : V} (ha : H a = some (.tup xs)) (hv : atI xs j = some v) (h : Q v H) : rIxT K (.ref a) (.int j) H Q := ⟨a, xs, j, v, rfl, rfl, .inl (.inl ha), hv, h⟩
end

section
variable {σ : St} {H : Hp} {Q : VK} {c : Cl} {K : PySem.W.Frag} {v : V} {d : DD}
end
structure CF (K : PySem.W.Frag) (C : Addr) : Prop where
  cl : Cls K C
  ha : PySem.W.findIn K (.ref C) "__class__" = some (some (.builtin "object.__class__"))
  hn : PySem.W.specialIn K (.builtin "object.__class__") "__get__" = some (some (.builtin "getset_descriptor.__get__"))
  tk : PySem.W.takesIn K (.builtin "object.__class__") = some true
  hm : PySem.W.mroIn K C (.type "object") = some true
section
variable {σ : St} {H : Hp} {Q : VK} {c : Cl} {K : PySem.W.Frag} {v : V} {d : DD} {X : Cx}
theorem wp_lstN {xs : List V} (hz : xs.length ≤ 1000) (h : ∀ a H', Same H H' → H' a = some (.lst xs) → Q (.ref a) H') : lstK xs H Q := ⟨Nat.le_of_lt (small1000 hz), fun p hp => h p _ (Same.upd hp) upd_same⟩
theorem wp_isiII {n : Int} (hk : PySem.W.kitOne K (.type "int") (.type "int") = some true) (h : Q (.bl true) H) : rIsi K [.int n, .ty "int"] H Q := ⟨_, _, _, _, true, rfl, .int n, rfl, hk, h⟩
theorem wp_isiIB {n : Int} (hk : PySem.W.kitOne K (.type "int") (.type "bool") = some false) (h : Q (.bl false) H) : rIsi K [.int n, .ty "bool"] H Q := ⟨_, _, _, _, false, rfl, .int n, rfl, hk, h⟩
noncomputable def rLenQ (K : PySem.W.Frag) : List V → Hp → VK → Prop := fun xs H Q => ∃ p ys, xs = [.ref p] ∧ (SqL K H p ys ∨ SqT K H p ys) ∧ Q (.int ys.length) H
theorem call_lenQ : CallR X (.builtin "len") (rLenQ X.K) := call_len_seq
end

noncomputable def SameX (l : Addr) (H H' : Hp) : Prop := ∀ b o, b ≠ l → H b = some o → H' b = some o
theorem SameX.upd {l : Addr} {H : Hp} {o : HO} : SameX l H (upd H l o) := fun b u hb e => by rw [upd_ne hb]; exact e
theorem Same.x {l : Addr} {H H' : Hp} (h : Same H H') : SameX l H H' := fun b o _ e => h b o e
section
variable {l : Addr} {H H' : Hp} {xs : List V} {v : V} {d : DD} {c : Cl}
theorem IsP.sameX {p : List Str} (h : IsP H v p) (hl : H l = some (.lst xs)) (s : SameX l H H') : IsP H' v p := by
  obtain ⟨a, e, q⟩ := h
  exact ⟨a, e, s a _ (ne_of q hl (by intro z; cases z)) q⟩
theorem DD.holdsX {x y : V} (h : d.holds H x y) (hl : H l = some (.lst xs)) (s : SameX l H H') : d.holds H' x y := by
  cases d with
  | put p n => exact IsP.sameX h hl s
  | cut p n => exact IsP.sameX h hl s
  | set p n m => exact IsP.sameX h hl s
  | move p q => exact ⟨IsP.sameX h.1 hl s, IsP.sameX h.2 hl s⟩
theorem IsT.sameX (h : IsT H v d) (hl : H l = some (.lst xs)) (s : SameX l H H') : IsT H' v d := by
  obtain ⟨a, x, y, e, q, r⟩ := h
  exact ⟨a, x, y, e, s a _ (ne_of q hl (by intro z; cases z)) q, DD.holdsX r hl s⟩
theorem IsD.sameX (h : IsD c H v d) (hl : H l = some (.lst xs)) (s : SameX l H H') : IsD c H' v d := by
  obtain ⟨a, dx, x, y, e, q, r⟩ := h
  exact ⟨a, dx, x, y, e, s a _ (ne_of q hl (by intro z; cases z)) q, DD.holdsX r hl s⟩
end

theorem wp_bm {σ : St} {H : Hp} {Q : VK} {K : PySem.W.Frag} {T : String} {r : V → List V → Hp → VK → Prop} {to : TE} {t : TA} (h : to σ H fun x H1 => tyV K T x H1 ∧ t σ H1 fun xs H2 => r x xs H2 Q) : tBM K T r to t σ H Q := h
theorem SameX.trans {l : Addr} {H H1 H2 : Hp} (a : SameX l H H1) (b : SameX l H1 H2) : SameX l H H2 := fun c o hc h => b c o hc (a c o hc h)
theorem SameX.refl (l : Addr) (H : Hp) : SameX l H H := fun _ _ _ h => h
end L2

set_option Elab.async false
set_option linter.all false
set_option maxRecDepth 100000
set_option maxHeartbeats 0
namespace L2
open PySem PySem.Spec PyProof.Rows
theorem hu16 {A : Around} {k : Nat} (hr : Room k A) : A.units + 16 < cLine := Nat.lt_of_le_of_lt (Nat.add_le_add_left (by decide : 16 ≤ 64) _) hr.units
noncomputable def spNumber : Sp := fun vs H Q _ => ∃ n : Int, vs = [.int n] ∧ ∀ m : Int, Q (.int m) H
theorem use_number {n : Int} {H : Hp} {Q : VK} {E : XK} (h : ∀ m : Int, Q (.int m) H) : spNumber [.int n] H Q E := ⟨n, rfl, h⟩
noncomputable def spLaw (K : PySem.W.Frag) : Sp := fun vs H Q _ => ∃ (a : Addr) (ns : List Int), vs = [.ref a] ∧ SqL K H a (ns.map V.int) ∧ ns.length ≤ 63 ∧ ∀ H', Q (.bl true) H'
theorem cut_ints {ns : List Int} {lo hi : Option Int} {x : V} (h : x ∈ cutV (ns.map V.int) lo hi) : ∃ z, x = V.int z := by
  obtain ⟨z, _, e⟩ := List.mem_map.mp (List.mem_of_mem_drop (List.mem_of_mem_take h))
  exact ⟨z, e.symm⟩
end L2

set_option Elab.async false
set_option linter.all false
set_option maxRecDepth 100000
set_option maxHeartbeats 0
namespace L2
open PySem PySem.Spec PyProof.Rows

noncomputable def compCx (X : Cx) (scope : Scope) (cl : List (Str × Addr)) (N : List Str) (fp : List Addr) (pins : List (Addr × Obj)) (s : Shared) (H : Hp) : Cx where
  prog := X.prog
  w := X.w
  K := X.K
  mg := X.mg
  base := X.base
  A := X.A
  N := N
  s₀ := s
  H₀ := H
  env := compEnvC scope cl s.heap.objs.size X.env
  outer := X.stack
  stack := X.stack
  ex := fp
  fn := fun _ => false
  calm := X.calm
  pn := X.pn ++ pins
  xe := fun _ _ => False
structure CompScope (X : Cx) (scope : Scope) (cl : List (Str × Addr)) (x : Str) (caps : List (Str × Nat)) : Prop where
  kind : scope.kind = .function
  clos : closureFor scope X.env = pure cl
  ncell : ∀ y ∈ scope.names, y.2 ≠ .cell
  names : ∀ y ∈ scope.names, y.2 = .local → scope.names.lookup y.1 = some .local
  xloc : scope.names.lookup x = some .local
  sub : ∀ y c, cl.lookup y = some c → X.env.cells.lookup y = some c
  has : ∀ y, ((relabel scope X.env).names.lookup y = some .cell ∨ (relabel scope X.env).names.lookup y = some .free) → ∃ c, cl.lookup y = some c
  cap : ∀ (k : Nat) y j, caps[k]? = some (y, j) → X.N[j]? = some y ∧ Vis X.env.scope y ∧ (X.env.kindOf y = some .cell ∨ X.env.kindOf y = some .free) ∧ ((relabel scope X.env).names.lookup y = some .cell ∨ (relabel scope X.env).names.lookup y = some .free)
  nd : (x :: caps.map (·.1)).Nodup
noncomputable def PIf (X : Cx) (ifs : List Expr) (t : TT) : Prop :=
  ∀ (pins : List (Addr × Obj)) (s : Shared) (σ : St) (H : Hp) (Q : Bool → Hp → Prop), Inv X pins σ H s → t σ H Q →
    wpAny (model X.prog X.w) X.A (forIn ifs true fun c r => if r = true then do let ok ← isTrue c X.env (eval c X.env); pure (ForInStep.yield ok) else pure (ForInStep.yield r)) (TP X pins σ Q) X.xe s
noncomputable def tYes : TT := fun _ H Q => Q true H
theorem pif_nil {X : Cx} : PIf X [] tYes := fun _ _ _ H _ I h => wpAny_tests_nil ⟨H, I, h⟩
theorem pif_one {X : Cx} {c : Expr} {t : TT} (h : PT X c t) : PIf X [c] t := fun pins s σ H Q I hw => wpAny_tests_one (h pins s σ H Q I hw)
noncomputable def compK (tc : TT) (te : TE) (cvs : List V) (Q : VK) (J : It) (H1 : Hp) : Prop := ∀ D, H1 D = none → ∃ W : Nat → Nat → List V → Hp → Prop, (∃ m, W 0 m [] (upd H1 D (.lst []))) ∧
  ∀ i m acc H, W i m acc H → H D = some (.lst acc) ∧ ((J.stop i H ∧ Q (.ref D) H) ∨ (J.go i H ∧ ∀ v H', J.yld i H v H' → tc (some v :: cvs.map some) H' fun b H2 =>
    if b = true then te (some v :: cvs.map some) H2 fun y H3 => H3 D = some (.lst acc) ∧ acc.length < sizeLine ∧ ∃ m', m' < m ∧ W (i + 1) m' (acc ++ [y]) (upd H3 D (.lst (acc ++ [y]))) else ∃ m', m' < m ∧ W (i + 1) m' acc H2))
noncomputable def tComp (wi : TI) (tc : TT) (te : TE) (caps : List (Str × Nat)) : TE := fun σ H Q => ∃ cvs : List V, cvs.length = caps.length ∧ (∀ (k : Nat) y j, caps[k]? = some (y, j) → ∃ v, cvs[k]? = some v ∧ σ[j]? = some (some v)) ∧ wi σ H (compK tc te cvs Q)
theorem SameBut_keep {C : Addr} {h h' : Heap} (e : Heap.SameBut C h h') : ∀ b o, b ≠ C → h.get? b = some o → h'.get? b = some o := fun b o hb q => e.extBut b o hb q
section
variable {X : Cx} {scope : Scope} {cl : List (Str × Addr)} {x : Str} {caps : List (Str × Nat)} {pins : List (Addr × Obj)} {σ : St} {H : Hp} {s s4 : Shared} {fp : List Addr} {cvs : List V}
theorem compCx_ok (S : CompScope X scope cl x caps) (I : Inv X pins σ H s) (hf : ∀ b ∈ fp, FpOk X pins H b ∧ b < s.heap.objs.size) : (compCx X scope cl (x :: caps.map (·.1)) fp pins s H).Ok where
  mod := I.ok.mod
  kind := S.kind
  glob := I.ok.glob
  blt := I.ok.blt
  above := Nat.le_refl _
  inj := fun y z c h1 h2 => I.ok.inj y z c (S.sub y c h1) (S.sub z c h2)
  has := fun y hy => S.has y hy
  cab := fun y c h _ => by cases h
  hd := I.ok.hd
  frames := I.ok.frames
  stk := .inl rfl
  exf := fun b hb => ⟨Nat.ne_of_lt (hf b hb).2, fun y c h => (hf b hb).1.2.2.2.2.1 y c (S.sub y c h)⟩
  bs := fun b o e => I.bs b o e
  bsz := Nat.le_trans (Nat.le_trans I.ok.bsz I.ok.above) (Nat.le_of_lt I.lt)
  noex := fun b o e hb => by
    rcases (hf b hb).1.2.2.2.1 with z | z
    · exact I.ok.noex b o e z
    · exact absurd (Nat.lt_of_lt_of_le (Heap.lt_size (I.ok.bs b o e).1) z) (Nat.lt_irrefl _)
  exfs := fun b hb z => by
    rcases List.mem_cons.mp (I.stkSub b z) with e | e
    · exact (hf b hb).1.2.1 e
    · exact (hf b hb).1.2.2.1 e
  funs := I.stack
  frf := I.stkFree
theorem compInv (S : CompScope X scope cl x caps) (I : Inv X pins σ H s) (hf : ∀ b ∈ fp, FpOk X pins H b ∧ b < s.heap.objs.size)
    (hlen : cvs.length = caps.length) (hcv : ∀ (k : Nat) y j, caps[k]? = some (y, j) → ∃ v, cvs[k]? = some v ∧ σ[j]? = some (some v))
    {h4 : Heap} {t4 : Nat} {m4 : Str → Option Value} (hns : h4.Ns s.heap.objs.size m4) (hk : ∀ b o, s.heap.get? b = some o → h4.get? b = some o) :
    Inv (compCx X scope cl (x :: caps.map (·.1)) fp pins s H) [] (none :: cvs.map some) H { s with heap := h4, toks := t4 } where
  ok := compCx_ok S I hf
  os := rfl
  bare := I.bare
  base := Un.kept hk
  loc := by
    obtain ⟨m, hn, hl⟩ := I.loc
    refine ⟨m4, hns, fun i y v h1 h2 h3 => ?_⟩
    cases i with
    | zero => cases h2
    | succ k =>
      have h1' : (caps.map (·.1))[k]? = some y := h1
      have h2' : (cvs.map some)[k]? = some (some v) := h2
      rw [List.getElem?_map] at h1' h2'
      cases e1 : caps[k]? with
      | none => rw [e1] at h1'; cases h1'
      | some q =>
        obtain ⟨y', j⟩ := q
        rw [e1] at h1'
        cases h1'
        obtain ⟨w1, e2, e3⟩ := hcv k y' j e1
        rw [e2] at h2'
        cases h2'
        obtain ⟨a1, a2, a3, a4⟩ := S.cap k y' j e1
        obtain ⟨u, r, l⟩ := hl j y' v a1 e3 a2
        refine ⟨u, r, ?_⟩
        rcases l with ⟨l, _⟩ | ⟨_, c, ec, o, ho, hd⟩
        · rcases a3 with a3 | a3 <;> rw [a3] at l <;> cases l
        · obtain ⟨c', ec'⟩ := S.has y' a4
          have := S.sub y' c' ec'
          rw [ec] at this
          cases this
          exact .inr ⟨a4, c, ec', o, hk c o ho, hd⟩
  cell := fun y c h => by
    obtain ⟨v, o, ho, hd⟩ := I.cell y c (S.sub y c h)
    exact ⟨v, o, hk c o ho, hd⟩
  free := I.hok.fresh (Nat.le_refl _)
  freeC := fun y c h => I.freeC y c (S.sub y c h)
  pin := fun p hp => by
    have hp' : p ∈ X.pn ++ pins := by
      have : p ∈ (X.pn ++ pins) ++ [] := hp
      rwa [List.append_nil] at this
    obtain ⟨e, n, ne, nf, d⟩ := I.pin p hp'
    refine ⟨hk _ _ e, n, Nat.ne_of_lt (Heap.lt_size e), fun z => ?_, d⟩
    rcases List.mem_cons.mp (I.stkSub p.1 z) with q | q
    · exact ne q
    · exact nf q
  hok := I.hok.kept hk
  len := by
    show (none :: cvs.map some).length = (x :: caps.map (·.1)).length
    simp [hlen]
end

section
variable {X : Cx} {scope : Scope} {cl : List (Str × Addr)} {x : Str} {caps : List (Str × Nat)} {px pos : Pos} {iter elt : Expr} {ifs : List Expr} {wi : TI} {tc : TT} {te : TE}
theorem comp_go {use : Option (Value → Sem Unit)} {Qv : Value → Shared → Prop} {pins : List (Addr × Obj)} {s : Shared} {σ : St} {H : Hp} {Q : VK} {pos' : Pos} (S : CompScope X scope cl x caps) (hc : X.calm = true) (hi : PI X (.Name x px) iter wi)
    (ht : ∀ fp pins s H, PIf (compCx X scope cl (x :: caps.map (·.1)) fp pins s H) ifs tc) (he : ∀ fp pins s H, PE (compCx X scope cl (x :: caps.map (·.1)) fp pins s H) elt te)
    (hs : ∀ y, foldedSetIterable iter X.env y = pure y) (I : Inv X pins σ H s) (h : tComp wi tc te caps σ H Q)
    (fin : ∀ (D C : Addr) (H' : Hp) (s' : Shared) x, Inv X pins σ H' s' → FpOk X pins H' C → (∃ m, s'.heap.Ns C m) → Q (.ref D) H' → compPost (model X.prog X.w) X.A X.xe use Qv (.ref D) C (.ok x) s') :
    wpAny (model X.prog X.w) X.A (comprehension (.ListComp elt [⟨.Name x px, iter, ifs, 0⟩] scope pos) scope X.env pos' (newList []) false (eval iter X.env) use) Qv X.xe s := by
  obtain ⟨cvs, hlen, hcv, h⟩ := h
  refine wpAny_comprehension_free (use := use) (cl := cl) rfl hs S.clos S.kind S.names ?_
  refine thn (hi pins s σ H _ I h) fun v s1 h1 => thn h1 fun itv s2 h2 => ?_
  obtain ⟨it, fp, tn, J, H2, rfl, I2, T, st2, f2, hD⟩ := h2
  refine wpAny_newObj_type ?_
  have hDn : H2 s2.heap.objs.size = none := I2.hok.fresh (Nat.le_refl _)
  obtain ⟨W, ⟨m0, w0⟩, turn⟩ := hD s2.heap.objs.size hDn
  generalize hD' : s2.heap.objs.size = D at *
  have I3 : Inv X pins σ (upd H2 D (.lst [])) { s2 with heap := s2.heap.push { cls := .type "list", data := .seq ([] : List Value).toArray } } :=
    I2.laid (t' := s2.toks) (o := .lst []) (fun b ob q => Heap.get?_push_of_some _ q) (Nat.le_of_eq hD') ⟨by decide, [], 0, .nil, by rw [← hD']; exact Heap.get?_push_size _ rfl⟩
  have st3 : tn 0 (s2.heap.push { cls := .type "list", data := .seq ([] : List Value).toArray }) := T.keep _ _ _ st2 fun b _ o e => Heap.get?_push_of_some _ e
  have f3 : ∀ b ∈ fp, FpOk X pins (upd H2 D (.lst [])) b ∧ b < (s2.heap.push { cls := .type "list", data := .seq ([] : List Value).toArray }).objs.size := fun b hb => by
    obtain ⟨o, ho, _⟩ := T.obj 0 _ st2 b hb
    have hlt : b < D := by rw [← hD']; exact Heap.lt_size ho
    obtain ⟨g0, g⟩ := f2 b hb
    refine ⟨⟨?_, g⟩, by rw [Heap.size_push, hD']; exact Nat.lt_succ_of_lt hlt⟩
    rw [upd_ne (Nat.ne_of_lt hlt)]
    exact g0
  generalize hs3 : ({ s2 with heap := s2.heap.push { cls := .type "list", data := .seq ([] : List Value).toArray } } : Shared) = s3 at *
  have hh3 : s3.heap = s2.heap.push { cls := .type "list", data := .seq ([] : List Value).toArray } := by rw [← hs3]
  rw [← hh3] at st3 f3
  generalize upd H2 D (.lst []) = H3 at *
  refine wpAny_newFunctionEnv S.ncell (by intro y hy; simp at hy) (fun h4 hns hsb => ?_) S.kind
  have hk4 : ∀ b o, s3.heap.get? b = some o → h4.get? b = some o := fun b o e => hsb.extBut b o (Nat.ne_of_lt (Heap.lt_size e)) (Heap.get?_push_of_some _ e)
  have I4 := compInv (t4 := s3.toks + ([] : List (Str × Value)).length) S I3 f3 hlen hcv hns hk4
  have st4 : tn 0 h4 := T.keep _ _ _ st3 fun b _ o e => hk4 b o e
  generalize hXc : compCx X scope cl (x :: caps.map (·.1)) fp pins s3 H3 = Xc at *
  have hcond : ∀ {σ' : St} {H' : Hp} {s' : Shared}, Inv Xc [] σ' H' s' → (∀ b ∈ fp, H' b = none) → ∀ b ∈ fp, FpOk Xc [] H' b := fun {σ' H' s'} I' hn b hb => by
    subst hXc
    obtain ⟨⟨_, g1, g2, g3, g4, g5⟩, hlt⟩ := f3 b hb
    refine ⟨hn b hb, Nat.ne_of_lt hlt, fun z => ?_, .inl hb, fun y c e => g4 y c (S.sub y c e), fun p hp => ?_⟩
    · rcases List.mem_cons.mp (I3.stkSub b z) with q | q
      · exact g1 q
      · exact g2 q
    · have : p ∈ (X.pn ++ pins) ++ [] := hp
      rw [List.append_nil] at this
      exact g5 p this
  -- back to the def's own frame
  have back : ∀ {σ' : St} {H' : Hp} {s' : Shared} {h' : Heap}, Inv Xc [] σ' H' s' → Heap.SameBut s3.heap.objs.size s'.heap h' → Inv X pins σ H' { s' with heap := h' } := fun {σ' H' s' h'} I' hsb' => by
    subst hXc
    have kb := SameBut_keep hsb'
    have neC : ∀ b o, s3.heap.get? b = some o → b ≠ s3.heap.objs.size := fun b o e => Nat.ne_of_lt (Heap.lt_size e)
    have B : Un (frs X.stack) fp H3 H' s3.heap s'.heap := I'.base
    refine I3.call' (ch := fp) (s' := { s' with heap := h' }) I'.os ⟨fun b o e n hb hx => kb b o (neC b o e) (B.keep b o e n hb hx), fun b o e n hb hx => ?_, B.free, fun b o e hx => ?_, B.tups, B.frzs, B.tbls⟩ (fun a o e => ?_) I'.bare fun b hb => ?_
    · obtain ⟨sl, q⟩ := B.slot b o e n hb hx
      exact ⟨sl, kb b _ (neC b o e) q⟩
    · obtain ⟨o', q⟩ := B.there b o e hx
      exact ⟨o', kb b o' (neC b o e) q⟩
    · have hC : H' s3.heap.objs.size = none := I'.free
      refine (I'.hok a o e).stay (fun c u hc q => kb c u ?_ q) (fun _ q => q) fun _ _ q => q
      rcases hc with z | z
      · rw [z]; exact ne_of_none e hC
      · exact ne_of_none z hC
    · obtain ⟨⟨_, g1, g2, g3, g4, g5⟩, _⟩ := f3 b hb
      exact ⟨g3, g1, g4, g5⟩
  have loopI : ∀ s5 : Shared, (∃ i σ' acc H', Inv Xc [] σ' H' s5 ∧ (∃ z, σ' = z :: cvs.map some) ∧ tn i s5.heap ∧ (∀ b ∈ fp, H' b = none) ∧ W i m0 acc H') →
      codeAny (model X.prog X.w) X.A (.compLoop (.ListComp elt [⟨.Name x px, iter, ifs, 0⟩] scope pos) 0 (.ref it) (.ref D) Xc.env) (compPost (model X.prog X.w) X.A X.xe use Qv (.ref D) s3.heap.objs.size) s5 := by
    intro s5 h5
    refine codeAny_loop rfl (fun n s' => ∃ i σ' acc H', Inv Xc [] σ' H' s' ∧ (∃ z, σ' = z :: cvs.map some) ∧ tn i s'.heap ∧ (∀ b ∈ fp, H' b = none) ∧ W i n acc H') (fun n s' hI => ?_) m0 h5
    show wpAny _ X.A ((compTurn (.ListComp elt [⟨.Name x px, iter, ifs, 0⟩] scope pos) 0 (.ref it) (.ref D) Xc.env).onRaise (fun e => do noteFrame e Xc.env; theTreesLotGoes e)) _ _ s'
    refine wpAny_noted ?_
    rw [compTurn_list]
    obtain ⟨i, σ', acc, H', I', ⟨z, rfl⟩, st', fr', w'⟩ := hI
    obtain ⟨hacc, alt⟩ := turn i n acc H' w'
    have hcX : Xc.calm = true := by subst hXc; exact hc
    refine wpAny_bind (wpAny_standAt (wpAny_bind ?_))
    rcases alt with ⟨stop, q⟩ | ⟨go, step⟩
    · have z1 := T.done Xc (by subst hXc; rfl) (by subst hXc; rfl) (by subst hXc; rfl) hcX i [] s' _ H' (notedBy (model X.prog X.w) X.A Xc.env fun e s'' => compPost (model X.prog X.w) X.A X.xe use Qv (.ref D) s3.heap.objs.size (.error e) s'') I' (hcond I' fr') st' stop
      have eA : Xc.A = X.A := by subst hXc; rfl
      rw [eA] at z1
      refine thn z1 fun r s6 ⟨hr, I6⟩ => ?_
      subst hr
      refine wpAny_pure ?_
      obtain ⟨m6, hn6, _⟩ := I6.loc
      have eL : Xc.env.locals = s3.heap.objs.size := by subst hXc; rfl
      have fr6 := I6.free
      rw [eL] at hn6 fr6
      exact fin D _ H' s6 _ (back I6 (Heap.SameBut.refl _ _)) (I3.fpOk (Nat.le_refl _) fr6) ⟨m6, hn6⟩ q
    · have z1 := T.item Xc (by subst hXc; rfl) (by subst hXc; rfl) (by subst hXc; rfl) hcX i [] s' _ H' (notedBy (model X.prog X.w) X.A Xc.env fun e s'' => compPost (model X.prog X.w) X.A X.xe use Qv (.ref D) s3.heap.objs.size (.error e) s'') I' (hcond I' fr') st' go
      have eA : Xc.A = X.A := by subst hXc; rfl
      have eP : Xc.prog = X.prog := by subst hXc; rfl
      have eW : Xc.w = X.w := by subst hXc; rfl
      rw [eA] at z1
      refine thn z1 fun r s6 ⟨u, hr, h6⟩ => ?_
      subst hr
      refine wpAny_bind (thn h6 fun _ s7 hzz => ?_)
      obtain ⟨v7, H7, I7, r7, y7, st7, fr7⟩ := hzz
      have I7' := I7.pinned (hcond I7 fr7) (T.obj _ _ st7)
      have hN : Xc.N = x :: caps.map (·.1) := by subst hXc; rfl
      have hloc : Xc.env.scope.names.lookup x = some .local := by subst hXc; exact lookup_relabel_local S.xloc
      -- the store
      have z2 := pg_name (X := Xc) (i := 0) (pos := px) (by rw [hN]; exact S.nd) (by rw [hN]; rfl) (.inl hloc) (.inr hloc) _ s7 _ H7 v7 u (fun σ8 H8 => σ8 = some v7 :: cvs.map some ∧ H8 = H7) I7' r7 ⟨rfl, rfl⟩
      rw [eP, eW, eA] at z2
      refine wpAny_bind (wpAny_mono z2 (fun _ s8 ⟨σ8, H8, I8, e8, e8'⟩ => ?_) fun _ _ f => by subst hXc; exact f.elim)
      subst e8 e8'
      -- the tests
      have z3 := ht fp pins s3 H3
      rw [hXc] at z3
      have z4 := z3 _ s8 _ _ _ I8 (step v7 _ y7)
      rw [eP, eW, eA] at z4
      refine wpAny_bind (wpAny_mono z4 (fun ok s9 ⟨H9, I9, q9⟩ => ?_) fun _ _ f => by subst hXc; exact f.elim)
      have again : ∀ {σ' : St} {acc' : List V} {H' : Hp} {s' : Shared} {m' : Nat}, Inv Xc ([] ++ pinsAt fp s7.heap) σ' H' s' → (∃ z, σ' = z :: cvs.map some) → m' < n → W (i + 1) m' acc' H' → ∃ m, m < n ∧ ∃ i σ' acc H', Inv Xc [] σ' H' s' ∧ (∃ z, σ' = z :: cvs.map some) ∧ tn i s'.heap ∧ (∀ b ∈ fp, H' b = none) ∧ W i m acc H' := fun {σ' acc' H' s' m'} I' hz hm w' => by
        refine ⟨m', hm, i + 1, σ', acc', H', I'.unpinned, hz, T.keep _ _ _ st7 fun b hb o e => (I'.pin (b, o) (List.mem_append_right _ (List.mem_append_right _ (mem_pinsAt hb e)))).1, fun b hb => ?_, w'⟩
        obtain ⟨o, e, d⟩ := T.obj _ _ st7 b hb
        exact (I'.pin (b, o) (List.mem_append_right _ (List.mem_append_right _ (mem_pinsAt hb e)))).2.1
      cases ok with
      | false =>
        obtain ⟨m', hm, w9⟩ := (show ∃ m', m' < n ∧ W (i + 1) m' acc H9 from by simpa using q9)
        exact wpAny_pure ⟨rfl, again I9 ⟨_, rfl⟩ hm w9⟩
      | true =>
        have q9' := (show te (some v7 :: cvs.map some) H9 fun y H3 => H3 D = some (.lst acc) ∧ acc.length < sizeLine ∧ ∃ m', m' < n ∧ W (i + 1) m' (acc ++ [y]) (upd H3 D (.lst (acc ++ [y]))) from by simpa using q9)
        have z5 := he fp pins s3 H3
        rw [hXc] at z5
        have z6 := z5 _ s9 _ H9 _ I9 q9'
        rw [eP, eW, eA] at z6
        refine wpAny_bind (wpAny_bind (wpAny_mono z6 (fun yv s10 hzz => ?_) fun _ _ f => by subst hXc; exact f.elim))
        obtain ⟨y, H10, I10, r10, hl10, hz10, m', hm, w10⟩ := hzz
        have z7 := mt_append (X := Xc) _ s10 _ H10 (.ref D) [y] (.ref D) [yv] (fun _ H11 => H11 = upd H10 D (.lst (acc ++ [y]))) I10 rfl (.cons r10 .nil) ⟨D, acc, y, rfl, rfl, hl10, hz10, rfl⟩
        rw [eP, eW, eA] at z7
        refine wpAny_bind (wpAny_mono z7 (fun _ s11 ⟨_, H11, I11, _, e11⟩ => ?_) fun _ _ f => by subst hXc; exact f.elim)
        subst e11
        exact wpAny_pure (wpAny_pure ⟨rfl, again I11 ⟨_, rfl⟩ hm w10⟩)
  have start5 : ∃ i σ' acc H', Inv Xc [] σ' H' { s3 with heap := h4, toks := s3.toks + ([] : List (Str × Value)).length } ∧ (∃ z, σ' = z :: cvs.map some) ∧ tn i h4 ∧ (∀ b ∈ fp, H' b = none) ∧ W i m0 acc H' :=
    ⟨0, _, [], H3, I4, ⟨_, rfl⟩, st4, fun b hb => (f3 b hb).1.1, w0⟩
  have L := loopI _ start5
  subst hXc
  exact codeAny_compStart_list L (T.self X.A 0 _ _ _ st4 L)
theorem pe_comp (S : CompScope X scope cl x caps) (hc : X.calm = true) (hi : PI X (.Name x px) iter wi)
    (ht : ∀ fp pins s H, PIf (compCx X scope cl (x :: caps.map (·.1)) fp pins s H) ifs tc) (he : ∀ fp pins s H, PE (compCx X scope cl (x :: caps.map (·.1)) fp pins s H) elt te)
    (hs : ∀ y, foldedSetIterable iter X.env y = pure y := by intro _; rfl) : PE X (.ListComp elt [⟨.Name x px, iter, ifs, 0⟩] scope pos) (tComp wi tc te caps) := by
  intro pins s σ H Q I h
  rw [eval_ListComp]
  refine comp_go (use := none) S hc hi ht he hs I h fun D C H' s' _ I' f n q => ?_
  obtain ⟨m, hn⟩ := n
  obtain ⟨f0, f1, f2, f3, f4, f5⟩ := f
  exact ⟨m, hn, fun h' hsb => ⟨.ref D, H', I'.turned (t' := s'.toks) (fun b o hb e => hsb.extBut b o hb e) f0 f1 f3 f4 f5, rfl, q⟩⟩
theorem ps_setComp {i : Nat} {y : Str} {py spos : Pos} (hN : X.N.Nodup) (hin : X.N[i]? = some y) (hx : Loc X.env.scope y) (hsw : swapsWith (.ListComp elt [⟨.Name x px, iter, ifs, 0⟩] scope pos) (some (.Name y py)) spos.line X.env = pure true)
    (S : CompScope X scope cl x caps) (hc : X.calm = true) (hi : PI X (.Name x px) iter wi)
    (ht : ∀ fp pins s H, PIf (compCx X scope cl (x :: caps.map (·.1)) fp pins s H) ifs tc) (he : ∀ fp pins s H, PE (compCx X scope cl (x :: caps.map (·.1)) fp pins s H) elt te)
    (hs : ∀ y, foldedSetIterable iter X.env y = pure y := by intro _; rfl) (hf : X.fn y = true ∨ X.env.scope.names.lookup y = some .local := by first | exact .inl rfl | exact .inr rfl | assumption) :
    PS X (.Assign [.Name y py] (.ListComp elt [⟨.Name x px, iter, ifs, 0⟩] scope pos) spos) (tAsg (tComp wi tc te caps) (gName i)) := by
  intro pins s σ H D I h
  rw [exec_Assign_Name_used _ _ _ _ hsw]
  refine wpAny_bind (wpAny_standAt (wpAny_bind ?_))
  show wpAny _ X.A (do let _ ← comprehension (.ListComp elt [⟨.Name x px, iter, ifs, 0⟩] scope pos) scope X.env _ (newList []) false (eval iter X.env) (some (assign (.Name y py) X.env))) _ _ s
  refine wpAny_bind (wpAny_mono (comp_go (use := some (assign (.Name y py) X.env)) (Qv := fun _ s' => SP X pins D .next s') S hc hi ht he hs I h fun Dl C H' s' _ I' f n q => ?_) (fun _ s' hq => wpAny_pure (wpAny_pure hq)) fun _ _ e => e)
  obtain ⟨m, hn⟩ := n
  obtain ⟨f0, f1, f2, f3, f4, f5⟩ := f
  show wpAny _ X.A (assign (.Name y py) X.env (.ref Dl)) _ _ _
  refine wpAny_assign_Name (store_ok2 (v := .ref Dl) I' hN hin hx rfl (fun s2 I2 ⟨a, hsb, ha⟩ => ?_) hf)
  have hCa : C ≠ a := by
    rcases ha with z | z
    · rw [z]; exact f1
    · exact fun e => f4 _ _ z e.symm
  refine ⟨m, hn.sameBut hsb hCa, fun h' hsb' => ⟨_, H', I2.turned (t' := s2.toks) (fun b o hb e => hsb'.extBut b o hb e) f0 f1 f3 f4 f5, q⟩⟩
end
end L2

set_option Elab.async false
set_option linter.all false
set_option maxRecDepth 100000
set_option maxHeartbeats 0
namespace L2
open PySem PySem.Spec PyProof.Rows
section
variable {σ : St} {H : Hp} {Q : VK} {D : Ends}
end
theorem relabel_same {scope : Scope} {env : Env} (h : ∀ y ∈ scope.names, y.2 ≠ .free ∧ y.2 ≠ .cell) : (relabel scope env).names = scope.names := by
  unfold relabel
  exact map_eq_self fun y hy => by
    obtain ⟨n, k⟩ := y
    have : (k == NameKind.free) = false := by simpa using (h _ hy).1
    simp [this]
theorem compScope0 {X : Cx} {scope : Scope} {x : Str} (kind : scope.kind = .function) (h : ∀ y ∈ scope.names, y.2 ≠ .free ∧ y.2 ≠ .cell) (names : ∀ y ∈ scope.names, y.2 = .local → scope.names.lookup y.1 = some .local) (xl : scope.names.lookup x = some .local) : CompScope X scope [] x [] where
  kind := kind
  clos := closureFor_none fun y hy => (h y hy).1
  ncell := fun y hy => (h y hy).2
  names := names
  xloc := xl
  sub := fun y c e => by cases e
  has := fun y hy => by
    rw [relabel_same h] at hy
    rcases hy with e | e
    · exact absurd rfl (h _ (PySem.mem_of_lookup e)).2
    · exact absurd rfl (h _ (PySem.mem_of_lookup e)).1
  cap := fun k y j e => by simp at e
  nd := by simp
theorem wp_comp0 {σ : St} {H : Hp} {Q : VK} {wi : TI} {tc : TT} {te : TE} (h : wi σ H (compK tc te [] Q)) : tComp wi tc te [] σ H Q := ⟨[], rfl, fun k y j e => by simp at e, h⟩
theorem atI_mem {α : Type} {xs : List α} {i : Int} {v : α} (h : atI xs i = some v) : v ∈ xs := by
  obtain ⟨j, _, e, _⟩ := atI_get h
  exact List.mem_of_getElem? e
end L2

set_option Elab.async false
set_option linter.all false
set_option maxRecDepth 100000
set_option maxHeartbeats 0
namespace L2
open PySem PySem.Spec PyProof.Rows
theorem eqL_gen {α : Type} [DecidableEq α] (p q : List α) : eqL (fun j => decide (p[j]? = q[j]?)) p.length q.length = decide (p = q) := by
  by_cases h : p = q
  · subst h; simp [eqL]
  · rw [decide_eq_false h]
    cases hh : eqL (fun j => decide (p[j]? = q[j]?)) p.length q.length with
    | false => rfl
    | true =>
      exfalso; apply h
      unfold eqL at hh
      rw [Bool.and_eq_true] at hh
      have hl : p.length = q.length := by simpa using hh.2
      have ha := hh.1
      rw [hl, Nat.min_self, List.all_eq_true] at ha
      apply List.ext_getElem?
      intro i
      by_cases hi : i < q.length
      · have := ha i (List.mem_range.mpr hi)
        simpa using this
      · rw [List.getElem?_eq_none (by omega), List.getElem?_eq_none (by omega)]
inductive TI2 where
  | s (x : Str) | p (x : List Str) | n (x : Int)
  deriving DecidableEq
noncomputable def ItV (H : Hp) (v : V) : TI2 → Prop
  | .s x => v = .str x
  | .p x => IsP H v x
  | .n x => v = .int x
theorem EqV.item {X : Cx} {H : Hp} {x y : V} {i j : TI2} (hx : ItV H x i) (hy : ItV H y j) : EqV X 8 H x y (decide (i = j)) := by
  have tupOf : ∀ {v : V} {q : List Str} {pins : List (Addr × Obj)} {σ : St} {s : Shared} {u : Value}, Inv X pins σ H s → IsP H v q → RelV v u → ∃ a its, u = .ref a ∧ IsTup s.heap a its := by
    intro v q pins σ s u I h r
    obtain ⟨a, rfl, ha⟩ := h
    cases r
    obtain ⟨its, _, p, _⟩ := I.tuple (.inl (.inl ha))
    exact ⟨a, _, rfl, p⟩
  cases i with
  | s x =>
    cases (show _ = V.str x from hx)
    cases j with
    | s y =>
      cases (show _ = V.str y from hy)
      have z := EqV.flat (X := X) (k := 8) (H := H) (x := V.str x) (y := V.str y) rfl rfl
      have e : eqV (V.str x) (V.str y) = decide (TI2.s x = TI2.s y) := by
        show (x == y) = _
        by_cases h : x = y
        · subst h; simp
        · rw [decide_eq_false (fun z => h (by injection z))]; exact beq_eq_false_iff_ne.mpr h
      rw [← e]; exact z
    | p y =>
      rw [decide_eq_false (by intro z; cases z)]
      intro A pins σ s u v I hu rx ry
      obtain ⟨t, rfl⟩ := rx
      obtain ⟨a, its, rfl, p⟩ := tupOf I hy ry
      exact SeqAt.EqAt.str_tuple x t p (by omega)
    | n y =>
      rw [decide_eq_false (by intro z; cases z)]
      intro A pins σ s u v I hu rx ry
      cases (show _ = V.int y from hy)
      obtain ⟨t, rfl⟩ := rx
      obtain ⟨t', rfl⟩ := ry
      exact SeqAt.EqAt.str_int x t y t'
  | p x =>
    cases j with
    | s y =>
      rw [decide_eq_false (by intro z; cases z)]
      intro A pins σ s u v I hu rx ry
      cases (show _ = V.str y from hy)
      obtain ⟨t, rfl⟩ := ry
      obtain ⟨a, its, rfl, p⟩ := tupOf I hx rx
      exact SeqAt.EqAt.tuple_str y t p (by omega)
    | p y =>
      have z := EqV.path (X := X) (k := 7) (show IsP H _ x from hx) (show IsP H _ y from hy)
      have e : decide (x = y) = decide (TI2.p x = TI2.p y) := by
        by_cases h : x = y
        · subst h; simp
        · rw [decide_eq_false h, decide_eq_false (fun z => h (by injection z))]
      rw [← e]; exact z
    | n y =>
      rw [decide_eq_false (by intro z; cases z)]
      intro A pins σ s u v I hu rx ry
      cases (show _ = V.int y from hy)
      obtain ⟨t, rfl⟩ := ry
      obtain ⟨a, its, rfl, p⟩ := tupOf I hx rx
      exact SeqAt.EqAt.tuple_int y t p (by omega)
  | n x =>
    cases (show _ = V.int x from hx)
    cases j with
    | s y =>
      rw [decide_eq_false (by intro z; cases z)]
      intro A pins σ s u v I hu rx ry
      cases (show _ = V.str y from hy)
      obtain ⟨t, rfl⟩ := rx
      obtain ⟨t', rfl⟩ := ry
      exact SeqAt.EqAt.int_str x t y t'
    | p y =>
      rw [decide_eq_false (by intro z; cases z)]
      intro A pins σ s u v I hu rx ry
      obtain ⟨t, rfl⟩ := rx
      obtain ⟨a, its, rfl, p⟩ := tupOf I hy ry
      exact SeqAt.EqAt.int_tuple x t p (by omega)
    | n y =>
      cases (show _ = V.int y from hy)
      have z := EqV.flat (X := X) (k := 8) (H := H) (x := V.int x) (y := V.int y) rfl rfl
      have e : eqV (V.int x) (V.int y) = decide (TI2.n x = TI2.n y) := by
        show (x == y) = _
        by_cases h : x = y
        · subst h; simp
        · rw [decide_eq_false (fun z => h (by injection z))]; exact beq_eq_false_iff_ne.mpr h
      rw [← e]; exact z
theorem Paired.getL {α β : Type} {F : α → β → Prop} : ∀ {l₁ : List α} {l₂ : List β} {i : Nat} {x : α}, Paired F l₁ l₂ → l₁[i]? = some x → ∃ y, l₂[i]? = some y ∧ F x y
  | _, _, _, _, .nil, e => by simp at e
  | _, _, 0, _, .cons r _, e => by
    have e' := Option.some.inj e
    subst e'
    exact ⟨_, rfl, r⟩
  | _, _, i + 1, _, .cons _ t, e => Paired.getL (i := i) t (by simpa using e)
theorem Paired.getR {α β : Type} {F : α → β → Prop} : ∀ {l₁ : List α} {l₂ : List β} {i : Nat} {y : β}, Paired F l₁ l₂ → l₂[i]? = some y → ∃ x, l₁[i]? = some x ∧ F x y
  | _, _, _, _, .nil, e => by simp at e
  | _, _, 0, _, .cons r _, e => by
    have e' := Option.some.inj e
    subst e'
    exact ⟨_, rfl, r⟩
  | _, _, i + 1, _, .cons _ t, e => Paired.getR (i := i) t (by simpa using e)
theorem Paired.app {α β : Type} {F : α → β → Prop} : ∀ {l₁ m₁ : List α} {l₂ m₂ : List β}, Paired F l₁ l₂ → Paired F m₁ m₂ → Paired F (l₁ ++ m₁) (l₂ ++ m₂) := by
  intro l₁ m₁ l₂ m₂ h q
  induction h with
  | nil => exact q
  | cons r t ih => exact .cons r ih
noncomputable def Tu (H : Hp) (v : V) (is : List TI2) : Prop := ∃ a xs, v = .ref a ∧ H a = some (.tup xs) ∧ Paired (ItV H) xs is
theorem tu_items {X : Cx} {H : Hp} {xs ys : List V} {is js : List TI2} (p : Paired (ItV H) xs is) (q : Paired (ItV H) ys js) : ∀ (j : Nat) (x y : V), xs[j]? = some x → ys[j]? = some y → EqV X 8 H x y (decide (is[j]? = js[j]?)) := by
  intro j x y hx hy
  obtain ⟨i, ei, ri⟩ := Paired.getL p hx
  obtain ⟨k, ek, rk⟩ := Paired.getL q hy
  have z := EqV.item (X := X) ri rk
  have e : decide (i = k) = decide (is[j]? = js[j]?) := by
    rw [ei, ek]
    by_cases h : i = k
    · subst h; simp
    · rw [decide_eq_false h, decide_eq_false (fun z => h (Option.some.inj z))]
  rw [← e]; exact z
theorem ItV.inj {H : Hp} {v : V} {i j : TI2} (h : ItV H v i) (h' : ItV H v j) : i = j := by
  cases i <;> cases j <;> first | (have z := (show v = _ from h).symm.trans (show v = _ from h'); injection z with z; rw [z]) | (rw [IsP.inj (show IsP H v _ from h) (show IsP H v _ from h')]) | skip
  all_goals first
    | (have z := (show v = _ from h).symm.trans (show v = _ from h'); cases z)
    | (obtain ⟨a, e, _⟩ := (show IsP H v _ from h); rw [e] at h'; exact nomatch (show V.ref a = _ from h'))
    | (obtain ⟨a, e, _⟩ := (show IsP H v _ from h'); rw [e] at h; exact nomatch (show V.ref a = _ from h))
theorem Paired.injR {α β : Type} {F : α → β → Prop} (hF : ∀ a b c, F a b → F a c → b = c) : ∀ {l : List α} {m n : List β}, Paired F l m → Paired F l n → m = n := by
  intro l m n h
  revert n
  induction h with
  | nil => intro n h'; cases h'; rfl
  | cons r t ih => intro n h'; cases h' with | cons r' t' => rw [hF _ _ _ r r', ih t']
theorem Tu.inj {H : Hp} {v : V} {is js : List TI2} (h : Tu H v is) (h' : Tu H v js) : is = js := by
  obtain ⟨a, xs, rfl, ha, p⟩ := h
  obtain ⟨b, ys, e, hb, q⟩ := h'
  cases e
  rw [ha] at hb
  injection hb with hb
  injection hb with hb
  subst hb
  exact Paired.injR (F := ItV H) (fun _ _ _ h h' => ItV.inj h h') p q
theorem EqV.tu {X : Cx} {H : Hp} {x y : V} {is js : List TI2} (hx : Tu H x is) (hy : Tu H y js) : EqV X 9 H x y (decide (is = js)) := by
  obtain ⟨a, xs, rfl, ha, p⟩ := id hx
  obtain ⟨b, ys, rfl, hb, q⟩ := id hy
  have z := EqV.tup (X := X) (k := 8) ha hb (tu_items p q) (fun e => by
    subst e
    have := hx.inj hy
    subst this
    rw [Paired.length p, Paired.length q, eqL_gen]; simp)
  rw [Paired.length p, Paired.length q, eqL_gen] at z
  exact z
section
variable {H : Hp} {Q : VK} {X : Cx} {x y : V} {is js : List TI2}
end
noncomputable def DD.its : DD → List TI2
  | .put p n => [.s "put", .p p, .n n]
  | .cut p n => [.s "cut", .p p, .n n]
  | .set p n m => [.s "set", .p p, .n n, .n m]
  | .move p q => [.s "move", .p p, .p q]
theorem IsT.tu {H : Hp} {v : V} {d : DD} (h : IsT H v d) : Tu H v d.its := by
  obtain ⟨a, x, y, rfl, ha, hh⟩ := h
  cases d with
  | put p n => exact ⟨a, _, rfl, ha, .cons rfl (.cons hh (.cons rfl .nil))⟩
  | cut p n => exact ⟨a, _, rfl, ha, .cons rfl (.cons hh (.cons rfl .nil))⟩
  | set p n m => exact ⟨a, _, rfl, ha, .cons rfl (.cons hh (.cons rfl (.cons rfl .nil)))⟩
  | move p q => exact ⟨a, _, rfl, ha, .cons rfl (.cons hh.1 (.cons hh.2 .nil))⟩
theorem DD.its_inj {d e : DD} (h : d.its = e.its) : d = e := by
  have h1 : Str.ofString "put" ≠ Str.ofString "cut" := by decide
  cases d <;> cases e <;> simp_all [DD.its]
theorem DD.its_dec (d e : DD) : decide (d.its = e.its) = decide (d = e) := by
  by_cases h : d = e
  · subst h; simp
  · rw [decide_eq_false h, decide_eq_false (fun z => h (DD.its_inj z))]
section
variable {H : Hp} {Q : VK} {X : Cx} {x y : V} {d e : DD}
theorem EqV.told (hx : IsT H x d) (hy : IsT H y e) : EqV X 9 H x y (decide (d = e)) := by
  rw [← DD.its_dec]; exact EqV.tu hx.tu hy.tu
end
noncomputable def eqLs (e : Nat → Bool) (n m : Nat) : Bool := decide (n = m) && (List.range n).all e
noncomputable def rEqG (X : Cx) (neg : Bool) : R2 := fun x y H Q => ∃ a b xs ys e, x = .ref a ∧ y = .ref b ∧ SqL X.K H a xs ∧ SqL X.K H b ys ∧ (xs.length = ys.length → ∀ j x y, xs[j]? = some x → ys[j]? = some y → EqV X 12 H x y (e j)) ∧
  Q (.bl (if neg = true then !eqLs e xs.length ys.length else eqLs e xs.length ys.length)) H
theorem op_neG {X : Cx} (hu : X.A.units + 16 < cLine) : OpR X (compareOp .NotEq) (rEqG X true) := by
  intro pins s σ H x y v u Q I rx ry h
  obtain ⟨a, b, xs, ys, e, rfl, rfl, ha, hb, he, q⟩ := h
  cases rx
  cases ry
  obtain ⟨us, r1, p1, _⟩ := I.list ha
  obtain ⟨vs, r2, p2, _⟩ := I.list hb
  have l1 := r1.length
  have l2 := r2.length
  by_cases hl : xs.length = ys.length
  · refine SeqAt.RcNeAt.lists (e := e) p1.isList p2.isList (by simp; omega) (by omega) (items_eq I (k := 12) (by rw [in1_units]; omega) (he hl) r1 r2) _ _ _ _ ⟨.bl _, H, I, ?_, q⟩
    show _ = Value.bool (!eqLs e xs.length ys.length)
    unfold eqLs
    rw [decide_eq_true hl, Bool.true_and, l1]
    simp
  · refine SeqAt.RcNeAt.lists_lengths p1.isList p2.isList (by simp; omega) (by omega) _ _ _ _ ⟨.bl _, H, I, ?_, q⟩
    show _ = Value.bool (!eqLs e xs.length ys.length)
    unfold eqLs
    rw [decide_eq_false hl, Bool.false_and]
    rfl
theorem eqLs_gen {α : Type} [DecidableEq α] (p q : List α) : eqLs (fun j => decide (p[j]? = q[j]?)) p.length q.length = decide (p = q) := by
  have z := eqL_gen p q
  unfold eqL at z
  unfold eqLs
  by_cases hl : p.length = q.length
  · rw [hl, Nat.min_self, beq_self_eq_true, Bool.and_true] at z
    rw [decide_eq_true hl, Bool.true_and, hl]
    exact z
  · rw [decide_eq_false hl, Bool.false_and, decide_eq_false (fun e => hl (by rw [e]))]
section
variable {H : Hp} {Q : VK} {X : Cx} {a b : Addr} {xs ys : List V}
theorem wp_neF {α : Type} [DecidableEq α] {F : V → α → Prop} {p q : List α} (ha : SqL X.K H a xs) (hb : SqL X.K H b ys) (hp : Paired F xs p) (hq : Paired F ys q) (hF : ∀ x y i j, F x i → F y j → EqV X 12 H x y (decide (i = j))) (h : Q (.bl (!decide (p = q))) H) : rEqG X true (.ref a) (.ref b) H Q := by
  refine ⟨a, b, xs, ys, fun j => decide (p[j]? = q[j]?), rfl, rfl, ha, hb, fun _ j x y hx hy => ?_, ?_⟩
  · obtain ⟨i, ei, ri⟩ := Paired.getL hp hx
    obtain ⟨k, ek, rk⟩ := Paired.getL hq hy
    have z := hF x y i k ri rk
    have e : decide (i = k) = decide (p[j]? = q[j]?) := by
      rw [ei, ek]
      by_cases h : i = k
      · subst h; simp
      · rw [decide_eq_false h, decide_eq_false (fun z => h (Option.some.inj z))]
    show EqV X 12 H x y (decide (p[j]? = q[j]?))
    rw [← e]; exact z
  · rw [Paired.length hp, Paired.length hq, eqLs_gen]; exact h
theorem wp_neNil (ha : SqL X.K H a xs) (hb : SqL X.K H b []) (h : Q (.bl (!decide (xs = []))) H) : rEqG X true (.ref a) (.ref b) H Q := by
  refine ⟨a, b, xs, [], fun _ => true, rfl, rfl, ha, hb, fun _ j x y _ hy => by simp at hy, ?_⟩
  have e : eqLs (fun _ => true) xs.length ([] : List V).length = decide (xs = []) := by cases xs <;> simp [eqLs]
  rw [e]; exact h
end
section
variable {σ : St} {H : Hp} {Q : VK} {K : PySem.W.Frag} {a b : Addr} {xs ys : List V} {v : V} {j : Int}
theorem wp_ixL (ha : SqL K H a xs) (hv : atI xs j = some v) (h : Q v H) : rIxL K (.ref a) (.int j) H Q := ⟨a, xs, j, v, rfl, rfl, ha, hv, h⟩
theorem wp_slL {lo hi : Option Int} (ha : SqL K H a xs) (h : ∀ p H', Same H H' → H' p = some (.lst (cutV xs lo hi)) → H p = none → Q (.ref p) H') : rSlL K (.ref a) lo hi H Q := ⟨a, xs, rfl, ha, fun p hp => h p _ (Same.upd hp) upd_same hp⟩
theorem wp_catL (ha : H a = some (.lst xs)) (hb : H b = some (.lst ys)) (hl : xs.length + ys.length ≤ 100000) (h : ∀ p H', Same H H' → H' p = some (.lst (xs ++ ys)) → H p = none → Q (.ref p) H') : rCat (.ref a) (.ref b) H Q :=
  ⟨a, b, xs, ys, rfl, rfl, ha, hb, by rw [sizeLine_eq]; omega, fun p hp => h p _ (Same.upd hp) upd_same hp⟩
theorem wp_lenL (ha : SqL K H a xs) (h : Q (.int xs.length) H) : rLenQ K [.ref a] H Q := ⟨a, xs, rfl, .inl ha, h⟩
noncomputable def rListOf (K : PySem.W.Frag) : List V → Hp → VK → Prop := fun xs H Q => ∃ p ys, xs = [.ref p] ∧ (SqL K H p ys ∨ SqT K H p ys) ∧ ∀ l, H l = none → Q (.ref l) (upd H l (.lst ys))
theorem call_listOf {X : Cx} : CallR X (.type "list") (rListOf X.K) := call_list_of
theorem wp_listOf (ha : SqL K H a xs) (h : ∀ p H', Same H H' → H' p = some (.lst xs) → H p = none → Q (.ref p) H') : rListOf K [.ref a] H Q := ⟨a, xs, rfl, .inl ha, fun p hp => h p _ (Same.upd hp) upd_same hp⟩
end
theorem sq_of {K : PySem.W.Frag} {H : Hp} {a : Addr} {xs : List V} (h : H a = some (.lst xs)) : SqL K H a xs := .inl (.inl h)
theorem comp_list {K : PySem.W.Frag} {H : Hp} {Q : VK} {a : Addr} {xs : List V} {tc : TT} {te : TE} {cvs : List V} (hz : xs.length ≤ 100000) (Pv : Addr → Nat → List V → Hp → Prop)
    (h0 : ∀ D, H D = none → Pv D 0 [] (upd H D (.lst []))) (hD : ∀ D i acc H', H D = none → i ≤ xs.length → Pv D i acc H' → H' D = some (.lst acc) ∧ acc.length ≤ i ∧ SqL K H' a xs)
    (hs : ∀ D i x acc H' (N : List V → Hp → Prop), H D = none → xs[i]? = some x → acc.length < sizeLine → (∀ acc' H2, Pv D (i + 1) acc' H2 → N acc' H2) → Pv D i acc H' → tc (some x :: cvs.map some) H' fun b H2 => if b = true then te (some x :: cvs.map some) H2 fun y H3 => H3 D = some (.lst acc) ∧ acc.length < sizeLine ∧ N (acc ++ [y]) (upd H3 D (.lst (acc ++ [y]))) else N acc H2)
    (hd : ∀ D acc H', H D = none → Pv D xs.length acc H' → Q (.ref D) H') : compK tc te cvs Q (Itl K a) H := by
  intro D hDn
  refine ⟨fun i m acc H' => m = xs.length - i ∧ i ≤ xs.length ∧ Pv D i acc H', ⟨_, rfl, Nat.zero_le _, h0 D hDn⟩, ?_⟩
  rintro i m acc H' ⟨rfl, hi, hp⟩
  obtain ⟨d1, d2, d3⟩ := hD D i acc H' hDn hi hp
  refine ⟨d1, ?_⟩
  by_cases hlt : i < xs.length
  · refine .inr ⟨⟨xs, xs[i], d3, by simp [hlt]⟩, fun v H2 y => ?_⟩
    obtain ⟨e, y⟩ := y
    subst e
    exact hs D i v acc _ (fun acc' H'' => ∃ m', m' < xs.length - i ∧ (m' = xs.length - (i + 1) ∧ i + 1 ≤ xs.length ∧ Pv D (i + 1) acc' H'')) hDn (y xs d3) (by rw [sizeLine_eq]; omega) (fun acc' H'' hp' => ⟨xs.length - (i + 1), by omega, rfl, hlt, hp'⟩) hp
  · have e : i = xs.length := by omega
    subst e
    exact .inl ⟨⟨xs, d3, Nat.le_refl _⟩, hd D acc H' hDn hp⟩
theorem wp_bm0 {σ : St} {H : Hp} {Q : VK} {K : PySem.W.Frag} {T : String} {r : V → List V → Hp → VK → Prop} {to : TE} (h : to σ H fun x H1 => tyV K T x H1 ∧ r x [] H1 Q) : tBM0 K T r to σ H Q := h
theorem wp_ixAny {H : Hp} {Q : VK} {K : PySem.W.Frag} {a : Addr} {xs : List V} {j : Int} (ha : SqL K H a xs) (h0 : 0 ≤ j) (h1 : j < xs.length) (h : ∀ v, v ∈ xs → Q v H) : rIxL K (.ref a) (.int j) H Q := by
  obtain ⟨v, hv⟩ := atI_some h0 h1
  exact ⟨a, xs, j, v, rfl, rfl, ha, hv, h v (atI_mem hv)⟩
theorem wp_isiL {H : Hp} {Q : VK} {K : PySem.W.Frag} {a : Addr} {xs : List V} (ha : H a = some (.lst xs)) (hk : PySem.W.kitOne K (.type "list") (.type "list") = some true) (h : Q (.bl true) H) : rIsi K [.ref a, .ty "list"] H Q := ⟨_, _, _, _, true, rfl, .lst ha, rfl, hk, h⟩
theorem tyL {K : PySem.W.Frag} {H : Hp} {a : Addr} {xs : List V} (h : H a = some (.lst xs)) : tyV K "list" (.ref a) H := .inl ⟨rfl, _, sq_of h⟩
end L2

set_option Elab.async false
set_option linter.all false
set_option maxRecDepth 100000
set_option maxHeartbeats 0
namespace L2
open PySem PySem.Spec PyProof.Rows
noncomputable def FlyE (h : Heap) (a : Addr) (cls a0 : Value) (T : Addr) : Prop :=
  ∃ oe vs oT ts, h.get? a = some oe ∧ (oe.cls = cls ∧ vs[0]? = some a0) ∧ oe.data = .fields vs ∧ vs[1]? = some (.ref T) ∧ T ≠ a ∧ h.get? T = some oT ∧ oT.data = .fields ts ∧ ts[3]? = some .none
theorem frames_hid {base h : Heap} {as : List Addr} : ∀ {l : List Env}, h.FunFrames base l → (∀ b ∈ frs l, b ∈ as) → h.FunFrames (PySem.W.hideAll h as) l
  | [], _, _ => trivial
  | env :: l, ⟨hk, ⟨L, o, hf, hn, ho, hd⟩, hr⟩, hs => by
    have hL : L ∈ frs (env :: l) := by unfold frs; rw [List.filterMap_cons, hf]; exact .head _
    refine ⟨hk, ⟨L, o, hf, PySem.W.hideAll_none _ (hs L hL), ho, hd⟩, frames_hid hr fun b hb => hs b ?_⟩
    unfold frs at hb ⊢
    rw [List.filterMap_cons, hf]
    exact .tail _ hb
noncomputable def restOf (h : Heap) (a T : Addr) (l : List Env) : Heap := PySem.W.hideAll h (a :: T :: frs l)
theorem FlyE.flying {h base : Heap} {a T : Addr} {cls a0 : Value} {l : List Env} (f : FlyE h a cls a0 T) (hl : h.FunFrames base l) : Heap.FlyingW (restOf h a T l) l a cls a0 h := by
  obtain ⟨oe, vs, oT, ts, h1, h2, h3, h4, h5, h6, h7, h8⟩ := f
  exact ⟨fun b o e => PySem.W.of_hideAll _ e, PySem.W.hideAll_none _ (.head _), frames_hid hl (fun b hb => .tail _ (.tail _ hb)), oe, vs, T, oT, ts, h1, h2, h3, h4, PySem.W.hideAll_none _ (.tail _ (.head _)), h5, h6, h7, h8⟩
section
variable {P : Program} {w : World} {H : Hp} {h h' B : Heap} {a T : Addr} {cls a0 : Value} {l : List Env} {as : List Addr}
theorem hok_rest (ok : HOk P w H h) (hs : (PySem.W.hideAll h as).StaysIn h') (hn : ∀ b ∈ as, H b = none) : HOk P w H h' := fun b u q =>
  (ok b u q).stay (fun c v hc r => hs c v (PySem.W.hideAll_get _ r fun z => by
    have := hn c z
    rcases hc with e | e
    · rw [e, q] at this; cases this
    · rw [e] at this; cases this)) (fun _ r => r) fun _ _ r => r
theorem untracked_new (ok : HOk P w H h) (hn : ∀ b ∈ as, H b = none) {t : Addr} (ht : (PySem.W.hideAll h as).get? t = none) : H t = none := by
  cases q : H t with
  | none => rfl
  | some u =>
    by_cases m : t ∈ as
    · rw [hn t m] at q; cases q
    · obtain ⟨o, ho⟩ : ∃ o, h.get? t = some o := by
        have hlt := (ok t u q)
        cases u with
        | lst xs => obtain ⟨_, _, _, _, e⟩ := hlt; exact ⟨_, e⟩
        | tup xs => obtain ⟨_, _, _, o, e, _⟩ := hlt; exact ⟨_, e⟩
        | dK kvs => obtain ⟨_, _, _, _, o, _, _, e, _⟩ := hlt; exact ⟨_, e⟩
        | dT kvs => obtain ⟨_, _, _, _, o, _, _, e, _⟩ := hlt; exact ⟨_, e⟩
        | set S n => obtain ⟨o, _, _, _, e, _⟩ := hlt; exact ⟨_, e⟩
        | ins C dx fs => obtain ⟨_, _, _, e, _⟩ := hlt; exact ⟨_, e⟩
        | own y => obtain ⟨_, e⟩ := hlt; exact ⟨_, e⟩
        | xd fs => obtain ⟨_, ⟨_, _, _, e, _⟩, _⟩ := hlt; exact ⟨_, e⟩
        | rng lo hi => obtain ⟨_, _, _, e⟩ := hlt; exact ⟨_, e⟩
        | frz ob u => obtain ⟨e, _⟩ := hlt; exact ⟨_, e⟩
        | tbl ps => exact ⟨_, (show h.get? t = some _ from hlt)⟩
        | met f y => exact ⟨_, (show h.get? t = some _ from hlt)⟩
        | ext φ => obtain ⟨_, ⟨_, e⟩, _⟩ := hlt; exact ⟨_, e⟩
      rw [PySem.W.hideAll_get _ ho m] at ht
      cases ht
end
noncomputable def CXE (P : Program) (w : World) : CXT := fun outer H s E e s' =>
  ∃ (a C T : Addr) (a0 : Value) (H' : Hp), e = .ref a ∧ s'.os = s.os ∧ AllBare s'.gens ∧ Un (frs outer) [] H H' s.heap s'.heap ∧ HOk P w H' s'.heap ∧ H' a = none ∧ H' T = none ∧ s.heap.get? a = none ∧ s.heap.get? T = none ∧
    FlyE s'.heap a (.ref C) a0 T ∧ E (.ref C) none H'
section
variable {P : Program} {w : World} {K : PySem.W.Frag} {mg : Str → Option Value} {base : Heap} {N : List Str} {qual : Str} {scope : Scope} {f : Addr} {cd : Value} {A : Around} {outer : List Env} {s : Shared} {H : Hp} {E : XK}
theorem un_out {s1 : Shared} {h' : Heap} {H1 : Hp} {pins : List (Addr × Obj)} {σ : St} {as : List Addr} (I : Inv (cxOf (CXE P w) P w K mg base N qual scope f cd A outer s H E) pins σ H1 s1) (hs : (PySem.W.hideAll s1.heap as).StaysIn h') (up : s1.heap.UpToSlots h')
    (has : ∀ b ∈ as, b ∈ frs outer ∨ s.heap.get? b = none) : Un (frs outer) [] H H1 s.heap h' := by
  have b0 : Un (frs outer) [] H H1 s.heap s1.heap := I.base
  have fr : ∀ b ∈ frs outer, ∃ o, s1.heap.get? b = some o ∧ ∀ vs, o.data ≠ .fields vs := fun b hb => (I.funs.mem hb).2
  refine ⟨fun b o e n hb hx => ?_, fun b o e n hb hx => ?_, b0.free, fun b o e hx => ?_, b0.tups, b0.frzs, b0.tbls⟩
  · refine hs b o (PySem.W.hideAll_get _ (b0.keep b o e n hb hx) fun z => ?_)
    rcases has b z with q | q
    · exact hb q
    · rw [e] at q; cases q
  · obtain ⟨sl, e1⟩ := b0.slot b o e n hb hx
    obtain ⟨o', e2, nf⟩ := fr b hb
    rw [e1] at e2
    cases e2
    obtain ⟨sl2, e3⟩ := up b _ e1 nf
    exact ⟨sl2, e3⟩
  · obtain ⟨o', e1⟩ := b0.there b o e hx
    by_cases m : b ∈ as
    · rcases has b m with q | q
      · obtain ⟨o2, e2, nf⟩ := fr b q
        obtain ⟨sl2, e3⟩ := up b _ e2 nf
        exact ⟨_, e3⟩
      · rw [e] at q; cases q
    · exact ⟨o', hs b o' (PySem.W.hideAll_get _ e1 m)⟩
end
section
variable {P : Program} {w : World} {K : PySem.W.Frag} {mg : Str → Option Value} {base : Heap} {N : List Str} {qual : Str} {scope : Scope} {f : Addr} {cd : Value} {A : Around} {outer : List Env} {s : Shared} {H : Hp} {E : XK} {pins : List (Addr × Obj)} {σ : St}
noncomputable abbrev cxE (P : Program) (w : World) (K : PySem.W.Frag) (mg : Str → Option Value) (base : Heap) (N : List Str) (qual : Str) (scope : Scope) (f : Addr) (cd : Value) (A : Around) (outer : List Env) (s : Shared) (H : Hp) (E : XK) : Cx := cxOf (CXE P w) P w K mg base N qual scope f cd A outer s H E
theorem fr_split {b : Addr} (hb : b ∈ frs (envOfC qual scope s.heap.objs.size f cd :: outer)) : b = s.heap.objs.size ∨ b ∈ frs outer := by
  unfold frs at hb ⊢
  rw [List.filterMap_cons] at hb
  have e : (envOfC qual scope s.heap.objs.size f cd).frame = some s.heap.objs.size := rfl
  rw [e] at hb
  exact List.mem_cons.mp hb
theorem leave_on {H1 : Hp} {s1 : Shared} {a C T : Addr} {a0 : Value} (I : Inv (cxE P w K mg base N qual scope f cd A outer s H E) pins σ H1 s1) (hf : FlyE s1.heap a (.ref C) a0 T) (ha : H1 a = none) (hT : H1 T = none) (hna : s.heap.get? a = none) (hnT : s.heap.get? T = none) (q : E (.ref C) none H1) :
    (cxE P w K mg base N qual scope f cd A outer s H E).xe (.ref a) s1 := by
  have hstk := I.stack
  have hfl := hf.flying hstk
  have hfree : ∀ b ∈ a :: T :: frs (envOfC qual scope s.heap.objs.size f cd :: outer), H1 b = none := fun b hb => by
    rcases List.mem_cons.mp hb with e | hb
    · rw [e]; exact ha
    · rcases List.mem_cons.mp hb with e | hb
      · rw [e]; exact hT
      · exact I.stkFree b hb
  refine wpAny_leaves_onW (env := envOfC qual scope s.heap.objs.size f cd) (outer := outer) I.ok.frames rfl hfl fun h' hfl' up => ?_
  obtain ⟨st, hne, hfr, oe, vs, T', oT, ts, g1, g2, g3, g4, g5, g6, g7, g8, g9⟩ := hfl'
  have hnT' : s.heap.get? T' = none := by
    cases q : s.heap.get? T' with
    | none => rfl
    | some o =>
      obtain ⟨o', e1⟩ := (show Un (frs outer) [] H H1 s.heap s1.heap from I.base).there T' o q (by simp)
      by_cases m : T' ∈ a :: T :: frs (envOfC qual scope s.heap.objs.size f cd :: outer)
      · rcases List.mem_cons.mp m with e | m
        · exact absurd e g6
        · rcases List.mem_cons.mp m with e | m
          · rw [e, hnT] at q; cases q
          · obtain ⟨_, o2, e2, nf⟩ := hstk.mem m
            obtain ⟨sl, e3⟩ := up T' o2 e2 nf
            rw [g7] at e3
            cases e3
            exact absurd g8 (nf ts)
      · have g5' : (PySem.W.hideAll s1.heap (a :: T :: frs (envOfC qual scope s.heap.objs.size f cd :: outer))).get? T' = none := g5
        rw [PySem.W.hideAll_get _ e1 m] at g5'
        cases g5'
  refine ⟨a, C, T', a0, H1, rfl, I.os, I.bare, un_out I st up fun b hb => ?_, hok_rest I.hok st hfree, ha, untracked_new I.hok hfree g5, hna, hnT', ⟨oe, vs, oT, ts, g1, g2, g3, g4, g6, g7, g8, g9⟩, q⟩
  rcases List.mem_cons.mp hb with e | hb
  · rw [e]; exact .inr hna
  · rcases List.mem_cons.mp hb with e | hb
    · rw [e]; exact .inr hnT
    · rcases fr_split hb with e | hb
      · rw [e]; exact .inr (Heap.get?_none_of_le (Nat.le_refl _))
      · exact .inl hb
theorem passE : Passes (CXE P w) (cxE P w K mg base N qual scope f cd A outer s H E) E := by
  intro pins σ H1 s1 e s' I h
  obtain ⟨a, C, T, a0, H', rfl, hos, hb, un, hok, ha, hT, na, nT, fl, q⟩ := h
  have I' := I.call' (ch := []) hos un hok hb (fun b z => absurd z (by simp))
  have nn : ∀ b, s1.heap.get? b = none → s.heap.get? b = none := fun b e => by
    cases z : s.heap.get? b with
    | none => rfl
    | some o =>
      obtain ⟨o', e1⟩ := (show Un (frs outer) [] H H1 s.heap s1.heap from I.base).there b o z (by simp)
      rw [e] at e1; cases e1
  exact leave_on I' fl ha hT (nn a na) (nn T nT) q
theorem leave_new {H1 : Hp} {s1 : Shared} {h' : Heap} {e C : Addr} {args : List Value} (I : Inv (cxE P w K mg base N qual scope f cd A outer s H E) pins σ H1 s1) (hx : Heap.MadeExcOf s1.heap h' e (.ref C) args) (q : E (.ref C) none H1) :
    (cxE P w K mg base N qual scope f cd A outer s H E).xe (.ref e) { s1 with heap := h' } := by
  have hstk := I.stack
  have nn : ∀ b, s1.heap.get? b = none → s.heap.get? b = none := fun b e => by
    cases z : s.heap.get? b with
    | none => rfl
    | some o =>
      obtain ⟨o', e1⟩ := (show Un (frs outer) [] H H1 s.heap s1.heap from I.base).there b o z (by simp)
      rw [e] at e1; cases e1
  have hunt : ∀ b, s1.heap.get? b = none → H1 b = none := fun b e => untracked_new (as := []) I.hok (fun _ z => nomatch z) e
  have hfree : ∀ b ∈ frs (envOfC qual scope s.heap.objs.size f cd :: outer), H1 b = none := I.stkFree
  refine wpAny_leaves_madeW (s := { s1 with heap := h' }) (env := envOfC qual scope s.heap.objs.size f cd) (outer := outer) (base := PySem.W.hideAll s1.heap (frs (envOfC qual scope s.heap.objs.size f cd :: outer))) (h := s1.heap) I.ok.frames rfl
    (fun b o e => PySem.W.of_hideAll _ e) (frames_hid hstk fun b hb => hb) hx fun h2 t fl htup hbt up => ?_
  obtain ⟨st, hne, hfr, oe, vs, T', oT, ts, g1, g2, g3, g4, g5, g6, g7, g8, g9⟩ := fl
  have up' : s1.heap.UpToSlots h2 := (Heap.UpToSlots.of_keeps hx.keeps).trans up
  have hnT1 : s1.heap.get? T' = none := by
    cases q : s1.heap.get? T' with
    | none => rfl
    | some o =>
      by_cases m : T' ∈ frs (envOfC qual scope s.heap.objs.size f cd :: outer)
      · obtain ⟨_, o2, e2, nf⟩ := hstk.mem m
        obtain ⟨sl, e3⟩ := up' T' o2 e2 nf
        rw [g7] at e3
        cases e3
        exact absurd g8 (nf ts)
      · rw [PySem.W.hideAll_get _ q m] at g5
        cases g5
  refine ⟨e, C, T', .ref t, H1, rfl, I.os, I.bare, un_out I st up' fun b hb => ?_, hok_rest I.hok st hfree, hunt e hx.new, hunt T' hnT1, nn e hx.new, nn T' hnT1, ⟨oe, vs, oT, ts, g1, g2, g3, g4, g6, g7, g8, g9⟩, q⟩
  rcases fr_split hb with z | hb
  · rw [z]; exact .inr (Heap.get?_none_of_le (Nat.le_refl _))
  · exact .inl hb
end
end L2

set_option Elab.async false
set_option linter.all false
set_option maxRecDepth 100000
set_option maxHeartbeats 0
namespace L2
open PySem PySem.Spec PyProof.Rows
abbrev bmV : List Value := [.type "ValueError", .type "Exception", .type "BaseException", .type "object"]
noncomputable def ExcCl (K : PySem.W.Frag) (C : Addr) : Prop := PySem.W.excIn K C bmV "ValueError.__new__" = true
theorem exc_obj {K : PySem.W.Frag} {h : Heap} {C : Addr} {bmB : List Value} {newId : String} (X : K.In h) (q : PySem.W.excIn K C bmB newId = true) :
    ∃ bm N nm qn bs hd sn sub ab col dd k0 k1 k2 k3 k5 mN, h.get? C = some (excClassObj nm qn C N bs bm hd sn sub ab col dd k0 k1 k2 k3 k5 newId) ∧ h.Ns N mN ∧ mN "__init__" = none ∧ OwnTail h bmB bm := by
  unfold PySem.W.excIn at q
  split at q
  · rename_i dd cd sl ho
    split at q
    · rename_i C' bm k0 k1 k2 k3 n k5 hm hs
      simp only [Bool.and_eq_true, beq_iff_eq, Bool.not_eq_true'] at q
      obtain ⟨⟨⟨⟨⟨rfl, rfl⟩, hdel⟩, ht⟩, hok⟩, hni⟩ := q
      obtain ⟨nm, bs, mro, ns, qn, hd, sn, sub, ab, col, del⟩ := cd
      dsimp only at hm hdel hok hni
      subst hm hdel
      have hsl : sl = #[k0, k1, k2, k3, some (.builtin n), k5] := by
        obtain ⟨l⟩ := sl
        simp only at hs
        rw [hs]
      subst hsl
      exact ⟨bm, ns, nm, qn, bs, hd, sn, sub, ab, col, dd, k0, k1, k2, k3, k5, _, X _ _ ho, .of_isNs (PySem.W.isNs_of_in X hok), PySem.W.nsMap_none_of_in X hok hni, PySem.W.tail_of_in X ht⟩
    · cases q
  · cases q
noncomputable def tRaise (E : XK) (C : Addr) (t : TA) : TS := fun _ σ H => t σ H fun xs H1 => xs.length ≤ sizeLine ∧ E (.ref C) none H1
section
variable {P : Program} {w : World} {K : PySem.W.Frag} {mg : Str → Option Value} {base : Heap} {N : List Str} {qual : Str} {scope : Scope} {f : Addr} {cd : Value} {A : Around} {outer : List Env} {s : Shared} {H : Hp} {E : XK}
theorem ps_raise {x : Str} {np cpos pos : Pos} {e : Expr} {es : List Expr} {t : TA} {C : Addr} {k : Nat} (hC : ExcCl K C) (hr : Room k (cxE P w K mg base N qual scope f cd A outer s H E).A) (hm : mg x = some (.ref C)) (ha : PA (cxE P w K mg base N qual scope f cd A outer s H E) (e :: es) t)
    (hg : Gl (cxE P w K mg base N qual scope f cd A outer s H E) x := by rfl) (hdb : (x == ("__debug__" : Str)) = false := by decide) (he : starEach (e :: es) (cxE P w K mg base N qual scope f cd A outer s H E).env = (false, eval e (cxE P w K mg base N qual scope f cd A outer s H E).env) :: starEach es (cxE P w K mg base N qual scope f cd A outer s H E).env := by rfl)
    (hpl : (backTo cpos (starEach es (cxE P w K mg base N qual scope f cd A outer s H E).env)).any (·.1) = false := by rfl) :
    PS (cxE P w K mg base N qual scope f cd A outer s H E) (.Raise (some (.Call (.Name x np) (e :: es) [] cpos)) none pos) (tRaise E C t) := by
  intro pins s1 σ H1 D I h
  obtain ⟨bm, Nn, nm, qn, bs, hd, sn, sub, ab, col, dd, k0, k1, k2, k3, k5, mN, hC1, hN1, hni, TL1⟩ := exc_obj I.mod.kin hC
  have hbase : bm.contains (.type "BaseException") = true := TL1.hasType (by decide)
  have eb : backTo cpos (starEach (e :: es) (cxE P w K mg base N qual scope f cd A outer s H E).env) = (false, eval e (cxE P w K mg base N qual scope f cd A outer s H E).env) :: backTo cpos (starEach es (cxE P w K mg base N qual scope f cd A outer s H E).env) := by rw [he]; rfl
  refine wpAny_Raise_call_subT (C := C) (mN := mN) (nm := nm) (q := qn) (N := Nn) (bs := bs) (hdct := hd) (sn := sn) (sub := sub) (ab := ab) (col := col) (dd := dd) (k0 := k0) (k1 := k1) (k2 := k2) (k3 := k3) (k5 := k5) PySem.F.excBase_ValueError hbase hr.hd ?_ hni ?_
  · rw [eb]
    simpa using hpl
  refine ld_glob I hg hm ⟨rfl, ?_⟩ hdb
  rw [eb]
  refine Calls.evalArgs_plain ?_
  rw [← eb]
  refine thn (ha cpos pins s1 σ H1 _ I h) fun us s2 ⟨xs, H2, I2, r, hz, q⟩ => ?_
  refine ⟨rfl, by rw [← r.length]; exact hz, I2.bk _ _ hC1, hN1.keeps I2.bk, TL1.keeps I2.bk, fun h' e hx => ?_⟩
  exact leave_new I2 hx q
end
structure MethAllE (P : Program) (w : World) (K : PySem.W.Frag) (mg : Str → Option Value) (base : Heap) (C : Addr) (m : Str) (k : Nat) (ps : List Str) (sp : Sp) : Prop where
  ex : ∃ f fd, Cls K C ∧ Meth K C m f ∧ FnOk P w K mg base (CXE P w) k f fd ps sp ∧ Binds K fd ps []
section
variable {P : Program} {w : World} {K : PySem.W.Frag} {mg : Str → Option Value} {base : Heap}
theorem Mt.okE {C : Addr} {x qual : Str} {st : Stmt} {N ps : List Str} {k : Nat} {sp : Sp} (F : Mt K C x qual st ps) (c : Cls K C) (S : FnScope N ps (defScope st)) (len : ∀ vs H Q E, sp vs H Q E → vs.length = ps.length)
    (hbody : ∀ (f : Addr) (cdv : Value) (A : Around) (outer : List Env) (s : Shared) (H : Hp) (vs : List V) (Q : VK) (E : XK), Room k (A.deeper (envOfC qual (defScope st) s.heap.objs.size f cdv)) → sp vs H Q E →
      ∃ t, PSs (cxE P w K mg base N qual (defScope st) f cdv A outer s H E) (defBody st) t ∧ t { nx := fun _ H' => Q .non H', rt := Q } (start N vs) H) : MethAllE P w K mg base C x (k + 1) ps sp := by
  obtain ⟨f, fd, F, hf, hi, hb⟩ := F.ex
  obtain ⟨oc, od, kV, doc, pm, an, cdv, ct, osl, rfl, lk, hcd⟩ := F.ex
  exact ⟨f, _, c, ⟨hf, hi, F.kp⟩, fn_of lk hcd S len fun A outer s H vs Q E hr hsp => hbody f cdv A outer s H vs Q E hr hsp, hb⟩
end
noncomputable def methKE (ok : Addr → Prop) (m : Str) (sp : Addr → Sp) (E : XK) (t : TA) (x : V) (σ : St) (H1 : Hp) (Q : VK) : Prop := ∃ a C dx fs, x = .ref a ∧ H1 a = some (.ins C dx fs) ∧ ok C ∧ fs.lookup m = none ∧ t σ H1 fun vs H2 => sp C (x :: vs) H2 Q E
noncomputable def tMethE (ok : Addr → Prop) (m : Str) (sp : Addr → Sp) (E : XK) (ta : TE) (t : TA) : TE := fun σ H Q => ta σ H fun x H1 => methKE ok m sp E t x σ H1 Q
section
variable {X : Cx} {x : Str} {k n : Nat} {ps : List Str} {sp : Sp} {spC : Addr → Sp} {e o : Expr} {es : List Expr} {t : TA} {ta : TE} {p pos apos : Pos} {E : XK} {ok : Addr → Prop} {m : Str}
theorem pe_methE {pl : Sem Bool} (hok : ∀ C, ok C → MethAllE X.prog X.w X.K X.mg X.base C m k ps (spC C)) (hr : Room n X.A) (hx : Passes (CXE X.prog X.w) X E) (he : PE X o ta) (ha : PA X (e :: es) t) (hk : k ≤ n := by decide)
    (hst : starEach (e :: es) X.env = (false, eval e X.env) :: starEach es X.env := by rfl) (hpl : (backTo pos (starEach es X.env)).any (·.1) = false := by rfl)
    (ht : eval (.Call (.Attribute o m apos) (e :: es) [] pos) X.env = (do
      let ov ← eval o X.env
      standAt apos.atName
      let (f, first) ← holding [ov] (getMethod ov m pl)
      callWith pos f first (backTo pos (starEach (e :: es) X.env)) (backToKw pos (keywordEach [] X.env))) := by rfl) :
    PE X (.Call (.Attribute o m apos) (e :: es) [] pos) (tMethE ok m spC E ta t) := by
  intro pins s σ H Q I h
  refine PySem.W.methodCall_KW (pl := pl) (thn (he pins s σ H _ I h) fun u s1 hzz => ?_) ht
  obtain ⟨x, H1, I1, rx, a, C, dx, fs, ex, ea, hC, l, q⟩ := hzz
  subst ex
  obtain rfl : u = Value.ref a := rx
  obtain ⟨f, fd, c, hm, F, hb⟩ := (hok C hC).ex
  refine getmeth_ok I1 ea c hm l ?_
  refine PySem.W.callWith_K (first := [.ref a]) (h₀ := X.base) I.ok.mod.kin hm.kp (thn (ha pos pins s1 σ H1 _ I1 q) fun us s2 ⟨vs, H2, I2, r, q2⟩ => ⟨I2.kIn, ?_⟩) hst hpl
  exact run_fn (us := .ref a :: us) (vs := .ref a :: vs) (dvs := []) F (hr.mono hk) hb .nil hx I2 (.cons rfl r) (by rw [List.append_nil]; exact q2)
end
noncomputable def Cx.hand (X : Cx) (a : Addr) : Cx := { X with A := X.A.mark (some (.ref a)), calm := false, xe := fun _ _ => False }
section
variable {X : Cx} {pins : List (Addr × Obj)} {σ : St} {H H' : Hp} {s : Shared} {a C : Addr}
theorem Inv.hand (I : Inv X pins σ H s) : Inv (X.hand a) pins σ H s :=
  ⟨⟨I.ok.mod, I.ok.kind, I.ok.glob, I.ok.blt, I.ok.above, I.ok.inj, I.ok.has, I.ok.cab, (fun z => nomatch z), I.ok.frames, I.ok.stk, I.ok.exf, I.ok.bs, I.ok.bsz, I.ok.noex, I.ok.exfs, I.ok.funs, I.ok.frf⟩, I.os, I.bare, I.base, I.loc, I.cell, I.free, I.freeC, I.pin, I.hok, I.len⟩
theorem Inv.unhand (ok : X.Ok) (I : Inv (X.hand a) pins σ H s) : Inv X pins σ H s := ⟨ok, I.os, I.bare, I.base, I.loc, I.cell, I.free, I.freeC, I.pin, I.hok, I.len⟩
noncomputable def noSt (X : Cx) : St := List.replicate X.N.length none
theorem Inv.forget (I : Inv X pins σ H s) : Inv X pins (noSt X) H s := by
  refine ⟨I.ok, I.os, I.bare, I.base, ?_, I.cell, I.free, I.freeC, I.pin, I.hok, by unfold noSt; rw [List.length_replicate]⟩
  obtain ⟨m, hn, _⟩ := I.loc
  refine ⟨m, hn, fun i x v _ h2 => ?_⟩
  unfold noSt at h2
  rw [List.getElem?_replicate] at h2
  split at h2 <;> cases h2
noncomputable def ExcO (a C : Addr) (h : Heap) : Prop := ∃ o, h.get? a = some o ∧ o.cls = .ref C
noncomputable def excHO (a C : Addr) : HO := .ext (ExcO a C)
theorem Inv.caught {s' : Shared} {o : Obj} {vs : Array Value} (I : Inv X pins σ H s) (hos : s'.os = s.os) (hb : AllBare s'.gens) (un : Un (frs X.stack) [] H H' s.heap s'.heap) (hok : HOk X.prog X.w H' s'.heap) (na : s.heap.get? a = none) (ha : H' a = none)
    (ho : s'.heap.get? a = some o) (hoc : o.cls = .ref C) (hod : o.data = .fields vs) : Inv X pins σ (upd H' a (excHO a C)) s' := by
  have I' := I.call' (ch := []) hos un hok hb (fun b z => absurd z (by simp))
  have na0 : X.s₀.heap.get? a = none ∨ a ∈ X.ex := by
    cases z : X.s₀.heap.get? a with
    | none => exact .inl rfl
    | some q =>
      by_cases m : a ∈ X.ex
      · exact .inr m
      · obtain ⟨o', e1⟩ := I.base.there a q z m
        rw [na] at e1; cases e1
  have nL : X.env.locals ≠ a := fun e => by
    obtain ⟨m, ⟨oL, es, ep, hoL, hdL, _⟩, _⟩ := I'.loc
    rw [e, ho] at hoL; cases hoL; rw [hod] at hdL; cases hdL
  have nt : ∀ b u, H' b = some u → b ≠ a := fun b u e z => by rw [z, ha] at e; cases e
  refine ⟨I'.ok, I'.os, I'.bare, ⟨I'.base.keep, I'.base.slot, fun b q e n hx => ?_, I'.base.there, fun b xs e => ?_, fun b q u e => ?_, fun b ps e => ?_⟩, I'.loc, I'.cell, ?_, fun x c e => ?_, fun p hp => ?_, fun b u e => ?_, I'.len⟩
  · rw [upd_ne]
    · exact I'.base.free b q e n hx
    · intro z
      rcases na0 with y | y
      · rw [z, y] at e; cases e
      · exact hx (by rw [z]; exact y)
  · have := I'.base.tups b xs e
    rw [upd_ne (nt b _ this)]; exact this
  · have := I'.base.frzs b q u e
    rw [upd_ne (nt b _ this)]; exact this
  · obtain ⟨more, h1⟩ := I'.base.tbls b ps e
    exact ⟨more, by rw [upd_ne (nt b _ h1)]; exact h1⟩
  · rw [upd_ne nL]; exact I'.free
  · rw [upd_ne]
    · exact I'.freeC x c e
    · intro z
      obtain ⟨v, oc, hoc', hdc⟩ := I'.cell x c e
      rw [z, ho] at hoc'; cases hoc'; rw [hod] at hdc; cases hdc
  · obtain ⟨e, n, ne, nf, d⟩ := I'.pin p hp
    refine ⟨e, ?_, ne, nf, d⟩
    rw [upd_ne]
    · exact n
    · intro z
      have := (I.pin p hp).1
      rw [z, na] at this; cases this
  · by_cases hba : b = a
    · subst hba
      rw [upd_same] at e
      cases e
      exact ⟨⟨o, ho, hoc⟩, ⟨o, ho⟩, fun h1 h2 ⟨q, e1, e2⟩ k => ⟨q, k q e1, e2⟩⟩
    · rw [upd_ne hba] at e
      refine (I'.hok b u e).stay (fun _ _ _ r => r) (fun c r => ?_) fun c xs r => ?_
      · rw [upd_ne (nt c _ r)]; exact r
      · rw [upd_ne (nt c _ r)]; exact r
theorem Inv.unbound {i : Nat} {x : Str} {h' : Heap} {m : Str → Option Value} {u : Option Value} (I : Inv X pins σ H s) (hN : X.N.Nodup) (hi : X.N[i]? = some x) (hn : s.heap.Ns X.env.locals m) (hn' : h'.Ns X.env.locals (fun y => if y = x then u else m y)) (hs : Heap.SameBut X.env.locals s.heap h') :
    Inv X pins (σ.set i none) H { s with heap := h' } := by
  obtain ⟨m0, hn0, hl⟩ := id I.loc
  have cne := I.cne
  have em : m0 = m := by
    obtain ⟨o1, es1, ep1, a1, b1, c1, d1⟩ := hn0
    obtain ⟨o2, es2, ep2, a2, b2, c2, d2⟩ := hn
    rw [a1] at a2
    cases a2
    rw [b1] at b2
    cases b2
    funext y
    rw [← d1 y, ← d2 y]
  subst em
  obtain ⟨oL, _, _, hoL, _⟩ := id hn0
  refine ⟨I.ok, I.os, I.bare, ⟨fun b o e n hb hx => ?_, fun b o e n hb hx => ?_, I.base.free, fun b o e hx => ?_, I.base.tups, I.base.frzs, I.base.tbls⟩, ⟨_, hn', fun j y v' e1 e2 e3 => ?_⟩, fun y c e => ?_, I.free, I.freeC, fun p hp => ?_, fun b ob e => ?_, by simpa using I.len⟩
  · exact (hs.2 b (Nat.ne_of_lt (Nat.lt_of_lt_of_le (Heap.lt_size e) I.ok.above))).trans (I.base.keep b o e n hb hx)
  · obtain ⟨sl, e1⟩ := I.base.slot b o e n hb hx
    exact ⟨sl, (hs.2 b (Nat.ne_of_lt (Nat.lt_of_lt_of_le (Heap.lt_size e) I.ok.above))).trans e1⟩
  · obtain ⟨o', e1⟩ := I.base.there b o e hx
    exact ⟨o', (hs.2 b (Nat.ne_of_lt (Nat.lt_of_lt_of_le (Heap.lt_size e) I.ok.above))).trans e1⟩
  · by_cases hj : j = i
    · subst hj
      have hiσ : j < σ.length := by rw [I.len]; exact (List.getElem?_eq_some_iff.mp hi).1
      rw [List.getElem?_set_self hiσ] at e2
      cases e2
    · rw [List.getElem?_set_ne (Ne.symm hj)] at e2
      obtain ⟨u', r', q⟩ := hl j y v' e1 e2 e3
      refine ⟨u', r', ?_⟩
      rcases q with ⟨k, e⟩ | ⟨k, c, e, z⟩
      · refine .inl ⟨k, ?_⟩
        have : y ≠ x := fun e => hj (nodup_ix hN e1 (e ▸ hi))
        simp [this, e]
      · exact .inr ⟨k, c, e, z.sameBut hs (cne y c e)⟩
  · obtain ⟨w', z⟩ := I.cell y c e
    exact ⟨w', z.sameBut hs (cne y c e)⟩
  · obtain ⟨e, n, ne, nf, d⟩ := I.pin p hp
    exact ⟨(hs.2 p.1 ne).trans e, n, ne, nf, d⟩
  · refine (I.hok b ob e).stay (fun c w' hc q => (hs.2 c ?_).trans q) (fun _ q => q) fun _ _ q => q
    rintro rfl
    rcases hc with rfl | hc
    · rw [I.free] at e; cases e
    · rw [I.free] at hc; cases hc
end
end L2

set_option Elab.async false
set_option linter.all false
set_option maxRecDepth 100000
set_option maxHeartbeats 0
namespace L2
open PySem PySem.Spec PyProof.Rows
noncomputable abbrev Cx.inTry (X : Cx) (pn : List (Addr × Obj)) (F : Value → Shared → Prop) : Cx := { X with pn := pn, xe := F }
section
variable {X : Cx} {pins : List (Addr × Obj)} {σ : St} {H H' : Hp} {s : Shared} {a C : Addr} {F : Value → Shared → Prop}
theorem Inv.toTry (I : Inv X pins σ H s) : Inv (X.inTry (X.pn ++ pins) F) [] σ H s :=
  ⟨⟨I.ok.mod, I.ok.kind, I.ok.glob, I.ok.blt, I.ok.above, I.ok.inj, I.ok.has, I.ok.cab, I.ok.hd, I.ok.frames, I.ok.stk, I.ok.exf, I.ok.bs, I.ok.bsz, I.ok.noex, I.ok.exfs, I.ok.funs, I.ok.frf⟩, I.os, I.bare, I.base, I.loc, I.cell, I.free, I.freeC, fun p hp => I.pin p (by
    have : p ∈ (X.pn ++ pins) ++ [] := hp
    rwa [List.append_nil] at this), I.hok, I.len⟩
theorem Inv.ofTry {pl : List (Addr × Obj)} (I : Inv (X.inTry (X.pn ++ pins) F) pl σ H s) : Inv X pins σ H s :=
  ⟨⟨I.ok.mod, I.ok.kind, I.ok.glob, I.ok.blt, I.ok.above, I.ok.inj, I.ok.has, I.ok.cab, I.ok.hd, I.ok.frames, I.ok.stk, I.ok.exf, I.ok.bs, I.ok.bsz, I.ok.noex, I.ok.exfs, I.ok.funs, I.ok.frf⟩, I.os, I.bare, I.base, I.loc, I.cell, I.free, I.freeC, fun p hp => I.pin p (List.mem_append_left _ hp), I.hok, I.len⟩
theorem SP.ofTry {D : Ends} {f : Flow} {s' : Shared} (h : SP (X.inTry (X.pn ++ pins) F) [] D f s') : SP X pins D f s' := by
  cases f with
  | next => obtain ⟨σ', H', I, q⟩ := h; exact ⟨σ', H', I.ofTry, q⟩
  | brk => obtain ⟨σ', H', I, q⟩ := h; exact ⟨σ', H', I.ofTry, q⟩
  | cont => obtain ⟨σ', H', I, q⟩ := h; exact ⟨σ', H', I.ofTry, q⟩
  | ret u => obtain ⟨v, σ', H', I, r, q⟩ := h; exact ⟨v, σ', H', I.ofTry, r, q⟩
end
noncomputable def handD (D : Ends) (i : Nat) : Ends := { nx := fun σ H => D.nx (σ.set i none) H, rt := D.rt, bk := fun σ H => D.bk (σ.set i none) H, ct := fun σ H => D.ct (σ.set i none) H }
noncomputable def handE (K : PySem.W.Frag) (CB : Addr) (i : Nat) (z : St) (ts : TS) (D : Ends) : XK := fun cls _ H' => ∃ C, cls = .ref C ∧ PySem.W.exmOne K (.ref C) (.ref CB) = some true ∧ ∀ a, H' a = none → ts (handD D i) (z.set i (some (.ref a))) (upd H' a (excHO a C))
noncomputable def tTry (K : PySem.W.Frag) (CB : Addr) (i : Nat) (z : St) (tb : XK → TS) (ts : TS) : TS := fun D σ H => tb (handE K CB i z ts D) D σ H
section
variable {X : Cx} {body : List Stmt} {x n : Str} {np hpos pos : Pos} {b0 : Stmt} {suite : List Stmt} {CB : Addr} {i : Nat} {tb : XK → TS} {ts : TS} {L : Addr}
theorem ps_try (hm : X.mg x = some (.ref CB)) (hN : X.N.Nodup) (hi : X.N[i]? = some n) (hlo : X.env.scope.names.lookup n = some .local)
    (hb : ∀ (pn : List (Addr × Obj)) (F : Value → Shared → Prop) (E' : XK), Passes (CXE X.prog X.w) (X.inTry pn F) E' → PSs (X.inTry pn F) body (tb E')) (hs : ∀ a, PSs (X.hand a) (b0 :: suite) ts)
    (hgl : Gl X x := by rfl) (hdb : (x == ("__debug__" : Str)) = false := by decide) (hstk : X.stack = X.env :: X.outer := by rfl) (hfr : X.env.frame = some X.env.locals := by rfl) :
    PS X (.Try body [.ExceptHandler (some (.Name x np)) (some n) (b0 :: suite) hpos] [] [] pos) (tTry X.K CB i (noSt X) tb ts) := by
  intro pins s σ H D I h
  refine wpAny_Try_except ?_
  let EB : Value → Shared → Prop := fun e s₁ => wpAny (model X.prog X.w) X.A (noteFrame e X.env) (fun _ s₂ => wpAny (model X.prog X.w) X.A (setFlight e none) (fun _ s₃ => wpAny (model X.prog X.w) X.A (handleBy e X.env [.ExceptHandler (some (.Name x np)) (some n) (b0 :: suite) hpos]) (SP X pins D) X.xe s₃) X.xe s₂) X.xe s₁
  have pass : Passes (CXE X.prog X.w) (X.inTry (X.pn ++ pins) EB) (handE X.K CB i (noSt X) ts D) := by
    intro pl σ1 H1 s1 e s' I1 hc
    obtain ⟨a, C, T, a0, H', rfl, hos, hbare, un, hok, ha, hT, na, nT, fl, q⟩ := hc
    obtain ⟨C', eC, hex, hq⟩ := q
    cases eC
    have J1 : Inv X pins σ1 H1 s1 := I1.ofTry
    have Js := J1.call' (ch := []) hos un hok hbare (fun b z => absurd z (by simp))
    have hst := Js.stack
    have fl1 := fl.flying hst
    rw [hstk] at fl1 hst
    have hA : X.A.frames = some (X.env :: X.outer) := by rw [← hstk]; exact J1.ok.frames
    have hfree : ∀ b ∈ a :: T :: frs (X.env :: X.outer), H' b = none := fun b hb => by
      rcases List.mem_cons.mp hb with e | hb
      · rw [e]; exact ha
      · rcases List.mem_cons.mp hb with e | hb
        · rw [e]; exact hT
        · exact Js.stkFree b (by rw [hstk]; exact hb)
    show wpAny _ X.A (noteFrame (.ref a) X.env) _ _ s'
    refine wpAny_looks_onW hA hfr fl1 fun h4 held4 up4 => ?_
    refine wpAny_landsW held4 fun h5 fl5 up5 => ?_
    -- behind any of these steps: what is not the exception's own is as it was
    have after : ∀ h6 : Heap, (restOf s'.heap a T (X.env :: X.outer)).StaysIn h6 → s'.heap.UpToSlots h6 → Un (frs X.stack) [] H1 H' s1.heap h6 ∧ HOk X.prog X.w H' h6 := by
      intro h6 st6 up6
      refine ⟨⟨fun b o e nn hb hx => ?_, fun b o e nn hb hx => ?_, un.free, fun b o e hx => ?_, un.tups, un.frzs, un.tbls⟩, hok_rest hok st6 hfree⟩
      · have e1 := un.keep b o e nn hb hx
        refine st6 b o (PySem.W.hideAll_get _ e1 fun z => ?_)
        rcases List.mem_cons.mp z with y | z
        · rw [y, na] at e; cases e
        · rcases List.mem_cons.mp z with y | z
          · rw [y, nT] at e; cases e
          · exact hb (by rw [hstk]; exact z)
      · obtain ⟨sl, e1⟩ := un.slot b o e nn hb hx
        have m : b ∈ frs (X.env :: X.outer) := by rw [← hstk]; exact hb
        obtain ⟨_, o2, e2, nf⟩ := hst.mem m
        rw [e1] at e2
        cases e2
        obtain ⟨sl2, e3⟩ := up6 b _ e1 nf
        exact ⟨sl2, e3⟩
      · obtain ⟨o', e1⟩ := un.there b o e hx
        by_cases m : b ∈ a :: T :: frs (X.env :: X.outer)
        · rcases List.mem_cons.mp m with y | m
          · rw [y, na] at e; cases e
          · rcases List.mem_cons.mp m with y | m
            · rw [y, nT] at e; cases e
            · obtain ⟨_, o2, e2, nf⟩ := hst.mem m
              obtain ⟨sl2, e3⟩ := up6 b _ e2 nf
              exact ⟨_, e3⟩
        · exact ⟨o', st6 b o' (PySem.W.hideAll_get _ e1 m)⟩
    have up45 := up4.trans up5
    obtain ⟨un5, hok5⟩ := after h5 fl5.1 up45
    have J5 : Inv X pins σ1 H' { s' with heap := h5 } := J1.call' (ch := []) (s' := { s' with heap := h5 }) hos un5 hok5 hbare (fun b z => absurd z (by simp))
    obtain ⟨oe5, he5, hc5⟩ := fl5.there
    refine wpAny_handleBy_cons (codeAny_handlers_test ?_) (by intro q; cases q)
    refine ld_glob (X := X.hand a) (J5.hand) hgl hm ?_ hdb
    have LT : PySem.W.Looks (model X.prog X.w) h5 (typeOf (.ref a)) (.ref C) := hc5 ▸ (PySem.W.Looks.ld he5).andThen .now
    have LM := PySem.W.exm_one (M := model X.prog X.w) (h := h5) J5.kIn LT hex
    refine LM.here ?_
    refine codeAny_handlers_suite_as ?_
    refine lands_againW fl5 fun h6 fl6 up6 => ?_
    have up46 := up45.trans up6
    obtain ⟨un6, hok6⟩ := after h6 fl6.1 up46
    obtain ⟨oe6, vs6, he6, hc6, hd6, _⟩ := fl6.first
    have J6 := J1.caught (s' := { s' with heap := h6 }) (a := a) (C := C) hos hbare un6 hok6 na ha he6 hc6 hd6
    have J6' := J6.forget
    refine store_ok (X := X.hand a) (v := .ref a) (J6'.hand) hN hi (.inl hlo) rfl (fun s7 J7 => ?_) (.inr hlo)
    have suite := hs a pins s7 _ _ (handD D i) J7 (hq a ha)
    refine wpAny_mono suite (fun f s8 h8 => ?_) fun _ _ z => z.elim
    -- the name goes
    have gone : ∀ {σ8 : St} {H8 : Hp}, Inv (X.hand a) pins σ8 H8 s8 → ∀ (R : Shared → Prop), (∀ s9, Inv X pins (σ8.set i none) H8 s9 → R s9) → wpAny (model X.prog X.w) X.A (do bindName X.env n .none; unbindBehindTheSuite X.env n hpos) (fun _ s9 => R s9) X.xe s8 := by
      intro σ8 H8 J8 R hR
      have K8 : Inv X pins σ8 H8 s8 := J8.unhand J1.ok
      refine wpAny_bind (wpAny_bindName (store_ok (v := .non) K8 hN hi (.inl hlo) rfl (fun s9 J9 => ?_) (.inr hlo)))
      unfold unbindBehindTheSuite
      refine wpAny_onRaise ?_
      obtain ⟨m, hn, hl⟩ := id J9.loc
      have hiσ : i < σ8.length := by rw [K8.len]; exact (List.getElem?_eq_some_iff.mp hi).1
      obtain ⟨u, ru, lk⟩ := hl i n .non hi (by rw [List.getElem?_set_self hiσ]) (.inl hlo)
      have hmn : m n = some u := by
        rcases lk with ⟨_, e⟩ | ⟨k, _⟩
        · exact e
        · rcases k with k | k <;> rw [show X.env.kindOf n = some .local from hlo] at k <;> cases k
      have hcls : (X.env.scope.kind == .class || (X.env.scope.kind == .module && X.env.locals != X.env.globals)) = false := by rw [J9.ok.kind]; rfl
      refine wpAny_unbindName_local hlo hn hmn hcls fun h' u' hn' hsb => ?_
      have J10 := J9.unbound hN hi hn hn' hsb
      rw [List.set_set] at J10
      exact hR _ J10
    cases f with
    | next => obtain ⟨σ8, H8, J8, q8⟩ := h8; exact gone J8 _ fun s9 J9 => ⟨_, _, J9, q8⟩
    | brk => obtain ⟨σ8, H8, J8, q8⟩ := h8; exact gone J8 _ fun s9 J9 => ⟨_, _, J9, q8⟩
    | cont => obtain ⟨σ8, H8, J8, q8⟩ := h8; exact gone J8 _ fun s9 J9 => ⟨_, _, J9, q8⟩
    | ret u => obtain ⟨v, σ8, H8, J8, r8, q8⟩ := h8; exact gone J8 _ fun s9 J9 => ⟨_, _, _, J9, r8, q8⟩
  have hb' := hb (X.pn ++ pins) EB _ pass [] s σ H D I.toTry h
  refine wpAny_mono hb' (fun f s1 q => ?_) fun _ _ z => z
  cases f with
  | next => exact wpAny_execs_nil (SP.ofTry q)
  | brk => exact SP.ofTry q
  | cont => exact SP.ofTry q
  | ret u => exact SP.ofTry q
end
end L2

set_option Elab.async false
set_option linter.all false
set_option maxRecDepth 100000
set_option maxHeartbeats 0
namespace L2
open PySem PySem.Spec PySem.Calls PyProof.Rows PySem.W PySem.Builtin PySem.Builtin.ObjectAttr PySem.Builtin.Getset_descriptor
section
variable {prog : Program} {w : World} {A : Around} {E : Value → Shared → Prop} {s : Shared} {K : PySem.W.Frag} {a C : Addr} {R : Result → Shared → Prop}
structure ExcF (K : PySem.W.Frag) (C : Addr) : Prop where
  ga : PySem.W.findIn K (.ref C) "__getattribute__" = some (some (.builtin "BaseException.__getattribute__"))
  gt : PySem.W.findIn K (.ref C) "__getattr__" = some none
  cl : PySem.W.findIn K (.ref C) "__class__" = some (some (.builtin "object.__class__"))
  ob : PySem.W.mroIn K C (.type "object") = some true
  be : PySem.W.mroIn K C (.type "BaseException") = some true
  ci : (PySem.W.clsIn K C).isSome = true
theorem exc_class_get {tp : Value} (X : K.In s.heap) (x : ExcO a C s.heap) (F : ExcF K C) (h : R (.ok (.ret (.ref C))) s) :
    codeAny (model prog w) A (.call (.builtin "getset_descriptor.__get__") ⟨[.builtin "object.__class__", .ref a, tp], []⟩) R s := by
  obtain ⟨hh, g, dr, t, os⟩ := s
  obtain ⟨o, ho, hc⟩ := x
  have L0 : Looks (model prog w) hh (typeOf (.ref a)) (.ref C) := hc ▸ (Looks.ld ho).andThen .now
  have L1 := looks_mroIn (M := model prog w) X F.ob
  refine codeAny_call_builtin KF.slot_gs.plain KF.entry_gs (KF.slot_gs.check _ _ _ _ _ _ _ _ KF.type_class (KF.args_gs _ _ _) ?_)
  unfold Builtin.«getset_descriptor.__get__» descrGet
  rw [dga_obj]
  refine wpAny_bind (wpAny_pure ?_)
  unfold descrGetter descrCheckInstance descrNameAndClass isInstance
  simp only [KF.owner_class]
  repeat lk
  refine ⟨Code.quiet_builtin _ (by decide +kernel), codeAny_builtin KF.entry_class ?_⟩
  unfold Builtin.«object.__class__» shownTypeOf
  repeat lk
  exact h
theorem exc_class_entry {tk : Tok} {Q : Fin → Shared → Prop} (X : K.In s.heap) (x : ExcO a C s.heap) (F : ExcF K C) (h : Q (.done (.ret (.ref C))) s) : wpAny (model prog w) A (Builtin.«object.__getattribute__» ⟨[.ref a, .str "__class__" tk], []⟩) Q E s := by
  obtain ⟨hh, g, dr, t, os⟩ := s
  obtain ⟨o, ho, hc⟩ := id x
  have L0 : Looks (model prog w) hh (typeOf (.ref a)) (.ref C) := hc ▸ (Looks.ld ho).andThen .now
  have L1 := looks_findIn (M := model prog w) X F.cl
  have hT5 : (⟨hh, g, dr, t, os⟩ : Shared).TypeIs (.builtin "object.__class__") "getset_descriptor" := PySem.F.typeOf_object_class
  have f5 := PySem.F.typeOf_object_class
  have f6 := PySem.F.slot_gs_get.lookup
  have f7 := PySem.F.slot_gs_set.lookup
  repeat (any_goals (first | assumption | with_reducible refine Looks.at L0 ?_ | with_reducible refine Looks.at L1 ?_ | wp_step))
  refine exc_class_get X x F ?_
  exact wpAny_pure h
theorem exc_ga_check {M : Model} {nameV : Value} {Q : Unit → Shared → Prop} (X : K.In s.heap) (x : ExcO a C s.heap) (F : ExcF K C) (hq : Q () s) : wpAny M A (checkBuiltinCall "BaseException.__getattribute__" ⟨[.ref a, nameV], []⟩) Q E s := by
  obtain ⟨hh, g, dr, t, os⟩ := s
  obtain ⟨o, ho, hc⟩ := id x
  have L0 : Looks M hh (typeOf (.ref a)) (.ref C) := hc ▸ (Looks.ld ho).andThen .now
  have L1 := looks_mroIn (M := M) X F.be
  have hk : builtinKind "BaseException.__getattribute__" = some .slot := by decide +kernel
  have hsplit : splitId "BaseException.__getattribute__" = some ("BaseException", "__getattribute__") := by decide +kernel
  have ha := PySem.F.args_bexc_ga (.ref a) nameV
  simp only [checkBuiltinCall, hk, hsplit]
  refine wpAny_bind ?_
  · unfold isInstance
    repeat (first | with_reducible refine Looks.at L0 ?_ | with_reducible refine Looks.at L1 ?_ | wp_step)
    exact hq
theorem exc_class_by {tk : Tok} {fill expr : Bool} {Q : Value → Shared → Prop} (X : K.In s.heap) (x : ExcO a C s.heap) (F : ExcF K C) (hq : Q (.ref C) s) : wpAny (model prog w) A (getAttrBy (.ref a) (.str "__class__" tk) fill expr) Q E s := by
  obtain ⟨hh, g, dr, t, os⟩ := s
  obtain ⟨o, ho, hc⟩ := id x
  have L0 : Looks (model prog w) hh (typeOf (.ref a)) (.ref C) := hc ▸ (Looks.ld ho).andThen .now
  have L1 := looks_findIn (M := model prog w) X F.ga
  have L2 := looks_findIn (M := model prog w) X F.gt
  have f3 := PySem.F.attrBase_ValueError.ga.bind (.ref a)
  have hx0 : (expr && onTheHeap (Value.builtin "BaseException.__getattribute__")) = false := by cases expr <;> rfl
  have hx2 : (Value.builtin "BaseException.__getattribute__" == Value.builtin "object.__getattribute__") = false := by decide +kernel
  have hx1 : (onTheHeap (Value.ref C) && Value.builtin "BaseException.__getattribute__" == Value.builtin "object.__getattribute__") = false := by rw [hx2]; rfl
  repeat (any_goals (first | assumption | with_reducible refine Looks.at L0 ?_ | with_reducible refine Looks.at L1 ?_ | with_reducible refine Looks.at L2 ?_ | wp_step))
  refine codeAny_call_builtin PySem.F.attrBase_ValueError.ga.plain PySem.F.entry_bexc_ga (exc_ga_check X x F (exc_class_entry X x F ?_))
  repeat (any_goals (first | assumption | wp_step))
theorem exc_class {Q : Option Value → Shared → Prop} (X : K.In s.heap) (x : ExcO a C s.heap) (F : ExcF K C) (hq : Q (some (.ref C)) { s with toks := s.toks + 1 }) : wpAny (model prog w) A (getAttr? (.ref a) "__class__") Q E s := by
  obtain ⟨hh, g, dr, t, os⟩ := s
  unfold getAttr? getAttrBy?
  refine wpAny_bind (wpAny_mkText (wpAny_bind (wpAny_attempt (exc_class_by (s := ⟨hh, g, dr, t + 1, os⟩) X x F ?_))))
  exact wpAny_pure hq
theorem kitx_exc (F : ExcF K C) : KitX K (.ref a) (.ref C) (ExcO a C) where
  ty := fun M h _ ⟨o, ho, hc⟩ => hc ▸ (Looks.ld ho).andThen .now
  it := fun _ _ X _ => by
    have hcD := F.ci
    unfold PySem.W.clsIn at hcD
    split at hcD
    · rename_i c' d' cd' sl' ho
      intro A' Q' E' s' k q
      unfold isType loadHead
      exact wpAny_bind (wpAny_loadPart (k _ _ (X _ _ ho)) (wpAny_pure q))
    · cases hcD
  ne := fun h tp dd its n sl X htp => by
    have hcD := F.ci
    refine Bool.eq_false_iff.mpr fun q => ?_
    have e : C = tp := Value.ref.inj (beq_iff_eq.mp q)
    subst e
    unfold PySem.W.clsIn at hcD
    split at hcD
    · rename_i c' d' cd' sl' ho
      have z := (X _ _ ho).symm.trans htp
      cases z
    · cases hcD
  ca := fun X x k => exc_class X x F k
end
section
variable {X : Cx}
noncomputable def rIsiE (K : PySem.W.Frag) : List V → Hp → VK → Prop := fun xs H Q => ∃ a C c cv b, xs = [.ref a, c] ∧ H a = some (excHO a C) ∧ ExcF K C ∧ clsVal c = some cv ∧ PySem.W.kitOne K (.ref C) cv = some b ∧ Q (.bl b) H
theorem call_isinstE : CallR X (.builtin "isinstance") (rIsiE X.K) := by
  intro pins s σ H xs us Q I r h
  obtain ⟨a, C, c, cv, b, rfl, ha, F, hc, hk, q⟩ := h
  obtain ⟨u, w', rfl, r1, r2⟩ := vals2 r
  cases r1
  have e : w' = cv := by
    cases c with
    | ty n => cases hc; exact r2
    | ref C => cases hc; exact r2
    | _ => cases hc
  subst e
  obtain ⟨x, _, _⟩ := (show ObjOk X.prog X.w H s.heap a (excHO a C) from I.hok a _ ha)
  exact PySem.W.kia_one (kitx_exc F) I.kIn x hk (fun z => nomatch z) fun tk => ⟨.bl b, H, I.tok _, rfl, q⟩
end
end L2

set_option Elab.async false
set_option linter.all false
set_option maxRecDepth 100000
set_option maxHeartbeats 0
namespace L2
open PySem PySem.Spec PyProof.Rows
structure RoomH (k : Nat) (A : Around) : Prop where
  dp : A.depth + 3 * k + 5 < recursionLimit
  un : A.units + 16 * k + 200 < cLine
theorem RoomH.mono {j k : Nat} {A : Around} (r : RoomH k A) (h : j ≤ k) : RoomH j A := ⟨by have := r.dp; omega, by have := r.un; omega⟩
theorem RoomH.deeper {k : Nat} {A : Around} (r : RoomH (k + 1) A) (env : Env) : RoomH k (A.deeper env) :=
  ⟨by have := r.dp; show A.depth + 1 + 3 * k + 5 < _; omega, by have := r.un; show A.units + 3 + 16 * k + 200 < _; omega⟩
theorem RoomH.depth {k : Nat} {A : Around} (r : RoomH k A) : A.depth < recursionLimit := by have := r.dp; omega
theorem RoomH.units {k : Nat} {A : Around} (r : RoomH k A) : A.units + 64 < cLine := by have := r.un; omega
theorem Room.hand {k : Nat} {A : Around} {h : Option Value} (r : Room k A) : RoomH k (A.mark h) := ⟨r.dp, r.un⟩
theorem hu16H {A : Around} {k : Nat} (hr : RoomH k A) : A.units + 16 < cLine := Nat.lt_of_le_of_lt (Nat.add_le_add_left (by decide : 16 ≤ 64) _) hr.units
noncomputable def cxH (CX : CXT) (P : Program) (w : World) (K : PySem.W.Frag) (mg : Str → Option Value) (base : Heap) (N : List Str) (qual : Str) (scope : Scope) (f : Addr) (cd : Value) (A : Around) (outer : List Env) (s : Shared) (H : Hp) (E : XK) : Cx := { cxOf CX P w K mg base N qual scope f cd A outer s H E with calm := false }
structure FnOkH (P : Program) (w : World) (K : PySem.W.Frag) (mg : Str → Option Value) (base : Heap) (CX : CXT) (k : Nat) (f : Addr) (fd : FuncData) (ps : List Str) (sp : Sp) : Prop where
  len : ∀ vs H Q E, sp vs H Q E → vs.length = ps.length
  run : ∀ (A : Around) (outer : List Env) (s : Shared) (H : Hp) (args : Args) (us : List Value) (vs : List V) (Q : VK) (E : XK), RoomH k A → Env0 P w K mg base A outer s H → BindsTo s fd args (ps.zip us) → Vals vs us → sp vs H Q E →
    codeAny (model P w) A (.call (.ref f) args) (CR CX outer P w H s Q E) s
theorem inv_startH {CX : CXT} {P : Program} {w : World} {K : PySem.W.Frag} {mg : Str → Option Value} {base : Heap} {N ps : List Str} {qual : Str} {scope : Scope} {f : Addr} {cd : Value} {A : Around} {outer : List Env} {s s1 : Shared} {H : Hp} {E : XK} {us : List Value} {vs : List V}
    (S : FnScope N ps scope) (e0 : Env0 P w K mg base A outer s H) (hl : vs.length = ps.length) (r : Vals vs us)
    (x : InCallC s s.heap.objs.size (bindL (envOfC qual scope s.heap.objs.size f cd).kindOf (ps.zip us) fun _ => none) (cellsFrom (s.heap.objs.size + 1) scope.names []) (bindC (envOfC qual scope s.heap.objs.size f cd).kindOf (ps.zip us) fun _ => none) s1) :
    Inv (cxH CX P w K mg base N qual scope f cd A outer s H E) [] (start N vs) H s1 := by
  have hpl : ps.length ≤ N.length := by have := congrArg List.length S.pre; rw [List.length_take] at this; omega
  obtain ⟨h1, tk, rfl, hk⟩ := x.done
  have noA : ∀ b : Addr, b ∉ (cxH CX P w K mg base N qual scope f cd A outer s H E).ex := fun b z => absurd (show b ∈ ([] : List Addr) from z) (by simp)
  refine ⟨⟨e0.mod, S.kind, rfl, rfl, Nat.le_refl _, fun y z c h1 h2 => ?_, fun y hy => ?_, fun y c _ h => ?_, (fun z => nomatch z), Around.frames_deeper e0.frames, .inr ⟨rfl, rfl⟩, fun b z => absurd z (noA b), e0.bs, e0.bsz, fun b _ _ => noA b, fun b z => absurd z (noA b), e0.funs, e0.frf⟩,
    rfl, e0.bare, Un.kept hk, ⟨_, x.toInCall.ns, fun i y v h1 h2 h3 => ?_⟩, fun y c h => ⟨_, x.cell y c h⟩, e0.hok.fresh (Nat.le_refl _), fun y c h => ?_, fun p hp => absurd (show p ∈ ([] : List (Addr × Obj)) from hp) (by simp), e0.hok.kept hk, ?_⟩
  · exact name_of_addr x.apart (PySem.mem_of_lookup h1) (PySem.mem_of_lookup h2)
  · have hy : scope.names.lookup y = some .cell ∨ scope.names.lookup y = some .free := hy
    rcases hy with hy | hy
    · exact cell_has hy
    · exact absurd rfl (S.nofree _ (PySem.mem_of_lookup hy))
  · exact Nat.le_of_lt (x.above y c (PySem.mem_of_lookup h))
  · have hi : i < vs.length := by
      unfold start at h2
      by_cases hi : i < vs.length
      · exact hi
      · rw [List.getElem?_append_right (by simpa using hi)] at h2
        rw [List.getElem?_replicate] at h2
        split at h2 <;> cases h2
    have ha : vs[i]? = some v := by
      unfold start at h2
      rw [List.getElem?_append_left (by simpa using hi), List.getElem?_map] at h2
      cases e : vs[i]? with
      | none => rw [e] at h2; cases h2
      | some a => rw [e] at h2; cases h2; rfl
    obtain ⟨u, hu, rv⟩ := r.get ha
    have hp : ps[i]? = some y := by
      rw [← S.pre, List.getElem?_take_of_lt (by omega)]; exact h1
    have ndP : ps.Nodup := by rw [← S.pre]; exact S.nd.sublist (List.take_sublist _ _)
    refine ⟨u, rv, ?_⟩
    rcases S.par y (List.mem_of_getElem? hp) with k | k
    · exact .inl ⟨k, bindL_get ndP hp hu k⟩
    · obtain ⟨c, e⟩ := cell_has (n := s.heap.objs.size + 1) k
      refine .inr ⟨.inl k, c, e, ?_⟩
      have q := x.cell y c e
      rw [bindC_get ndP hp hu (by show scope.names.lookup y ≠ _; rw [k]; decide)] at q
      exact q
  · exact e0.hok.fresh (Nat.le_of_lt (x.above y c (PySem.mem_of_lookup h)))
  · unfold start
    show _ = N.length
    rw [List.length_append, List.length_map, List.length_replicate]
    omega
theorem fn_ofH {CX : CXT} {P : Program} {w : World} {K : PySem.W.Frag} {mg : Str → Option Value} {base : Heap} {k : Nat} {f : Addr} {name qual : Str} {params : Arguments} {body : List Stmt} {scope : Scope} {dV kV doc pm cdv ct oc : Value} {an od : Option Addr}
    {osl : Array (Option Value)} {N ps : List Str} {sp : Sp} (lk : K.lookup f = some ⟨oc, od, .func (PySem.W.fnOf name qual params body scope dV kV doc pm an cdv ct), osl⟩) (hcd : PySem.W.codeIn K cdv qual = true) (S : FnScope N ps scope)
    (len : ∀ vs H Q E, sp vs H Q E → vs.length = ps.length)
    (hbody : ∀ (A : Around) (outer : List Env) (s : Shared) (H : Hp) (vs : List V) (Q : VK) (E : XK), RoomH k (A.deeper (envOfC qual scope s.heap.objs.size f cdv)) → sp vs H Q E →
      ∃ t, PSs (cxH CX P w K mg base N qual scope f cdv A outer s H E) body t ∧ t { nx := fun _ H' => Q .non H', rt := Q } (start N vs) H) :
    FnOkH P w K mg base CX (k + 1) f (PySem.W.fnOf name qual params body scope dV kV doc pm an cdv ct) ps sp := by
  refine ⟨len, fun A outer s H args us vs Q E hr e0 hb r hsp => ?_⟩
  have hl := len _ _ _ _ hsp
  have KX : K.In s.heap := e0.mod.kin.keeps fun b o e => (e0.bs b o e).1
  have lim : s.heap.NoLimit := e0.mod.nolimit.keeps fun b o e => (e0.bs b o e).1
  have hkind : ∀ y ∈ ps.zip us, scope.names.lookup y.1 = some .local ∨ (scope.names.lookup y.1 = some .cell ∧ ((cellsFrom (s.heap.objs.size + 1) scope.names []).lookup y.1).isSome = true) := fun ⟨n, v⟩ hy => by
    rcases S.par n (List.of_mem_zip hy).1 with q | q
    · exact .inl q
    · exact .inr ⟨q, PySem.W.cellsFrom_some _ _ _ (.inl q)⟩
  refine codeAny_call_function hr.depth (KX _ _ lk) rfl S.co S.gen rfl (PySem.W.codeRec_of KX hcd) (hb _ _ _ _ ?_)
  refine wpAny_newFunctionEnv_cells S.kind hkind fun env he s1 x => ?_
  subst he
  refine ⟨lim.keeps x.toInCall.keep, codeAny_func ?_⟩
  obtain ⟨t, ht, hq⟩ := hbody A outer s H vs Q E (hr.deeper _) hsp
  have I : Inv (cxH CX P w K mg base N qual scope f cdv A outer s H E) [] (start N vs) H s1 := inv_startH S e0 hl r x
  refine wpAny_mono (ht [] s1 (start N vs) H _ I hq) (fun fl s' hs => ?_) fun e s' hs => hs
  have fin : ∀ {σ' : St} {H' : Hp} {v : V} {u : Value}, Inv (cxH CX P w K mg base N qual scope f cdv A outer s H E) [] σ' H' s' → RelV v u → Q v H' → CE outer P w H s Q u s' :=
    fun {σ' H' v u} J rv q => ⟨v, H', J.os, J.bare, J.base, J.hok, rv, q⟩
  cases fl with
  | ret u =>
    obtain ⟨v, σ', H', J, rv, q⟩ := hs
    exact fin J rv q
  | next =>
    obtain ⟨σ', H', J, q⟩ := hs
    exact fin (v := V.non) (u := Value.none) J rfl q
  | brk =>
    obtain ⟨_, _, _, q⟩ := hs
    exact False.elim q
  | cont =>
    obtain ⟨_, _, _, q⟩ := hs
    exact False.elim q
structure FnAllH (P : Program) (w : World) (K : PySem.W.Frag) (mg : Str → Option Value) (base : Heap) (x : Str) (k : Nat) (ps : List Str) (sp : Sp) : Prop where
  ex : ∃ f fd, FnOkH P w K mg base CX0 k f fd ps sp ∧ mg x = some (.ref f) ∧ PySem.W.keepIn K (.ref f) = true ∧ Binds K fd ps []
section
variable {P : Program} {w : World} {K : PySem.W.Frag} {mg : Str → Option Value} {base : Heap}
theorem Fn.okH {x : Str} {st : Stmt} {N ps : List Str} {k : Nat} {sp : Sp} (F : Fn K mg x st ps) (S : FnScope N ps (defScope st)) (len : ∀ vs H Q E, sp vs H Q E → vs.length = ps.length)
    (hbody : ∀ (f : Addr) (cdv : Value) (A : Around) (outer : List Env) (s : Shared) (H : Hp) (vs : List V) (Q : VK) (E : XK), RoomH k (A.deeper (envOfC x (defScope st) s.heap.objs.size f cdv)) → sp vs H Q E →
      ∃ t, PSs (cxH CX0 P w K mg base N x (defScope st) f cdv A outer s H E).nox (defBody st) t ∧ t { nx := fun _ H' => Q .non H', rt := Q } (start N vs) H) : FnAllH P w K mg base x (k + 1) ps sp := by
  obtain ⟨f, fd, F, hm, hb⟩ := F.ex
  obtain ⟨oc, od, kV, doc, pm, an, cdv, ct, osl, rfl, lk, hcd⟩ := F.ex
  exact ⟨f, _, fn_ofH lk hcd S len fun A outer s H vs Q E hr hsp => let ⟨t, h, q⟩ := hbody f cdv A outer s H vs Q E hr hsp; ⟨t, h.nox, q⟩, hm, F.kp, hb⟩
end
section
variable {X : Cx} {x : Str} {k n : Nat} {ps : List Str} {sp : Sp} {e : Expr} {es : List Expr} {t : TA} {p pos : Pos}
theorem pe_callH (F : FnAllH X.prog X.w X.K X.mg X.base x k ps sp) (hr : RoomH n X.A) (ha : PA X (e :: es) t) (hk : k ≤ n := by decide) (hg : Gl X x := by rfl) (hdb : (x == ("__debug__" : Str)) = false := by decide)
    (he : starEach (e :: es) X.env = (false, eval e X.env) :: starEach es X.env := by rfl) (hpl : (backTo pos (starEach es X.env)).any (·.1) = false := by rfl) : PE X (.Call (.Name x p) (e :: es) [] pos) (tCall0 sp t) := by
  obtain ⟨f, fd, G, hm, hkp, hb⟩ := F.ex
  intro pins s σ H Q I h
  refine wpAny_Call_Name_kw (ld_glob I hg hm ?_ hdb)
  refine PySem.W.callWith_K (h₀ := X.base) I.ok.mod.kin hkp (thn (ha pos pins s σ H _ I h) fun us s1 ⟨vs, H1, I1, r, q⟩ => ⟨I1.kIn, ?_⟩) he hpl
  have hl : us.length = ps.length := by rw [← r.length]; exact G.len _ _ _ _ q
  have hb' := hb s1 us I1.kIn (by simpa using hl)
  rw [List.append_nil] at hb'
  refine wpAny_call (codeAny_mono (G.run X.A X.stack s1 H1 ⟨us, []⟩ us vs Q E0 (hr.mono hk) I1.env0 hb' r q) fun r s' hq => ?_)
  cases r with
  | error e => exact (hq : False).elim
  | ok fl =>
    cases fl with
    | ret u => exact I1.after hq
    | _ => exact (hq : False).elim
end
end L2

set_option Elab.async false
set_option linter.all false
set_option maxRecDepth 100000
namespace L2
open PySem PySem.Spec PyProof.Rows
section
variable {κ : Type} [DecidableEq κ]
noncomputable def valV (kvs : List (κ × V)) (k : κ) : Option V := (kvs.find? fun kv => decide (kv.1 = k)).map (·.2)
noncomputable def putK (kvs : List (κ × V)) (k : κ) (v : V) : List (κ × V) :=
  if (kvs.any fun kv => decide (kv.1 = k)) = true then kvs.map (fun kv => if kv.1 = k then (kv.1, v) else kv) else kvs ++ [(k, v)]
theorem valV_pos {p : κ × V} {r : List (κ × V)} {k : κ} (e : p.1 = k) : valV (p :: r) k = some p.2 := by simp [valV, List.find?_cons, e]
theorem valV_neg {p : κ × V} {r : List (κ × V)} {k : κ} (e : ¬ p.1 = k) : valV (p :: r) k = valV r k := by simp [valV, List.find?_cons, e]
theorem valV_any (k : κ) : ∀ kvs : List (κ × V), (kvs.any fun kv => decide (kv.1 = k)) = (valV kvs k).isSome
  | [] => rfl
  | p :: r => by
    rw [List.any_cons]
    by_cases e : p.1 = k
    · simp only [valV_pos e, decide_eq_true e, Bool.true_or, Option.isSome_some]
    · rw [valV_neg e, decide_eq_false e, Bool.false_or]; exact valV_any k r
theorem length_putK (kvs : List (κ × V)) (k : κ) (v : V) : (putK kvs k v).length ≤ kvs.length + 1 := by
  unfold putK
  split
  · rw [List.length_map]; omega
  · rw [List.length_append, List.length_cons, List.length_nil]; omega
theorem RelO.isSome_eq {o : Option V} {u : Option Value} (r : RelO o u) : o.isSome = u.isSome := by
  cases o with
  | none => cases u with
    | none => rfl
    | some _ => exact (show False from r).elim
  | some _ => cases u with
    | none => exact (show False from r).elim
    | some _ => rfl
theorem KV.val {kvs : List (κ × V)} {vs : List (κ × Value)} (r : KV kvs vs) (k : κ) : RelO (valV kvs k) (valueAt vs k) := by
  unfold KV at r
  induction r with
  | nil => exact True.intro
  | @cons p q ps qs h t ih =>
    obtain ⟨h1, h2⟩ := h
    by_cases e : p.1 = k
    · have e' : q.1 = k := h1.symm.trans e
      have b : valueAt (q :: qs) k = some q.2 := by simp [valueAt, List.find?_cons, e']
      rw [valV_pos e, b]; exact h2
    · have e' : ¬ q.1 = k := fun z => e (h1.trans z)
      have b : valueAt (q :: qs) k = valueAt qs k := by simp [valueAt, List.find?_cons, e']
      rw [valV_neg e, b]; exact ih
theorem KV.any {kvs : List (κ × V)} {vs : List (κ × Value)} (r : KV kvs vs) (k : κ) : (kvs.any fun kv => decide (kv.1 = k)) = vs.any fun kv => decide (kv.1 = k) := by
  unfold KV at r
  induction r with
  | nil => rfl
  | cons h t ih => rw [List.any_cons, List.any_cons, ih, h.1]
theorem KV.repl {kvs : List (κ × V)} {vs : List (κ × Value)} (r : KV kvs vs) (k : κ) {y : V} {u : Value} (ry : RelV y u) :
    KV (kvs.map fun kv => if kv.1 = k then (kv.1, y) else kv) (vs.map fun kv => if kv.1 = k then (kv.1, u) else kv) := by
  unfold KV at r ⊢
  induction r with
  | nil => exact .nil
  | @cons p q ps qs h t ih =>
    rw [List.map_cons, List.map_cons]
    refine .cons ?_ ih
    obtain ⟨h1, h2⟩ := h
    by_cases e : p.1 = k
    · rw [if_pos e, if_pos (h1.symm.trans e)]; exact ⟨h1, ry⟩
    · rw [if_neg e, if_neg (fun z => e (h1.trans z))]; exact ⟨h1, h2⟩
theorem KV.put {kvs : List (κ × V)} {vs : List (κ × Value)} (r : KV kvs vs) (k : κ) {y : V} {u : Value} (ry : RelV y u) : KV (putK kvs k y) (stored vs k u) := by
  unfold putK stored
  rw [r.any k]
  by_cases e : (vs.any fun kv => decide (kv.1 = k)) = true
  · rw [if_pos e, if_pos e]; exact r.repl k ry
  · rw [if_neg e, if_neg e]; exact Paired.snoc r ⟨rfl, ry⟩
theorem KV.length {kvs : List (κ × V)} {vs : List (κ × Value)} (r : KV kvs vs) : kvs.length = vs.length := Paired.length r
end


theorem kV_is {P : Program} {w : World} {k : Key} {u : Value} (r : RelV (kV k) u) : (mixKind P w).is k u = true := by
  cases k with
  | inl i => obtain ⟨t, e⟩ := (show ∃ t, u = Value.int i t from r); subst e; exact mixKind_int P w i t
  | inr x => obtain ⟨t, e⟩ := (show ∃ t, u = Value.str x t from r); subst e; exact mixKind_str P w x t
theorem items_are {P : Program} {w : World} : ∀ {ks : List Key} {us : List Value}, Vals (ks.map kV) us → ItemsAre (mixKind P w) ks us
  | [], _, r => by rw [List.map_nil] at r; cases r; exact .nil
  | k :: ks, _, r => by
    rw [List.map_cons] at r
    cases r with
    | cons h t => exact .cons (kV_is h) (items_are t)

noncomputable abbrev KT (H : Hp) : List (List Key × V) → List (List Key × Addr × Value) → Prop := Paired fun p q => p.1 = q.1 ∧ H q.2.1 = some (.tup (p.1.map kV)) ∧ RelV p.2 q.2.2
theorem KT.val {H : Hp} {kvs : List (List Key × V)} {xs : List (List Key × Addr × Value)} (r : KT H kvs xs) (k : List Key) : RelO (valV kvs k) ((atKey xs k).map (·.2)) := by
  induction r with
  | nil => exact True.intro
  | @cons p q ps qs h t ih =>
    obtain ⟨h1, _, h2⟩ := h
    by_cases e : p.1 = k
    · have e' : q.1 = k := h1.symm.trans e
      have b : atKey (q :: qs) k = some q.2 := by simp [atKey, List.find?_cons, e']
      rw [valV_pos e, b]; exact h2
    · have e' : ¬ q.1 = k := fun z => e (h1.trans z)
      have b : atKey (q :: qs) k = atKey qs k := by simp [atKey, List.find?_cons, e']
      rw [valV_neg e, b]; exact ih
theorem KT.repl {H : Hp} {kvs : List (List Key × V)} {xs : List (List Key × Addr × Value)} (r : KT H kvs xs) (k : List Key) {y : V} {u : Value} (ry : RelV y u) :
    KT H (kvs.map fun kv => if kv.1 = k then (kv.1, y) else kv) (xs.map (putAt k u)) := by
  induction r with
  | nil => exact .nil
  | @cons p q ps qs h t ih =>
    rw [List.map_cons, List.map_cons]
    refine .cons ?_ ih
    obtain ⟨h1, h2, h3⟩ := h
    unfold putAt
    by_cases e : p.1 = k
    · rw [if_pos e, if_pos (h1.symm.trans e)]; exact ⟨h1, h2, ry⟩
    · rw [if_neg e, if_neg (fun z => e (h1.trans z))]; exact ⟨h1, h2, h3⟩
theorem KT.put {H : Hp} {kvs : List (List Key × V)} {xs : List (List Key × Addr × Value)} (r : KT H kvs xs) (k : List Key) {b : Addr} {y : V} {u : Value} (hb : H b = some (.tup (k.map kV))) (ry : RelV y u) :
    KT H (putK kvs k y) (storedH xs k b u) := by
  have e : (kvs.any fun kv => decide (kv.1 = k)) = (atKey xs k).isSome := by
    rw [valV_any, (r.val k).isSome_eq, Option.isSome_map]
  unfold putK storedH
  rw [e]
  by_cases q : (atKey xs k).isSome = true
  · rw [if_pos q, if_pos q]; exact r.repl k ry
  · rw [if_neg q, if_neg q]; exact Paired.snoc r ⟨rfl, hb, ry⟩
theorem KT.keeps {H H' : Hp} {kvs : List (List Key × V)} {xs : List (List Key × Addr × Value)} (r : KT H kvs xs) (ht : ∀ b ys, H b = some (.tup ys) → H' b = some (.tup ys)) : KT H' kvs xs :=
  Paired.mapP r fun _ _ z => ⟨z.1, ht _ _ z.2.1, z.2.2⟩

section
variable {P : Program} {w : World} {H : Hp} {h : Heap} {a : Addr}
theorem rd_of {u : HO} (ok : HOk P w H h) (e : Rd H a u) : ObjOk P w H h a u := e.ok ok
theorem dk_rd {kvs : List (Key × V)} (ok : HOk P w H h) (e : Rd H a (.dK kvs)) : kvs.length ≤ sizeLine ∧ (a == sysModules) = false ∧ ∃ vs, KV kvs vs ∧ h.DictOf (mixKind P w) a vs :=
  show ObjOk P w H h a (.dK kvs) from rd_of ok e
theorem dk_of {kvs : List (Key × V)} (ok : HOk P w H h) (e : H a = some (.dK kvs)) : kvs.length ≤ sizeLine ∧ (a == sysModules) = false ∧ ∃ vs, KV kvs vs ∧ h.DictOf (mixKind P w) a vs := dk_rd ok (.inl e)
theorem key_of {ks : List Key} (ok : HOk P w H h) (e : H a = some (.tup (ks.map kV))) : (tupleKind (mixKind P w)).is h ks a := by
  obtain ⟨_, its, r, o, h1, h2, n, h3⟩ := (show ObjOk P w H h a (.tup (ks.map kV)) from ok a _ e)
  exact ⟨o, its.toArray, n, h1, h2, h3, by simpa using items_are r⟩
theorem dt_rd {kvs : List (List Key × V)} (ok : HOk P w H h) (e : Rd H a (.dT kvs)) : kvs.length ≤ sizeLine ∧ (a == sysModules) = false ∧
    ∃ xs, KT H kvs xs ∧ h.DictOfH (tupleKind (mixKind P w)) a xs := by
  obtain ⟨z, y, xs, r, o, es, ep, h1, h2, h3, h4, h5⟩ := (show ObjOk P w H h a (.dT kvs) from rd_of ok e)
  refine ⟨z, y, xs, r, o, es, ep, h1, h2, h3, h4, fun x hx => ?_, h5⟩
  have all : ∀ {l : List (List Key × V)} {m : List (List Key × Addr × Value)}, KT H l m → ∀ x ∈ m, (tupleKind (mixKind P w)).is h x.1 x.2.1 := by
    intro l m q
    induction q with
    | nil => intro x hx; exact nomatch hx
    | @cons p q ps qs hq t ih =>
      intro x hx
      rcases List.mem_cons.mp hx with e | hx
      · subst e
        exact key_of ok (by rw [← hq.1]; exact hq.2.1)
      · exact ih x hx
  exact all r x hx
theorem dt_of {kvs : List (List Key × V)} (ok : HOk P w H h) (e : H a = some (.dT kvs)) : kvs.length ≤ sizeLine ∧ (a == sysModules) = false ∧
    ∃ xs, KT H kvs xs ∧ h.DictOfH (tupleKind (mixKind P w)) a xs := dt_rd ok (.inl e)
end

noncomputable def DGet (H : Hp) (a : Addr) (y : V) (r : Option V) : Prop :=
  (∃ kvs k, Rd H a (.dK kvs) ∧ y = kV k ∧ r = valV kvs k) ∨ ∃ kvs k b, Rd H a (.dT kvs) ∧ y = .ref b ∧ H b = some (.tup (k.map kV)) ∧ r = valV kvs k
noncomputable def DPut (H : Hp) (a : Addr) (y v : V) (H' : Hp) : Prop :=
  (∃ kvs k, H a = some (.dK kvs) ∧ y = kV k ∧ kvs.length < sizeLine ∧ H' = upd H a (.dK (putK kvs k v))) ∨
  ∃ kvs k b, H a = some (.dT kvs) ∧ y = .ref b ∧ H b = some (.tup (k.map kV)) ∧ kvs.length < sizeLine ∧ H' = upd H a (.dT (putK kvs k v))
theorem DGet.t {H : Hp} {a b : Addr} {kvs : List (List Key × V)} {k : List Key} (e : H a = some (.dT kvs)) (eb : H b = some (.tup (k.map kV))) : DGet H a (.ref b) (valV kvs k) := .inr ⟨kvs, k, b, .inl e, rfl, eb, rfl⟩
theorem DPut.t {H : Hp} {a b : Addr} {kvs : List (List Key × V)} {k : List Key} {v : V} (e : H a = some (.dT kvs)) (eb : H b = some (.tup (k.map kV))) (hl : kvs.length < sizeLine) :
    DPut H a (.ref b) v (upd H a (.dT (putK kvs k v))) := .inr ⟨kvs, k, b, e, rfl, eb, hl, rfl⟩


section
variable {X : Cx} {pins : List (Addr × Obj)} {σ : St} {H : Hp} {s : Shared} {a : Addr} {y v : V} {u r : Value} {o : Option V} {A : Around} {E : Value → Shared → Prop}

theorem Inv.big (I : Inv X pins σ H s) : sysModules < s.heap.objs.size := by
  have h : mainGlobals < s.heap.objs.size := (I.mod.glob.keeps I.bk).lt
  exact Nat.lt_trans (by decide) h

theorem d_getItem {Q : Value → Shared → Prop} (hu : A.units + 1 < cLine) (I : Inv X pins σ H s) (g : DGet H a y (some v)) (ry : RelV y u) (h : ∀ w' s', Inv X pins σ H s' → RelV v w' → Q w' s') :
    wpAny (model X.prog X.w) A (getItem (.ref a) u) Q E s := by
  rcases g with ⟨kvs, k, e, ey, l⟩ | ⟨kvs, k, b, e, ey, eb, l⟩
  · subst ey
    obtain ⟨z, hd, vs, rel, dd⟩ := dk_rd I.hok e
    obtain ⟨w', hw, rw'⟩ := RelO.some_of (v := v) (o := valueAt vs k) (by rw [l]; exact rel.val k)
    exact wpAny_getItem_of (kV_is ry) dd.mapOf hw (h w' _ (I.tok _) rw')
  · subst ey
    cases (show u = Value.ref b from ry)
    obtain ⟨z, hd, xs, rel, dd⟩ := dt_rd I.hok e
    obtain ⟨w', hw, rw'⟩ := RelO.some_of (v := v) (o := (atKey xs k).map (·.2)) (by rw [l]; exact rel.val k)
    obtain ⟨p, hp, hp2⟩ := Option.map_eq_some_iff.mp hw
    refine wpAny_getItem_heap (tupleKind_room_in1 hu) (key_of I.hok eb) dd hp ?_
    rw [hp2]
    exact h w' _ (I.tok _) rw'
theorem d_in {Q : Value → Shared → Prop} (hu : A.units + 1 < cLine) (I : Inv X pins σ H s) (g : DGet H a y o) (ry : RelV y u) (h : ∀ s', Inv X pins σ H s' → Q (.bool o.isSome) s') :
    wpAny (model X.prog X.w) A (compareOp .In u (.ref a)) Q E s := by
  rcases g with ⟨kvs, k, e, ey, l⟩ | ⟨kvs, k, b, e, ey, eb, l⟩
  · subst ey
    obtain ⟨z, hd, vs, rel, dd⟩ := dk_rd I.hok e
    refine wpAny_in_of (kV_is ry) hd dd.mapOf ?_
    rw [← (rel.val k).isSome_eq, ← l]
    exact h _ (I.tok _)
  · subst ey
    cases (show u = Value.ref b from ry)
    obtain ⟨z, hd, xs, rel, dd⟩ := dt_rd I.hok e
    refine wpAny_in_heap (tupleKind_room_in1 hu) (key_of I.hok eb) hd dd ?_
    have q := (rel.val k).isSome_eq
    rw [Option.isSome_map] at q
    rw [← q, ← l]
    exact h _ (I.tok _)
theorem d_write {h' : Heap} {t' : Nat} {ob : HO} (I : Inv X pins σ H s) (mu : Mut (H a)) (hs : Heap.SameBut a s.heap h') (he : ∃ q, h'.get? a = some q) (new : ObjOk X.prog X.w (upd H a ob) h' a ob) :
    Inv X pins σ (upd H a ob) { s with heap := h', toks := t' } :=
  I.write (x := a) (e := a) mu (.inl rfl) (fun b q hb z => (hs.2 b hb).trans z) he new
theorem dk_new {P : Program} {w : World} {H' : Hp} {h' : Heap} {kvs : List (Key × V)} {vs : List (Key × Value)} (z : kvs.length ≤ sizeLine) (hd : (a == sysModules) = false) (rel : KV kvs vs) (dd : h'.DictOf (mixKind P w) a vs) :
    ObjOk P w H' h' a (.dK kvs) := ⟨z, hd, vs, rel, dd⟩
theorem d_setItem {H' : Hp} {Q : Unit → Shared → Prop} (hu : A.units + 1 < cLine) (I : Inv X pins σ H s) (g : DPut H a y v H') (ry : RelV y u) (rv : RelV v r) (h : ∀ s', Inv X pins σ H' s' → Q () s') :
    wpAny (model X.prog X.w) A (setItem (.ref a) u r) Q E s := by
  rcases g with ⟨kvs, k, e, ey, l, eH⟩ | ⟨kvs, k, b, e, ey, eb, l, eH⟩
  · subst ey eH
    obtain ⟨z, hd, vs, rel, dd⟩ := dk_of I.hok e
    have hz : vs.length ≤ sizeLine := by rw [← rel.length]; exact z
    have hl : (putK kvs k v).length ≤ sizeLine := by have := length_putK kvs k v; omega
    refine wpAny_setItem_pairs (hsz := hz) (kV_is ry) dd fun h' dd' hs => h _ ?_
    have he : ∃ q, h'.get? a = some q := let ⟨q, _, _, hq, _⟩ := dd'; ⟨q, hq⟩
    exact d_write I (by rw [e]; exact True.intro) hs he (dk_new hl hd (rel.put k rv) dd')
  · subst ey eH
    cases (show u = Value.ref b from ry)
    obtain ⟨z, hd, xs, rel, dd⟩ := dt_of I.hok e
    have hz : xs.length ≤ sizeLine := by rw [← Paired.length rel]; exact z
    have hl : (putK kvs k v).length ≤ sizeLine := by have := length_putK kvs k v; omega
    refine wpAny_setItem_heap (hsz := hz) (tupleKind_room_in1 hu) (key_of I.hok eb) dd fun h' dd' hs => h _ ?_
    obtain ⟨q, es, ep, hq, h2, h3, h4, _, h5⟩ := dd'
    refine d_write I (by rw [e]; exact True.intro) hs ⟨q, hq⟩ ⟨hl, hd, _, (rel.put k eb rv).keeps fun c ys ec => ?_, q, es, ep, hq, h2, h3, h4, h5⟩
    rw [upd_ne (ne_of ec e (fun z => nomatch z))]
    exact ec
end

section
variable {X : Cx} {pins : List (Addr × Obj)} {σ : St} {H : Hp} {s : Shared} {a : Addr} {kvs : List (Key × V)} {k : Key} {u : Value} {A : Around} {E : Value → Shared → Prop}
end


noncomputable def NoSl (i : Expr) : Prop := ∀ ov iv, subscripted i false ov iv = operate [ov, iv] (getItem ov iv)
theorem subD_of {prog : Program} {w : World} {A : Around} {E : Value → Shared → Prop} {s : Shared} {env : Env} {value slice : Expr} {pos : Pos} {T id : String} {Q : Value → Shared → Prop}
    (hl : typeLookup (.type T) "__getitem__" = pure (some (.builtin id))) (hs : NoSl slice)
    (h : wpAny (model prog w) A (eval value env) (fun o s₁ => wpAny (model prog w) A (eval slice env) (fun i s₂ => s₂.TypeIs o T ∧ wpAny (model prog w) A (getItem o i) Q E s₂) E s₁) E s) :
    wpAny (model prog w) A (eval (.Subscript value slice pos) env) Q E s := by
  refine Subscript_ (wpAny_mono h (fun o s₁ h₁ => wpAny_mono h₁ (fun i s₂ h₂ => ?_) fun _ _ x => x) fun _ _ x => x)
  obtain ⟨hT, h₂⟩ := h₂
  unfold subscriptTail
  refine wpAny_bind ?_
  rw [getitemInPython_of_ne hT.not_modules]
  refine wpAny_bind (wpAny_specialOf hT hl ?_)
  have fin : wpAny (model prog w) A (subscripted slice false o i) (fun r s₃ => wpAny (model prog w) A (letTemporaryGo value o r >>= fun _ => pure r) Q E s₃) E s₂ := by
    rw [hs o i]
    exact wpAny_operating (wpAny_mono h₂ (fun r s₃ h₃ => wpAny_bind (wpAny_letTemporaryGo (wpAny_pure h₃))) fun _ _ x => x)
  first
    | exact wpAny_pure (wpAny_bind fin)
    | exact wpAny_bind (wpAny_pure (wpAny_bind fin))
    | exact wpAny_bind fin

theorem dict_typeIs {X : Cx} {pins : List (Addr × Obj)} {σ : St} {H : Hp} {s : Shared} {a : Addr} {y : V} {o : Option V} (I : Inv X pins σ H s) (g : DGet H a y o) : s.TypeIs (.ref a) "dict" := by
  rcases g with ⟨kvs, k, e, _, _⟩ | ⟨kvs, k, b, e, _, _, _⟩
  · obtain ⟨_, _, vs, _, dd⟩ := dk_rd I.hok e
    exact dd.typeIs
  · obtain ⟨_, _, xs, _, dd⟩ := dt_rd I.hok e
    exact dd.typeIs
noncomputable def tDGet (td ty : TE) : TE := fun σ H Q => td σ H fun x H1 => ty σ H1 fun y H2 => ∃ a v, x = .ref a ∧ DGet H2 a y (some v) ∧ Q v H2
noncomputable def tDIn (ty td : TE) : TE := fun σ H Q => ty σ H fun y H1 => td σ H1 fun x H2 => ∃ a o, x = .ref a ∧ DGet H2 a y o ∧ Q (.bl o.isSome) H2
noncomputable def sDPut (td ty tv : TE) : TS := fun D σ H => tv σ H fun v H1 => td σ H1 fun x H2 => ty σ H2 fun y H3 => ∃ a H4, x = .ref a ∧ DPut H3 a y v H4 ∧ D.nx σ H4
section
variable {X : Cx} {o i e value : Expr} {pos pos' tpos : Pos} {td ty tv : TE}
theorem pe_dget (hu : X.A.units + 1 < cLine) (ho : PE X o td) (hi : PE X i ty) (hs : NoSl i) : PE X (.Subscript o i pos) (tDGet td ty) := by
  intro pins s σ H Q I h
  refine subD_of PySem.F.slot_dict_getitem.lookup hs (thn (ho pins s σ H _ I h) fun u s1 ⟨x, H1, I1, rx, q1⟩ => thn (hi pins s1 σ H1 _ I1 q1) fun iv s2 hzz => ?_)
  obtain ⟨y, H2, I2, ry, a, v, ex, g, q2⟩ := hzz
  subst ex
  obtain rfl : u = Value.ref a := rx
  exact ⟨dict_typeIs I2 g, d_getItem hu I2 g ry fun w' s3 I3 rw' => ⟨v, H2, I3, rw', q2⟩⟩
theorem pc_din (hu : X.A.units + 1 < cLine) (hi : PE X i ty) (ho : PE X o td) : PC X .In i o (tDIn ty td) := by
  intro pins s σ H Q I h
  refine thn (hi pins s σ H _ I h) fun iv s1 ⟨y, H1, I1, ry, q1⟩ => thn (ho pins s1 σ H1 _ I1 q1) fun u s2 hzz => ?_
  obtain ⟨x, H2, I2, rx, a, ov, ex, g, q2⟩ := hzz
  subst ex
  obtain rfl : u = Value.ref a := rx
  exact d_in hu I2 g ry fun s3 I3 => ⟨.bl ov.isSome, H2, I3, rfl, q2⟩
theorem ps_dput (hu : X.A.units + 1 < cLine) (ho : PE X o td) (hi : PE X i ty) (hv : PE X value tv) (hs : swapsWith value (some (.Subscript o i pos')) pos.line X.env = pure false) :
    PS X (.Assign [.Subscript o i pos'] value pos) (sDPut td ty tv) := by
  intro pins s σ H D I h
  refine wpAny_Assign_Subscript (thn (hv pins s σ H _ I h) fun r s1 ⟨v, H1, I1, rv, q1⟩ => thn (ho pins s1 σ H1 _ I1 q1) fun u s2 ⟨x, H2, I2, rx, q2⟩ => thn (hi pins s2 σ H2 _ I2 q2) fun iv s3 hzz => ?_) hs
  obtain ⟨y, H3, I3, ry, a, H4, ex, g, q3⟩ := hzz
  subst ex
  obtain rfl : u = Value.ref a := rx
  exact d_setItem hu I3 g ry rv fun s4 I4 => ⟨σ, H4, I4, q3⟩
end


theorem dk_empty {P : Program} {w : World} {H : Hp} (h : Heap) (hb : sysModules < h.objs.size) : ObjOk P w H (h.push { cls := .type "dict", data := .dict #[] }) h.objs.size (.dK []) :=
  ⟨Nat.zero_le _, beq_eq_false_iff_ne.mpr (Ne.symm (Nat.ne_of_lt hb)), [], .nil, Heap.DictOf.new h⟩
theorem dt_empty {P : Program} {w : World} {H : Hp} (h : Heap) (hb : sysModules < h.objs.size) : ObjOk P w H (h.push { cls := .type "dict", data := .dict #[] }) h.objs.size (.dT []) :=
  ⟨Nat.zero_le _, beq_eq_false_iff_ne.mpr (Ne.symm (Nat.ne_of_lt hb)), [], .nil, _, #[], 0, Heap.get?_push_size _ rfl, ⟨rfl, rfl, rfl⟩, rfl, rfl, List.nodup_nil⟩
noncomputable def tDNewK : TE := fun _ H Q => ∀ p, H p = none → Q (.ref p) (upd H p (.dK []))
section
variable {X : Cx} {pos : Pos}
theorem pe_dnewK : PE X (.Dict [] [] pos) tDNewK := fun pins s σ H Q I h =>
  wpAny_Dict_empty ⟨.ref s.heap.objs.size, _, I.laid (a := s.heap.objs.size) (o := .dK []) (t' := s.toks) (fun _ _ q => Heap.get?_push_of_some _ q) (Nat.le_refl _) (dk_empty s.heap I.big), rfl, h _ (I.hok.fresh (Nat.le_refl _))⟩
end

noncomputable def tPairs : List (TE × TE) → St → Hp → (List (V × V) → Hp → Prop) → Prop
  | [], _, H, Q => Q [] H
  | (tk, tv) :: r, σ, H, Q => tk σ H fun x H1 => tv σ H1 fun y H2 => tPairs r σ H2 fun ps H3 => Q ((x, y) :: ps) H3
noncomputable abbrev VV : List (V × V) → List (Value × Value) → Prop := Paired fun p q => RelV p.1 q.1 ∧ RelV p.2 q.2
noncomputable def PPs (X : Cx) (pos : Pos) (keys : List (Option Expr)) (values : List Expr) (trs : List (TE × TE)) : Prop :=
  ∀ (pins : List (Addr × Obj)) (s : Shared) (σ : St) (H : Hp) (Q : List (V × V) → Hp → Prop), Inv X pins σ H s → tPairs trs σ H Q →
    wpAny (model X.prog X.w) X.A (evalPairs (pairTrees keys values X.env pos)) (fun vs s' => ∃ ps H', Inv X pins σ H' s' ∧ VV ps vs ∧ Q ps H') X.xe s
theorem pps_nil {X : Cx} {pos : Pos} : PPs X pos [] [] [] := fun pins s σ H Q I h => pairTrees_nil_walk ⟨[], H, I, .nil, h⟩
theorem pps_cons {X : Cx} {pos : Pos} {k v : Expr} {ks : List (Option Expr)} {vs : List Expr} {tk tv : TE} {trs : List (TE × TE)} (hk : PE X k tk) (hv : PE X v tv) (hr : PPs X pos ks vs trs) :
    PPs X pos (some k :: ks) (v :: vs) ((tk, tv) :: trs) := fun pins s σ H Q I h =>
  pairTrees_cons_walk (thn (hk pins s σ H _ I h) fun u s1 ⟨x, H1, I1, rx, q1⟩ => thn (hv pins s1 σ H1 _ I1 q1) fun w2 s2 ⟨y, H2, I2, ry, q2⟩ =>
    thn (hr pins s2 σ H2 _ I2 q2) fun ws s3 ⟨ps, H3, I3, rel, q3⟩ => ⟨(x, y) :: ps, H3, I3, .cons ⟨rx, ry⟩ rel, q3⟩)

section
variable {X : Cx} {pins : List (Addr × Obj)} {σ : St} {H : Hp} {s : Shared} {a : Addr} {y d : V} {u r : Value} {o : Option V} {A : Around} {E : Value → Shared → Prop}
end

section
variable {X : Cx} {o e f : Expr} {apos cpos : Pos} {td ty tx : TE}
end

section
variable {X : Cx} {pins : List (Addr × Obj)} {σ : St} {H : Hp} {s : Shared} {a : Addr} {kvs : List (Key × V)} {A : Around} {E : Value → Shared → Prop}
end


section
variable {X : Cx} {pins : List (Addr × Obj)} {σ : St} {H : Hp} {s : Shared} {a : Addr} {y : V} {u : Value} {A : Around} {E : Value → Shared → Prop}
end

section
variable {κ : Type} [DecidableEq κ]
end
end L2

set_option Elab.async false
set_option linter.all false
set_option maxRecDepth 100000
set_option maxHeartbeats 1000000
namespace Hd
open PySem PySem.Spec PyProof.Rows
section
variable {prog : Program} {w : World} {K : Type} [DecidableEq K] {knd : HeapKind prog w K} {A : Around} {E : Value → Shared → Prop} {s : Shared} {d a : Addr} {k : K} {xs : List (K × Addr × Value)}
theorem DictOfH_push (hm : s.heap.DictOfH knd d xs) (hk : ∀ {h h' : Heap} {k : K} {a : Addr}, knd.is h k a → (∀ b o, h.get? b = some o → h'.get? b = some o) → knd.is h' k a) (o : Obj) : (s.heap.push o).DictOfH knd d xs := by
  obtain ⟨o', es, ep, ho, hc, hdat, he, his, hn⟩ := hm
  exact ⟨o', es, ep, Heap.get?_push_of_some _ ho, hc, hdat, he, fun x hx => hk (his x hx) fun b q hq => Heap.get?_push_of_some _ hq, hn⟩
theorem wp_quietTup {a : Addr} {Q : Bool → Shared → Prop} (hT : s.TypeIs (.ref a) "tuple") (h : Q false s) : wpAny (model prog w) A (Builtin.Dict.quietEq (.ref a)) Q E s := by
  unfold Builtin.Dict.quietEq
  refine wpAny_bind (wpAny_specialOf hT PySem.F.slot_tuple_eq.lookup (wpAny_pure ?_))
  have e : (some (Value.builtin "tuple.__eq__") == some (Value.builtin "object.__eq__")) = false := by decide
  rw [e]; exact h
theorem wp_entries1 {id : String} {o : Obj} {es : Array DictEntry} {ep : Nat} {Q : Array DictEntry → Shared → Prop} (ho : s.heap.get? d = some o) (hd : o.data = .dict es ep) (he : es.toList = xs.map (entryOfKey knd)) (h1 : xs.length ≤ 1) (hT : ∀ x ∈ xs, s.TypeIs (.ref x.2.1) "tuple") (h : Q es s) :
    wpAny (model prog w) A (Builtin.Dict.entriesForEmpty id d) Q E s := by
  have hsz : es.size ≤ 1 := by rw [size_of_entries he]; exact h1
  unfold Builtin.Dict.entriesForEmpty
  refine wpAny_bind (wpAny_dictEntries ho hd (wpAny_bind ?_))
  rw [← Array.forIn_toList, he]
  cases xs with
  | nil => rw [List.map_nil, List.forIn_nil]; exact wpAny_pure (wpAny_pure h)
  | cons x rest =>
  cases rest with
  | cons _ _ => simp at h1
  | nil =>
    rw [List.map_cons, List.map_nil, List.forIn_cons]
    refine wpAny_bind (wpAny_bind (wp_quietTup (hT x (.head _)) ?_))
    have hf : ¬ (es.filter fun y => y.hash == (entryOfKey knd x).hash).size > 1 := by
      have := Array.size_filter_le (p := fun y => y.hash == (entryOfKey knd x).hash) (xs := es)
      omega
    rw [if_pos (show (!false) = true from rfl), if_neg hf]
    refine wpAny_pure ?_
    dsimp only
    rw [List.forIn_nil]
    exact wpAny_pure (wpAny_pure h)
theorem wp_merge1 {nm : String} {o : Addr} {Q : Unit → Shared → Prop} (hdo : d ≠ o) (hS : (o == sysModules) = false) (hd : s.heap.DictOfH knd d []) (ho : s.heap.DictOfH knd o xs) (h1 : xs.length = 1) (hT : ∀ x ∈ xs, s.TypeIs (.ref x.2.1) "tuple")
    (h : ∀ h', h'.DictOfH knd d xs → Heap.SameBut d s.heap h' → Q () { s with heap := h' }) : wpAny (model prog w) A (Builtin.Dict.mergeDict nm d o) Q E s := by
  obtain ⟨od, esd, epd, hod, hcd, hdd, hed, _, _⟩ := id hd
  obtain ⟨oo, es, ep, hoo, hco, hdat, he, his, hn⟩ := id ho
  have hes : es.size = xs.length := size_of_entries he
  have hesd : esd.size = 0 := size_of_entries hed
  have hL := sizeLine_eq
  unfold Builtin.Dict.mergeDict
  rw [if_neg (by simpa using hdo)]
  unfold Builtin.Dict.showsAll
  rw [if_neg (by rw [hS]; exact Bool.false_ne_true)]
  refine wpAny_bind (wpAny_pure (wpAny_bind (wpAny_dictEntries hoo hdat ?_)))
  have hfew : (decide (es.size ≤ 8) && es.all fun e => (keyPart e.key).isSome) = false := by
    obtain ⟨x, hx⟩ : ∃ x, xs = [x] := List.length_eq_one_iff.mp h1
    subst hx
    have : es = #[entryOfKey knd x] := by
      apply Array.toList_inj.mp
      rw [he]; rfl
    rw [this]
    simp [entryOfKey, keyPart]
  dsimp only
  rw [hfew]
  rw [if_pos (show (!false) = true from rfl)]
  refine wpAny_bind (wpAny_dictEntries hod hdd ?_)
  rw [if_pos (by rw [Array.isEmpty_iff]; exact Array.eq_empty_of_size_eq_zero hesd)]
  refine wpAny_bind (wp_entries1 hoo hdat he (by omega) hT ?_)
  have hne : (!es.isEmpty) = true := by
    rw [Bool.not_eq_true', Array.isEmpty_eq_false_iff]
    intro e; rw [e] at hes; simp at hes; omega
  rw [if_pos hne]
  refine wpAny_bind (wpAny_updateDictKeysTo hod hdd (wpAny_pure (h _ ⟨_, _, epd + 1, Heap.get?_update_self _ hod (Obj.isFreed_of_dict (Obj.data_mapDictKeys hdd _)), hcd.mapDictKeys _, Obj.data_mapDictKeys hdd _, he, fun x hx => ?_, hn⟩ (Heap.SameBut.update ..))) (by omega))
  exact knd.keeps (his x hx) hod hdd (Heap.SameBut.update ..)
theorem call_copy1 {Q : Value → Shared → Prop} (hS : (d == sysModules) = false) (hm : s.heap.DictOfH knd d xs) (hk : ∀ {h h' : Heap} {k : K} {a : Addr}, knd.is h k a → (∀ b o, h.get? b = some o → h'.get? b = some o) → knd.is h' k a) (h1 : xs.length = 1)
    (hT : ∀ x ∈ xs, s.TypeIs (.ref x.2.1) "tuple") (h : ∀ h', h'.DictOfH knd s.heap.objs.size xs → Heap.SameBut s.heap.objs.size (s.heap.push { cls := .type "dict", data := .dict #[] }) h' → Q (.ref s.heap.objs.size) { s with heap := h' }) :
    wpAny (model prog w) A (call (.type "dict") [.ref d]) Q E s := by
  refine callType_codes (Q₁ := fun obj s₁ => obj = .ref s.heap.objs.size ∧ s₁ = { s with heap := s.heap.push { cls := .type "dict", data := .dict #[] } }) PySem.F.kt_called_dict (PySem.F.kt_typeCall_dict_1 _) PySem.F.entry_dict_init (kt_code_dict_new _ ⟨rfl, rfl⟩) ?_
  rintro obj s₁ ⟨rfl, rfl⟩
  have hnew : (s.heap.push { cls := .type "dict", data := .dict #[] }).DictOfH knd s.heap.objs.size [] := Heap.DictOfH.new s.heap
  have hm' := DictOfH_push hm hk { cls := .type "dict", data := .dict #[] }
  have hdo : s.heap.objs.size ≠ d := by
    obtain ⟨_, _, _, hg, _⟩ := hm
    exact fun e => absurd (Heap.lt_size hg) (by rw [e]; exact Nat.lt_irrefl _)
  have hT' : ∀ x ∈ xs, ({ s with heap := s.heap.push { cls := .type "dict", data := .dict #[] } } : Shared).TypeIs (.ref x.2.1) "tuple" := fun x hx => by
    obtain ⟨o, e, c⟩ := hT x hx
    exact ⟨o, Heap.get?_push_of_some _ e, c⟩
  refine ⟨hnew.typeIs, PySem.F.args_dict_init_2 _ _, ?_⟩
  unfold Builtin.«dict.__init__»
  refine wpAny_bind ?_
  unfold Builtin.Dict.selfAndRest
  refine wpAny_bind (wpAny_notOrdered_dict hnew.typeIs ?_)
  show wpAny _ _ (pure (s.heap.objs.size, [Value.ref d])) _ _ _
  refine wpAny_pure ?_
  show wpAny _ _ (Builtin.Dict.updateFrom "dict.__init__" s.heap.objs.size (.ref d) [] .none) _ _ _
  unfold Builtin.Dict.updateFrom
  refine wpAny_bind (wpAny_typeOf hm'.typeIs ?_)
  rw [if_neg (by decide)]
  refine wpAny_bind ?_
  unfold Builtin.Dict.merge
  refine wpAny_bind ?_
  unfold Builtin.Dict.readDirectly
  refine wpAny_bind (wpAny_isInstance hm'.typeIs isSubtype_dict_dict ?_)
  simp only [Bool.not_true, Bool.false_eq_true, if_false]
  refine wpAny_bind (wpAny_specialOf hm'.typeIs PySem.F.slot_dict_iter.lookup (wpAny_pure ?_))
  simp only [beq_self_eq_true, if_true]
  refine wpAny_bind (wpAny_pure ?_)
  refine wp_merge1 hdo hS hnew hm' h1 hT' fun h' hd' hs' => ?_
  show wpAny _ _ (Builtin.Dict.addKeywords s.heap.objs.size [] >>= _) _ _ _
  exact wpAny_bind (wpAny_pure (wpAny_pure ⟨rfl, h h' hd' hs'⟩))
theorem wp_same1 {nm : String} {e : Addr} {b c : Addr} {v u : Value} {r : Bool} {Q : Bool → Shared → Prop} (hu : knd.room A) (hS : (d == sysModules) = false) (hS' : (e == sysModules) = false) (hm : s.heap.DictOfH knd d [(k, b, v)]) (hm' : s.heap.DictOfH knd e [(k, c, u)]) (he : SeqAt.EqAt A s v u r)
    (h : Q r s) : wpAny (model prog w) A (Builtin.Dict.samePairs nm d e) Q E s := by
  obtain ⟨o1, es1, ep1, ho1, _, hd1, he1, his1, hn1⟩ := id hm
  obtain ⟨o2, es2, ep2, ho2, _, hd2, he2, his2, hn2⟩ := id hm'
  have e1 : es1 = #[entryOfKey knd (k, b, v)] := Array.toList_inj.mp (by rw [he1]; rfl)
  have e2 : es2 = #[entryOfKey knd (k, c, u)] := Array.toList_inj.mp (by rw [he2]; rfl)
  subst e1 e2
  unfold Builtin.Dict.samePairs Builtin.Dict.showsAll
  rw [if_neg (show ¬ (d == sysModules) = true by rw [hS]; exact Bool.false_ne_true), if_neg (show ¬ (e == sysModules) = true by rw [hS']; exact Bool.false_ne_true)]
  refine wpAny_bind (wpAny_pure (wpAny_bind (wpAny_pure (wpAny_bind (wpAny_dictEntries ho1 hd1 ?_)))))
  dsimp only
  refine wpAny_bind (wpAny_dictEntries ho2 hd2 ?_)
  rw [if_neg (by simp)]
  refine wpAny_bind (wpAny_dictEpoch ho1 hd1 (wpAny_bind ?_))
  rw [Std.Legacy.Range.forIn_eq_forIn_range']
  simp only [Std.Legacy.Range.size, Nat.sub_zero, Nat.add_sub_cancel, Nat.div_one]
  show wpAny _ _ (forIn (List.range' 0 1) _ _) _ _ _
  rw [show List.range' 0 1 = [0] from rfl, List.forIn_cons]
  refine wpAny_bind (wpAny_bind (wpAny_dictEntries ho1 hd1 ?_))
  show wpAny _ _ (holding [_, _] _ >>= _) _ _ _
  refine wpAny_bind (wpAny_holding (wpAny_bind (wpAny_dictFind_heap hu (his1 _ (.head _)) ho2 hd2 he2 his2 hn2 ?_ ?_)))
  · intro hno
    exact absurd rfl (hno 0 (c, u))
  · intro j p hj
    have hj0 : j = 0 ∧ p = (c, u) := by
      cases j with
      | zero => simp at hj; exact ⟨rfl, hj.symm⟩
      | succ j => simp at hj
    obtain ⟨rfl, rfl⟩ := hj0
    refine wpAny_bind (wpAny_dictEntries ho2 hd2 ?_)
    show wpAny _ _ (holding _ (eqBool v u)) _ _ _
    refine wpAny_holding (he prog w _ _ ?_)
    cases r with
    | false =>
      show wpAny _ _ (if (!false) = true then _ else _) _ _ _
      rw [if_pos (by decide)]
      exact wpAny_pure (wpAny_pure (wpAny_pure h))
    | true =>
      show wpAny _ _ (if (!true) = true then _ else _) _ _ _
      rw [if_neg (by decide)]
      refine wpAny_bind (wpAny_dictEpoch ho1 hd1 ?_)
      rw [if_neg (by simp)]
      refine wpAny_pure ?_
      dsimp only
      rw [List.forIn_nil]
      exact wpAny_pure (wpAny_pure h)
theorem eq1 {e : Addr} {b c : Addr} {v u : Value} {r : Bool} {Q : Value → Shared → Prop} (hu : knd.room A.in1) (hc : A.units < cLine) (hS : (d == sysModules) = false) (hS' : (e == sysModules) = false) (hm : s.heap.DictOfH knd d [(k, b, v)]) (hm' : s.heap.DictOfH knd e [(k, c, u)]) (he : SeqAt.EqAt A.in1 s v u r)
    (h : Q (.bool r) s) : wpAny (model prog w) A (compareOp .Eq (.ref d) (.ref e)) Q E s := by
  refine wpAny_richCompare_same_room (op := .Eq) hm.typeIs hm'.typeIs PySem.F.slot_dict_eq (wpAny_call_entry PySem.F.slot_dict_eq hm.typeIs PySem.F.entry_dict_eq ?_ (PySem.F.args_dict_eq_2 _ _)) hc
  show wpAny _ _ (Builtin.Dict.dictSlotArgs "__eq__" ⟨[.ref d, .ref e], []⟩ >>= _) _ _ s
  refine wpAny_bind ?_
  unfold Builtin.Dict.dictSlotArgs
  refine wpAny_bind (wpAny_notOrdered_dict hm.typeIs ?_)
  show wpAny _ _ (pure (Value.ref d, Value.ref e)) _ _ s
  refine wpAny_pure (wpAny_bind (wpAny_isInstance (T := "dict") hm'.typeIs PySem.F.sub_dict_dict ?_))
  simp only [Bool.not_true, Bool.false_eq_true, if_false]
  refine wpAny_bind (wpAny_pure (wpAny_bind (wpAny_pure (wpAny_bind (wp_same1 hu hS hS' hm hm' he ?_)))))
  refine wpAny_pure ⟨_, rfl, (fun x => nomatch x), ?_⟩
  simpa using h
end
end Hd

set_option Elab.async false
set_option linter.all false
set_option maxRecDepth 100000
set_option maxHeartbeats 0
namespace L2
open PySem PySem.Spec PyProof.Rows
noncomputable def IsDoc (H : Hp) (v : V) (k : Int) : Prop := ∃ a, v = .ref a ∧ H a = some (.dT [([], .int k)])
theorem IsDoc.same {H H' : Hp} {v : V} {k : Int} (h : IsDoc H v k) (s : Same H H') : IsDoc H' v k := by
  obtain ⟨a, e, q⟩ := h
  exact ⟨a, e, s _ _ q⟩
theorem tk_keep {P : Program} {w : World} {h h' : Heap} {k : List Key} {a : Addr} (h1 : (tupleKind (mixKind P w)).is h k a) (k1 : ∀ b o, h.get? b = some o → h'.get? b = some o) : (tupleKind (mixKind P w)).is h' k a := by
  obtain ⟨o, its, n, e, r⟩ := h1
  exact ⟨o, its, n, k1 _ _ e, r⟩
section
variable {X : Cx}
noncomputable def rCopyD : List V → Hp → VK → Prop := fun xs H Q => ∃ x k, xs = [x] ∧ IsDoc H x k ∧ ∀ p H', Same H H' → H' p = some (.dT [([], .int k)]) → H p = none → Q (.ref p) H'
theorem call_dictD : CallR X (.type "dict") rCopyD := by
  intro pins s σ H xs us Q I r h
  obtain ⟨x, k, rfl, ⟨a, rfl, ha⟩, q⟩ := h
  obtain ⟨u, rfl, ru⟩ := r.one
  cases ru
  obtain ⟨z, hd, ys, rel, dd⟩ := dt_of I.hok ha
  have hl : ys.length = 1 := by rw [← Paired.length rel]; rfl
  refine Hd.call_copy1 hd dd (fun h1 k1 => tk_keep h1 k1) hl (fun y hy => ?_) fun h' dd' hs => ?_
  · obtain ⟨_, _, _, _, _, _, _, his, _⟩ := dd
    obtain ⟨o, its, n, e, c, _⟩ := his y hy
    exact ⟨o, e, c⟩
  · have hn : H s.heap.objs.size = none := I.hok.fresh (Nat.le_refl _)
    obtain ⟨o, es, ep, h1, h2, h3, h4, h5, h6⟩ := dd'
    refine ⟨.ref _, upd H s.heap.objs.size (.dT [([], .int k)]), I.laid (a := s.heap.objs.size) (o := .dT [([], .int k)]) (t' := s.toks) (fun b o e => (hs.2 b (Nat.ne_of_lt (Heap.lt_size e))).trans (Heap.get?_push_of_some _ e)) (Nat.le_refl _) ?_, rfl, q _ _ (Same.upd hn) upd_same hn⟩
    exact ⟨z, beq_eq_false_iff_ne.mpr (Ne.symm (Nat.ne_of_lt I.big)), ys, rel.keeps fun b zs e => (Same.upd hn) _ _ e, o, es, ep, h1, h2, h3, h4, h6⟩
noncomputable def rEqDoc : R2 := fun x y H Q => ∃ k j, IsDoc H x k ∧ IsDoc H y j ∧ Q (.bl (decide (k = j))) H
theorem op_eqDoc (hu : X.A.units + 16 < cLine) : OpR X (compareOp .Eq) rEqDoc := by
  intro pins s σ H x y v u Q I rx ry h
  obtain ⟨k, j, ⟨a, rfl, ha⟩, ⟨b, rfl, hb⟩, q⟩ := h
  cases rx
  cases ry
  obtain ⟨z, hd, xs, rel, dd⟩ := dt_of I.hok ha
  obtain ⟨z', hd', ys, rel', dd'⟩ := dt_of I.hok hb
  cases rel with
  | cons r t =>
  cases t
  cases rel' with
  | cons r' t' =>
  cases t'
  rename_i q1 q2
  obtain ⟨a1, a2, a3⟩ := q1
  obtain ⟨b1, b2, b3⟩ := q2
  obtain ⟨e1, _, e3⟩ := r
  obtain ⟨f1, _, f3⟩ := r'
  dsimp only at e1 e3 f1 f3
  subst e1 f1
  have e : eqV (.int k) (.int j) = decide (k = j) := by
    show (k == j) = _
    by_cases h : k = j <;> simp [h]
  have he : SeqAt.EqAt X.A.in1 s a3 b3 (decide (k = j)) := by
    rw [← e]; exact eqAt_V e3 f3 rfl rfl
  exact Hd.eq1 (tupleKind_room_in1 (by omega)) (by omega) hd hd' dd dd' he ⟨.bl _, H, I, rfl, q⟩
noncomputable def tDoc1 (tk tv : TE) : TE := fun σ H Q => ∀ p, H p = none → tk σ (upd H p (.dT [])) fun x H1 => tv σ H1 fun y H2 => H2 p = some (.dT []) ∧ ∃ b k, x = .ref b ∧ H2 b = some (.tup []) ∧ y = .int k ∧ Q (.ref p) (upd H2 p (.dT [([], .int k)]))
theorem pe_doc1 {k v : Expr} {pos : Pos} {tk tv : TE} (hu : X.A.units + 16 < cLine) (hk : PE X k tk) (hv : PE X v tv) : PE X (.Dict [some k] [v] pos) (tDoc1 tk tv) := by
  intro pins s σ H Q I h
  have hn := I.hok.fresh (Nat.le_refl s.heap.objs.size)
  have I1 := I.laid (a := s.heap.objs.size) (o := .dT []) (h' := s.heap.push { cls := .type "dict", data := .dict #[] }) (t' := s.toks) (fun _ _ q => Heap.get?_push_of_some _ q) (Nat.le_refl _) (dt_empty s.heap I.big)
  refine wpAny_Dict_any rfl rfl (by simp) (by show 1 ≤ 15; decide) ?_
  have hp := pps_cons (pos := pos) hk hv pps_nil
  refine thn (hp pins _ σ _ (fun ps H2 => match ps with
    | [(x, y)] => H2 s.heap.objs.size = some (.dT []) ∧ ∃ b k, x = .ref b ∧ H2 b = some (.tup []) ∧ y = .int k ∧ Q (.ref s.heap.objs.size) (upd H2 s.heap.objs.size (.dT [([], .int k)]))
    | _ => False) I1 (h _ hn)) fun vs s1 ⟨ps, H1, I2, rel, q1⟩ => ?_
  cases ps with
  | nil => exact q1.elim
  | cons xy rest =>
  cases rest with
  | cons _ _ => exact q1.elim
  | nil =>
    obtain ⟨x, y⟩ := xy
    obtain ⟨hd, b, n, ex, hb, ey, q⟩ := q1
    subst ex ey
    cases rel with
    | @cons _ wp _ _ r t =>
    cases t
    obtain ⟨w1, w2⟩ := wp
    obtain ⟨r1, r2⟩ := r
    dsimp only at r1 r2
    cases r1
    obtain ⟨z, hds, xs, rel2, dd⟩ := dt_of I2.hok hd
    cases rel2
    unfold storeAll
    rw [List.forIn_cons]
    refine wpAny_bind (wpAny_bind (wpAny_dictSet_heap (knd := tupleKind (mixKind X.prog X.w)) (k := []) (show X.A.units < cLine by omega) (key_of (ks := []) I2.hok hb) dd (fun h' dd' hs => wpAny_pure ?_) (by simp)))
    dsimp only
    rw [List.forIn_nil]
    refine wpAny_pure ?_
    obtain ⟨o, es, ep, h1, h2, h3, h4, h5, h6⟩ := dd'
    refine ⟨.ref _, _, d_write (ob := .dT [([], .int n)]) I2 (by rw [hd]; exact True.intro) hs ⟨o, h1⟩ ⟨by rw [sizeLine_eq]; show 1 ≤ _; omega, hds, [([], b, w2)], .cons ⟨rfl, ?_, r2⟩ .nil, o, es, ep, h1, h2, h3, h4, h6⟩, rfl, q⟩
    rw [upd_ne (ne_of hb hd (fun z => nomatch z))]
    exact hb
end
end L2

set_option Elab.async false
set_option linter.all false
set_option maxRecDepth 100000
set_option maxHeartbeats 0
namespace L2
open PySem PySem.Spec PyProof.Rows
noncomputable def Ite (K : PySem.W.Frag) (a : Addr) : It :=
  ⟨fun i H => ∃ xs x, SqL K H a xs ∧ xs[i]? = some x, fun i H v H' => ∃ p, v = .ref p ∧ H p = none ∧ ∃ x, (∀ xs, SqL K H a xs → xs[i]? = some x) ∧ H' = upd H p (.tup [.int i, x]), fun i H => ∃ xs, SqL K H a xs ∧ xs.length ≤ i⟩
theorem turn_enum {P : Program} {w : World} {K : PySem.W.Frag} {elts : List Expr} {x1} {pos : Pos} (a e it : Addr) (hne : e ≠ it) : Turn P w K (.Tuple elts x1 pos) (Ite K a) [e, it] e (fun i h => ∃ old, IsEnum h e it (i : Nat) old ∧ h.IsListIter it a i) where
  mem := by simp
  obj := fun i h st b hb => by
    obtain ⟨old, h1, o, h2, c, d⟩ := st
    rcases List.mem_cons.mp hb with z | z
    · subst z
      exact ⟨_, h1, fun v z => by have z' : Data.fields _ = Data.cell v := z; cases z'⟩
    · have z' : b = it := by simpa using z
      subst z'
      exact ⟨o, h2, fun v z => by rw [d] at z; cases z⟩
  keep := fun i h h' ⟨old, h1, h2⟩ k => ⟨old, k e (by simp) _ h1, h2.at fun o z => k it (by simp) o z⟩
  item := by
    intro X hP hw hK hc i pins s σ H E I hf st hg
    subst hP hw hK
    obtain ⟨old, he, hit⟩ := st
    obtain ⟨xs, x, hq, hx⟩ := hg
    obtain ⟨its, rv, p, hz⟩ := I.list hq
    obtain ⟨u, hu, ru⟩ := rv.get hx
    obtain ⟨f0, f1, f2, f3, f4, f5⟩ := hf e (by simp)
    obtain ⟨g0, g1, g2, g3, g4, g5⟩ := hf it (by simp)
    have hel : e < s.heap.objs.size := Heap.lt_size he
    have hil : it < s.heap.objs.size := by obtain ⟨o, z, _⟩ := id hit; exact Heap.lt_size z
    refine wpAny_pyNext_enum_item he hit p.isList (x := u) (by simpa using hu) hne fun h1 heo hit1 ht hz1 hk1 => ⟨_, rfl, ?_⟩
    refine wpAny_letOwnedTupleGo_enum heo fun h2 he2 hs2 => ?_
    replace hs2 : Heap.SameBut e h1 h2 := hs2
    have fresh : H s.heap.objs.size = none := I.hok.fresh (Nat.le_refl _)
    have I1 : Inv X pins σ H { s with heap := s.heap, toks := s.toks + 1 } := I.tok _
    -- the two turn, then a tuple is laid
    have key : Inv X pins σ (upd H s.heap.objs.size (.tup [.int i, x])) { s with heap := h2, toks := s.toks + 1 } := by
      have I2 := I.laid (a := s.heap.objs.size) (o := .tup [.int i, x]) (t' := s.toks + 1) (h' := s.heap.push { cls := .type "tuple", data := .seq #[.int i s.toks, u] }) (fun _ _ z => Heap.get?_push_of_some _ z) (Nat.le_refl _)
        ⟨by rw [sizeLine_eq]; show 2 ≤ _; omega, [.int i s.toks, u], .cons ⟨_, rfl⟩ (.cons ru .nil), _, Heap.get?_push_size _ rfl, rfl, _, rfl⟩
      have hit2 : h2.IsListIter it a (i + 1) := hit1.extBut hs2.extBut (Ne.symm hne)
      obtain ⟨oi, hoi, ci, di⟩ := id hit2
      obtain ⟨oi0, hoi0, ci0, di0⟩ := id hit
      have hoi1 : (s.heap.push { cls := .type "tuple", data := .seq #[.int i s.toks, u] }).get? it = some oi0 := Heap.get?_push_of_some _ hoi0
      have hfz : oi.isFreed = false := Obj.isFreed_of_fields di
      have u1 := Heap.get?_update_self (fun _ => oi) hoi1 hfz
      have I3 := I2.turned (it := it) (t' := s.toks + 1) (h' := (s.heap.push { cls := .type "tuple", data := .seq #[.int i s.toks, u] }).update it (fun _ => oi)) (fun b o hb z => (Heap.get?_update_other _ _ (Ne.symm hb)).trans z) (by rw [upd_ne (Nat.ne_of_lt hil)]; exact g0) g1 g3 g4 g5
      have st2 : ∀ b o, b ≠ e → ((s.heap.push { cls := .type "tuple", data := .seq #[.int i s.toks, u] }).update it (fun _ => oi)).get? b = some o → h2.get? b = some o := by
        intro b o hb z
        by_cases hbi : b = it
        · subst hbi
          rw [u1] at z
          cases z
          exact hoi
        · rw [Heap.get?_update_other _ (fun _ => oi) (Ne.symm hbi)] at z
          rcases Heap.get?_push_cases z with ⟨rfl, rfl⟩ | z2
          · exact (hs2.2 _ (Nat.ne_of_gt hel)).trans ht
          · exact (hs2.2 b hb).trans (hk1 b o hb hbi z2)
      have I4 := I3.turned (it := e) (t' := s.toks + 1) (h' := h2) st2 (by rw [upd_ne (Nat.ne_of_lt hel)]; exact f0) f1 f3 f4 f5
      exact I4
    refine ⟨.ref s.heap.objs.size, _, key, rfl, ⟨_, rfl, fresh, x, fun ys hy => by rw [I.list_inj hy hq]; exact hx, rfl⟩, ⟨u, ?_, hit1.extBut hs2.extBut (Ne.symm hne)⟩, fun b hb => ?_⟩
    · have : ((i + 1 : Nat) : Int) = (i : Int) + 1 := by push_cast; rfl
      rw [this]; exact he2
    · rcases List.mem_cons.mp hb with z | z
      · subst z
        rw [upd_ne (Nat.ne_of_lt hel)]; exact f0
      · have z' : b = it := by simpa using z
        subst z'
        rw [upd_ne (Nat.ne_of_lt hil)]; exact g0
  done := by
    intro X hP hw hK hc i pins s σ H E I hf st hg
    subst hP hw hK
    obtain ⟨old, he, hit⟩ := st
    obtain ⟨xs, hq, hx⟩ := hg
    obtain ⟨its, rv, p, hz⟩ := I.list hq
    obtain ⟨g0, g1, g2, g3, g4, g5⟩ := hf it (by simp)
    have hl := rv.length
    exact wpAny_pyNext_enum_end (I.ok.hd hc) he hit p.isList (by simp; omega) fun h' eb => ⟨rfl, I.turned (t' := s.toks) (fun b o hb e => eb b o hb e) g0 g1 g3 g4 g5⟩
  self := fun _ _ _ _ _ ⟨_, st, _⟩ h => wpAny_pyIter_enum st h
section
variable {X : Cx}
noncomputable def iEnum (K : PySem.W.Frag) (ta : TA) : TI := fun σ H R => ta σ H fun vs H1 => ∃ a, vs = [.ref a] ∧ (∃ xs, SqL K H1 a xs) ∧ R (Ite K a) H1
theorem pi_enum {a : Expr} {elts : List Expr} {x1} {tp : Pos} {ta : TA} {p pos : Pos} (hg : Gl X "enumerate") (hm : X.mg "enumerate" = none) (ha : PA X [a] ta) (hb : bootBuiltins "enumerate" = some (.type "enumerate") := by rfl) (hs : starEach [a] X.env = [(false, eval a X.env)] := by rfl) : PI X (.Tuple elts x1 tp) (.Call (.Name "enumerate" p) [a] [] pos) (iEnum X.K ta) := by
  intro pins s σ H R I h
  refine Call_ (ld_blt I hg hm hb (PyProof.Rows.callWith_type1 (thn (ha pos pins s σ H _ I h) fun us s1 ⟨vs, H1, I1, r1, q1⟩ => ?_) hs rfl))
  obtain ⟨a, e, ⟨xs, hq⟩, q⟩ := q1
  subst e
  obtain ⟨u, rfl, ru⟩ := r1.one
  cases ru
  obtain ⟨its, rv, p, hz⟩ := I1.list hq
  refine call_enumerate_list p.isList fun h' he hit hsz hk => ?_
  refine wpAny_pyIter_enum he ?_
  have I2 : Inv X pins σ H1 { s1 with heap := h' } := I1.kept (t' := s1.toks) hk
  refine ⟨s1.heap.objs.size + 1, [s1.heap.objs.size + 1, s1.heap.objs.size], _, _, H1, rfl, I2, turn_enum a _ _ (Nat.succ_ne_self _), ⟨.none, he, hit⟩, fun b hb => ?_, q⟩
  rcases List.mem_cons.mp hb with e | e
  · subst e
    exact I1.fpOk (Nat.le_succ _) (I1.hok.fresh (Nat.le_succ _))
  · have e' : b = s1.heap.objs.size := by simpa using e
    subst e'
    exact I1.fpOk (Nat.le_refl _) (I1.hok.fresh (Nat.le_refl _))
theorem loop_enum {K : PySem.W.Frag} {a : Addr} {xs : List V} {g : TG} {tb : TS} {D : Ends} {σ : St} {H : Hp} (Pv : Nat → St → Hp → Prop) (h0 : Pv 0 σ H) (hl : ∀ i σ H, i ≤ xs.length → Pv i σ H → SqL K H a xs)
    (hs : ∀ i x σ H p, xs[i]? = some x → Pv i σ H → H p = none → g (.ref p) σ (upd H p (.tup [.int i, x])) fun σ2 H2 => tb { D with nx := Pv (i + 1), ct := Pv (i + 1), bk := D.nx } σ2 H2) (hd : ∀ σ H, Pv xs.length σ H → D.nx σ H) : tLoop g tb D σ (Ite K a) H := by
  refine ⟨fun i m σ H => m = xs.length - i ∧ i ≤ xs.length ∧ Pv i σ H, ⟨_, rfl, Nat.zero_le _, h0⟩, ?_⟩
  rintro i m σ H ⟨rfl, hi, hp⟩
  have d3 := hl i σ H hi hp
  by_cases hlt : i < xs.length
  · refine .inr ⟨⟨xs, xs[i], d3, by simp [hlt]⟩, Pv (i + 1), fun σ' H' hp' => ⟨xs.length - (i + 1), by omega, rfl, hlt, hp'⟩, fun v H2 y => ?_⟩
    obtain ⟨p, rfl, hpn, x, hx, rfl⟩ := y
    exact hs i x σ H p (hx xs d3) hp hpn
  · have e : i = xs.length := by omega
    subst e
    exact .inl ⟨⟨xs, d3, Nat.le_refl _⟩, hd σ H hp⟩
theorem wp_enum {K : PySem.W.Frag} {σ : St} {H : Hp} {t : TA} {R : It → Hp → Prop} (h : t σ H fun vs H1 => ∃ a, vs = [.ref a] ∧ (∃ xs, SqL K H1 a xs) ∧ R (Ite K a) H1) : iEnum K t σ H R := h
theorem ps_tryN {body : List Stmt} {h0 : ExceptHandler} {hs : List ExceptHandler} {pos : Pos} {tb : TS} (hb : ∀ (pn : List (Addr × Obj)) (F : Value → Shared → Prop), PSs (X.inTry pn F) body tb) : PS X (.Try body (h0 :: hs) [] [] pos) tb := by
  intro pins s σ H D I h
  refine wpAny_Try_except ?_
  have hb' := hb (X.pn ++ pins) (fun _ _ => False) [] s σ H D I.toTry h
  refine wpAny_mono hb' (fun f s1 q => ?_) fun _ _ z => (show False from z).elim
  cases f with
  | next => exact wpAny_execs_nil (SP.ofTry q)
  | brk => exact SP.ofTry q
  | cont => exact SP.ofTry q
  | ret u => exact SP.ofTry q
noncomputable def EN : XK := fun _ _ _ => False
theorem passN : Passes (CXE X.prog X.w) X EN := by
  intro pins σ H1 s1 e s' I h
  obtain ⟨a, C, T, a0, H', _, _, _, _, _, _, _, _, _, _, q⟩ := h
  exact q.elim
end
end L2

set_option Elab.async false
set_option linter.all false
set_option maxRecDepth 100000
set_option maxHeartbeats 0
namespace L2
open PySem PySem.Spec PyProof.Rows
section
variable {X : Cx}
noncomputable def isTrueV : Value → Bool
  | .bool b => b
  | _ => false
noncomputable def rCountT : V → List V → Hp → VK → Prop := fun x vs H Q => ∃ (l : Addr) (bs : List Bool), x = .ref l ∧ vs = [.bl true] ∧ H l = some (.lst (bs.map V.bl)) ∧ Q (.int (bs.countP id : Nat)) H
theorem vals_bl : ∀ {bs : List Bool} {its : List Value}, Vals (bs.map V.bl) its → its = bs.map Value.bool
  | [], _, r => by rw [List.map_nil] at r; cases r; rfl
  | b :: bs, _, r => by
    rw [List.map_cons] at r
    cases r with
    | cons r t =>
      rw [vals_bl t]
      have e : _ = Value.bool b := r
      rw [e]; rfl
theorem bl_eqAt {A : Around} {s : Shared} {bs : List Bool} {y : Value} (hy : y ∈ (bs.map Value.bool).toArray) : SeqAt.EqAt A s y (.bool true) (isTrueV y) := by
  obtain ⟨b, hb, rfl⟩ := List.mem_map.mp (List.mem_toArray.mp hy)
  have z := eqAt_V (A := A) (s := s) (y := .bl b) (x := .bl true) (u := .bool b) (v := .bool true) rfl rfl rfl rfl
  have e : eqV (.bl b) (.bl true) = isTrueV (.bool b) := by cases b <;> rfl
  rw [← e]; exact z
theorem mt_countT : MtM X "list.count" rCountT := by
  intro pins s σ H x vs v us Q I rx rv h
  obtain ⟨l, bs, rfl, rfl, hH, q⟩ := h
  cases rx
  obtain ⟨u, rfl, ru⟩ := rv.one
  cases (show u = Value.bool true from ru)
  obtain ⟨z, its, n, r, hl, e⟩ := I.lstM hH
  have ei := vals_bl r
  subst ei
  refine call_meets PySem.F.slot_list_count ⟨_, e, rfl⟩ PySem.F.entry_list_count (PySem.F.args_list_count_2 _ _) (SeqAt.list_countAt l _ n none #[] (.bool true) isTrueV) ⟨e, fun y hy => bl_eqAt hy, ?_⟩
  have ec : List.countP isTrueV (bs.map Value.bool) = bs.countP id := by
    rw [List.countP_map]
    rfl
  rw [show (List.map Value.bool bs).toArray.toList = bs.map Value.bool by simp, ec]
  exact ⟨.int (bs.countP id : Nat), H, I.tok _, ⟨_, rfl⟩, q⟩
noncomputable def rIndexT : V → List V → Hp → VK → Prop := fun x vs H Q => ∃ (l : Addr) (bs : List Bool) (j : Nat), x = .ref l ∧ vs = [.bl true] ∧ H l = some (.lst (bs.map V.bl)) ∧ bs[j]? = some true ∧ (∀ m, m < j → bs[m]? = some false) ∧ Q (.int j) H
theorem mt_indexT : MtM X "list.index" rIndexT := by
  intro pins s σ H x vs v us Q I rx rv h
  obtain ⟨l, bs, j, rfl, rfl, hH, hj, hno, q⟩ := h
  cases rx
  obtain ⟨u, rfl, ru⟩ := rv.one
  cases (show u = Value.bool true from ru)
  obtain ⟨z, its, n, r, hl, e⟩ := I.lstM hH
  have ei := vals_bl r
  subst ei
  have hjl : j < bs.length := (List.getElem?_eq_some_iff.mp hj).1
  rw [List.length_map] at z
  have hL := sizeLine_eq
  refine call_meets PySem.F.slot_list_index ⟨_, e, rfl⟩ PySem.F.entry_list_index (PySem.F.args_list_index_2 _ _) (SeqAt.list_indexAt l _ n none #[] (.bool true) isTrueV j (by simpa using hjl) (by omega) ?_ ?_) ⟨e, fun y hy => bl_eqAt hy, ?_⟩
  · have := (List.getElem?_eq_some_iff.mp hj).2
    simpa [isTrueV] using this
  · intro m hm hlt
    have := (List.getElem?_eq_some_iff.mp (hno m hlt)).2
    simpa [isTrueV] using this
  · exact ⟨.int j, H, I.tok _, ⟨_, rfl⟩, q⟩
end
theorem lri_no_len : typeLookup (.type "list_reverseiterator") "__len__" = pure none := by rw [typeLookup_type, builtinLookup_eq_fast]; kernel_rfl
theorem lri_hint : typeLookup (.type "list_reverseiterator") "__length_hint__" = pure (some (.builtin "list_reverseiterator.__length_hint__")) := by rw [typeLookup_type, builtinLookup_eq_fast]; kernel_rfl
section
variable {prog : Program} {w : World} {A : Around} {E : Value → Shared → Prop} {s : Shared}
theorem ext_rev {R : Result → Shared → Prop} {it l : Addr} {items : Array Value} (hh : A.handled = none) (hne : l ≠ it) (hit : s.heap.IsRevIter it l ((items.size : Int) - 1)) (hl : s.heap.IsList l items) (S : Addr) (hSr : S ≠ it) (hSl : S ≠ l) (res : Value) (c₀ : Nat) (hS : s.heap.get? S = some { cls := .type "list", data := .seq #[] c₀ })
    (hR : ∀ h' tk acc' c', (∀ b o, b ≠ S → b ≠ it → s.heap.get? b = some o → h'.get? b = some o) → h'.get? S = some { cls := .type "list", dict := none, data := .seq acc' c', slots := #[] } → ItemsOf (fun i v => items[items.size - 1 - i]? = some v) acc' items.size → R (.ok (.ret res)) { s with heap := h', toks := tk }) (hn : items.size ≤ sizeLine) :
    wpAny (model prog w) A.in1 (Builtin.List.listExtendWith (.ref S) (.ref it) res)
      (fun fin s' => match fin with | .done f => R (.ok f) s' | .again c' => c'.quiet = true ∧ codeAny (model prog w) A c' R s') (fun e s' => R (.error e) s') s := by
  have hSf : S ∉ [it, l] := by simp only [List.mem_cons, List.not_mem_nil, or_false, not_or]; exact ⟨hSr, hSl⟩
  have W := Walks.listRev (prog := prog) (w := w) (A := A.in1) hh it l hne items
  have st : (fun i (h : Heap) => i ≤ items.size ∧ h.IsRevIter it l ((items.size : Int) - 1 - (i : Int)) ∧ h.IsList l items) 0 s.heap := ⟨Nat.zero_le _, by simpa using hit, hl⟩
  unfold Builtin.List.listExtendWith
  refine wpAny_bind (wpAny_typeOf (T := "list_reverseiterator") hit.typeIs ?_)
  have h1 : Builtin.List.listSameRef (.ref S) (.ref it) = false := by simp [Builtin.List.listSameRef, hSr]
  rw [if_neg (by rw [h1]; decide)]
  refine wpAny_bind (wpAny_pyIter_revIter hit ?_)
  refine wpAny_bind (wpAny_holding ?_)
  unfold Builtin.List.listLengthHint
  refine wpAny_bind (wpAny_specialOf hit.typeIs lri_no_len ?_)
  show wpAny _ A.in1 (specialOf (Value.ref it) (Str.ofString "__length_hint__") >>= _) _ _ _
  refine wpAny_bind (wpAny_specialOf hit.typeIs lri_hint ?_)
  generalize hid : ("list_reverseiterator.__length_hint__" : String) = id0
  wp_delta
  rw [show splitId id0 = some ("list_reverseiterator", "__length_hint__") from by subst hid; decide +kernel]
  subst hid
  refine wpAny_bind (wpAny_isInstance (b := true) hit.typeIs (by rw [isSubtype_type]; kernel_rfl) ?_)
  refine wpAny_pure ?_
  rw [if_neg (by decide)]
  refine wpAny_pure ⟨plainId_quiet PySem.F.plain_extend_loop _, codeAny_extend_loopS W.toS hn S hSf res items.size 0 _ #[] c₀ rfl (Nat.zero_le _) st hS (ItemsOf.nil _) fun s' acc' c' hm hS' hacc => ?_⟩
  rw [Moved.eq_with hm]
  refine hR s'.heap s'.toks acc' c' (fun b o hb hbi e => hm.heap b o (fun hmem => ?_) e) hS' hacc
  · rcases List.mem_cons.mp hmem with e' | hmem
    · exact hb e'
    · exact hbi (List.mem_singleton.mp hmem)
theorem call_list_rev {Q : Value → Shared → Prop} {it l : Addr} {items : Array Value} (hh : A.handled = none) (hne : l ≠ it) (hit : s.heap.IsRevIter it l ((items.size : Int) - 1)) (hl : s.heap.IsList l items) (hn : items.size ≤ sizeLine)
    (hQ : ∀ h' tk acc' c', (∀ b o, b ≠ it → s.heap.get? b = some o → h'.get? b = some o) → h'.get? s.heap.objs.size = some { cls := .type "list", dict := none, data := .seq acc' c', slots := #[] } → ItemsOf (fun i v => items[items.size - 1 - i]? = some v) acc' items.size → Q (.ref s.heap.objs.size) { s with heap := h', toks := tk }) :
    wpAny (model prog w) A (call (.type "list") [.ref it]) Q E s := by
  refine callType_codes (Q₁ := fun obj s₁ => obj = .ref s.heap.objs.size ∧ s₁ = { s with heap := s.heap.push { cls := .type "list", data := .seq #[] } }) PySem.F.called_list (PySem.F.typeCall_list_1 _) PySem.F.entry_list_init
    (code_list_new _ ⟨rfl, rfl⟩) fun obj s₁ h₁ => ?_
  obtain ⟨rfl, rfl⟩ := h₁
  have hS : (s.heap.push { cls := .type "list", data := .seq #[] }).get? s.heap.objs.size = some { cls := .type "list", data := .seq #[] } := Heap.get?_push_size _ rfl
  have hlt1 : it < s.heap.objs.size := by obtain ⟨o, z, _⟩ := hit; exact Heap.lt_size z
  have hlt2 : l < s.heap.objs.size := by obtain ⟨o, z, _⟩ := hl; exact Heap.lt_size z
  refine ⟨⟨_, hS, rfl⟩, PySem.F.args_list_init_2 _ _, ?_⟩
  show wpAny _ _ (do let old ← Builtin.List.listItems (.ref s.heap.objs.size); Builtin.List.listUpdate (.ref s.heap.objs.size) (fun _ => #[]); letGo old.toList.reverse; Builtin.List.listExtendWith (.ref s.heap.objs.size) (.ref it) .none) _ _ _
  refine wpAny_bind ?_
  unfold Builtin.List.listItems
  refine wpAny_bind (wpAny_seqItems hS rfl (wpAny_pure ?_))
  show wpAny _ _ (updateSeq s.heap.objs.size (fun _ => #[]) >>= fun _ => letGo (#[] : Array Value).toList.reverse >>= fun _ => Builtin.List.listExtendWith (.ref s.heap.objs.size) (.ref it) .none) _ _ _
  refine wpAny_bind (wpAny_updateSeq hS rfl ?_)
  have hS₂ := Heap.get?_update_self (Obj.mapSeq (fun _ => (#[] : Array Value))) hS rfl
  have oth : ∀ b o, b ≠ s.heap.objs.size → s.heap.get? b = some o → ((s.heap.push { cls := .type "list", data := .seq #[] }).update s.heap.objs.size (Obj.mapSeq (fun _ => (#[] : Array Value)))).get? b = some o :=
    fun b o hb e => (Heap.get?_update_other _ _ (Ne.symm hb)).trans (Heap.get?_push_of_some _ e)
  refine wpAny_bind (wpAny_letGo ?_)
  refine ext_rev (A := A.in1) hh hne (hit.at fun o e => oth it o (Nat.ne_of_lt hlt1) e) (hl.at fun o e => oth l o (Nat.ne_of_lt hlt2) e) _ (Nat.ne_of_gt hlt1) (Nat.ne_of_gt hlt2) .none _ hS₂ (fun h' tk acc' c' hk hS' hacc => ?_) hn
  exact ⟨rfl, hQ h' tk acc' c' (fun b o hb e => hk b o (Nat.ne_of_lt (Heap.lt_size e)) hb (oth b o (Nat.ne_of_lt (Heap.lt_size e)) e)) hS' hacc⟩
end
theorem items_rev {items : List Value} {acc : Array Value} (h : ItemsOf (fun i v => items.toArray[items.toArray.size - 1 - i]? = some v) acc items.toArray.size) : acc = items.reverse.toArray := by
  obtain ⟨hs, hi⟩ := h
  apply Array.ext_getElem?
  intro j
  by_cases hj : j < acc.size
  · have e : acc[j]? = some acc[j] := by simp [hj]
    have z := hi j _ e
    rw [e]
    simp only [List.size_toArray] at hs z
    rw [List.getElem?_toArray] at z
    rw [List.getElem?_toArray, List.getElem?_reverse (by omega)]
    exact z.symm
  · rw [Array.getElem?_eq_none (by omega), Array.getElem?_eq_none (by simp at hs ⊢; omega)]
section
variable {X : Cx} {e : Expr} {te : TE} {p p2 pos pos2 : Pos}
noncomputable def tListRev (K : PySem.W.Frag) (te : TE) : TE := fun σ H Q => te σ H fun x H1 => ∃ a xs, x = .ref a ∧ SqL K H1 a xs ∧ ∀ p, H1 p = none → Q (.ref p) (upd H1 p (.lst xs.reverse))
theorem pe_listRev (hc : X.calm = true) (hg : Gl X "list") (hm : X.mg "list" = none) (hg2 : Gl X "reversed") (hm2 : X.mg "reversed" = none) (he : PE X e te)
    (hs1 : starEach [.Call (.Name "reversed" p2) [e] [] pos2] X.env = [(false, eval (.Call (.Name "reversed" p2) [e] [] pos2) X.env)] := by rfl) (hs2 : starEach [e] X.env = [(false, eval e X.env)] := by rfl) :
    PE X (.Call (.Name "list" p) [.Call (.Name "reversed" p2) [e] [] pos2] [] pos) (tListRev X.K te) := by
  intro pins s σ H Q I h
  refine wpAny_Call_Name_kw (ld_blt I hg hm boot_list ?_)
  refine PyProof.Rows.callWith_type1 ?_ hs1 rfl
  rw [hs1]
  refine Calls.spliced_cons ?_
  refine wpAny_Call_Name_kw (ld_blt I hg2 hm2 boot_reversed ?_)
  refine PyProof.Rows.callWith_type1 ?_ hs2 rfl
  rw [hs2]
  refine Calls.spliced_cons (thn (he pins s σ H _ I h) fun u s1 ⟨x, H1, I1, r1, q1⟩ => Calls.spliced_nil ?_)
  obtain ⟨a, xs, rfl, hq, q⟩ := q1
  cases r1
  obtain ⟨its, rv, pl, hz⟩ := I1.list hq
  refine call_reversed_list pl.isList (Calls.spliced_nil ?_)
  have hlt : a < s1.heap.objs.size := by obtain ⟨o, z, _⟩ := pl.isList; exact Heap.lt_size z
  have hit : (s1.heap.push (revObj a ((its.toArray.size : Int) - 1))).IsRevIter s1.heap.objs.size a ((its.toArray.size : Int) - 1) := ⟨_, Heap.get?_push_size _ rfl, rfl, rfl⟩
  have hl2 := pl.isList.at (h' := s1.heap.push (revObj a ((its.toArray.size : Int) - 1))) fun o e => Heap.get?_push_of_some _ e
  have I2 : Inv X pins σ H1 { s1 with heap := s1.heap.push (revObj a ((its.toArray.size : Int) - 1)) } := I1.kept (t' := s1.toks) fun b o e => Heap.get?_push_of_some _ e
  have fp := I1.fpOk (Nat.le_refl s1.heap.objs.size) (I1.hok.fresh (Nat.le_refl _))
  obtain ⟨f0, f1, f2, f3, f4, f5⟩ := fp
  have hlv := rv.length
  refine call_list_rev (s := { s1 with heap := s1.heap.push (revObj a ((its.toArray.size : Int) - 1)) }) (I1.ok.hd hc) (Nat.ne_of_lt hlt) hit hl2 (by rw [List.size_toArray]; omega) fun h' tk acc' c' hk hS hacc => ?_
  have ea := items_rev hacc
  subst ea
  have sz : (s1.heap.push (revObj a ((its.toArray.size : Int) - 1))).objs.size = s1.heap.objs.size + 1 := Heap.size_push ..
  -- lay the list first, then the iterator turns
  have I3 := I2.laid (a := s1.heap.objs.size + 1) (o := .lst xs.reverse) (t' := tk) (h' := (s1.heap.push (revObj a ((its.toArray.size : Int) - 1))).push { cls := .type "list", data := .seq its.reverse.toArray c' }) (fun b o e => Heap.get?_push_of_some _ e) (by rw [sz]; exact Nat.le_refl _)
    ⟨by rw [List.length_reverse]; omega, its.reverse, c', rv.reverse, by rw [← sz]; exact Heap.get?_push_size _ rfl⟩
  have I4 := I3.turned (it := s1.heap.objs.size) (t' := tk) (h' := h') (fun b o hb e => by
    rcases Heap.get?_push_cases e with ⟨rfl, rfl⟩ | e2
    · exact hS
    · exact hk b o hb e2) (by rw [upd_ne (Nat.ne_of_lt (Nat.lt_succ_self _))]; exact f0) f1 f3 f4 f5
  refine ⟨.ref (s1.heap.objs.size + 1), _, I4, ?_, q _ (I1.hok.fresh (Nat.le_succ _))⟩
  show Value.ref _ = Value.ref _
  rw [sz]
theorem wp_listRev {K : PySem.W.Frag} {σ : St} {H : Hp} {Q : VK} (h : te σ H fun x H1 => ∃ a xs, x = .ref a ∧ SqL K H1 a xs ∧ ∀ p, H1 p = none → Q (.ref p) (upd H1 p (.lst xs.reverse))) : tListRev K te σ H Q := h
theorem PS.nox {st : Stmt} {t : TS} (h : PS X.nox st t) : PS X st t := fun pins s σ H D I hw =>
  wpAny_mono (h pins s σ H D (I.wish _) hw) (fun _ _ q => q.unwish) fun _ _ z => False.elim z
end
end L2

set_option Elab.async false
set_option linter.all false
set_option maxRecDepth 100000
set_option maxHeartbeats 0
namespace L2
open PySem PySem.Spec PyProof.Rows
section
variable {σ : St} {H H' : Hp} {Q : VK} {R : Hp → Prop} {D : Ends} {c : Cl} {v x y : V} {k o n : Int} {p : List Str} {m : Str} {ta tb tc : TE}
noncomputable def dinK (x y : V) (H : Hp) (Q : VK) : Prop := ∃ a o, x = .ref a ∧ DGet H a y o ∧ Q (.bl o.isSome) H
noncomputable def dgetK (x y : V) (H : Hp) (Q : VK) : Prop := ∃ a v, x = .ref a ∧ DGet H a y (some v) ∧ Q v H
noncomputable def dputK (x y v : V) (H : Hp) (R : Hp → Prop) : Prop := ∃ a H4, x = .ref a ∧ DPut H a y v H4 ∧ R H4
theorem wp_dput (h : tc σ H fun v H1 => ta σ H1 fun x H2 => tb σ H2 fun y H3 => dputK x y v H3 (D.nx σ)) : sDPut ta tb tc D σ H := h
theorem wp_din (h : tb σ H fun y H1 => ta σ H1 fun x H2 => dinK x y H2 Q) : tDIn tb ta σ H Q := h
theorem wp_dget (h : ta σ H fun x H1 => tb σ H1 fun y H2 => dgetK x y H2 Q) : tDGet ta tb σ H Q := h
theorem val1 {v : V} : valV [(([] : List Key), v)] [] = some v := valV_pos rfl
theorem put1 {v u : V} : putK [(([] : List Key), v)] [] u = [([], u)] := rfl
theorem doc_in (hx : IsDoc H x k) (hy : IsP H y []) (h : Q (.bl true) H) : dinK x y H Q := by
  obtain ⟨a, rfl, ha⟩ := hx
  obtain ⟨b, rfl, hb⟩ := hy
  exact ⟨a, _, rfl, DGet.t (k := []) ha hb, by rw [val1]; exact h⟩
theorem doc_get (hx : IsDoc H x k) (hy : IsP H y []) (h : Q (.int k) H) : dgetK x y H Q := by
  obtain ⟨a, rfl, ha⟩ := hx
  obtain ⟨b, rfl, hb⟩ := hy
  have z := DGet.t (k := []) ha hb
  rw [val1] at z
  exact ⟨a, _, rfl, z, h⟩
theorem doc_put {a : Addr} (ha : H a = some (.dT [([], .int k)])) (hy : IsP H y []) (h : R (upd H a (.dT [([], .int n)]))) : dputK (.ref a) y (.int n) H R := by
  obtain ⟨b, rfl, hb⟩ := hy
  have z := DPut.t (k := []) (v := .int n) ha hb (by rw [sizeLine_eq]; show 1 < _; omega)
  rw [put1] at z
  exact ⟨a, _, rfl, z, h⟩
theorem wp_copyD (hx : IsDoc H x k) (h : ∀ p H', Same H H' → H' p = some (.dT [([], .int k)]) → H p = none → Q (.ref p) H') : rCopyD [x] H Q := ⟨x, k, rfl, hx, h⟩
theorem wp_eqDoc {j : Int} (hx : IsDoc H x k) (hy : IsDoc H y j) (h : Q (.bl (decide (k = j))) H) : rEqDoc x y H Q := ⟨k, j, hx, hy, h⟩
theorem use_dm {ok : Addr → Prop} {sp : Addr → Sp} {t : TA} (hd : IsD c H v (.set p o n)) (hok : ok c.set) (hl : ∀ x y, (DD.flds x y (.set p o n)).lookup m = none) (h : t σ H fun vs H2 => sp c.set (v :: vs) H2 Q E0) : methK ok m sp t v σ H Q := by
  obtain ⟨a, dx, x, y, rfl, ha, hp⟩ := id hd
  exact ⟨a, _, dx, _, rfl, ha, hok, hl x y, h⟩
noncomputable def spWhole : Sp := fun vs H Q _ => ∃ n : Int, vs = [.int n] ∧ Q (.bl true) H
theorem use_whole {E : XK} (h : Q (.bl true) H) : spWhole [.int n] H Q E := ⟨n, rfl, h⟩
noncomputable def spFits (c : Cl) : Sp := fun vs H Q _ => ∃ v w o n, vs = [v, w] ∧ IsD c H v (.set [] o n) ∧ IsDoc H w o ∧ o ≠ n ∧ Q (.bl true) H
theorem use_fits {E : XK} (hd : IsD c H v (.set [] o n)) (hx : IsDoc H x o) (hne : o ≠ n) (h : Q (.bl true) H) : spFits c [v, x] H Q E := ⟨v, x, o, n, rfl, hd, hx, hne, h⟩
noncomputable def spMade (c : Cl) : Sp := fun vs H Q _ => ∃ v w o n, vs = [v, w] ∧ IsD c H v (.set [] o n) ∧ IsDoc H w o ∧ o ≠ n ∧ ∀ z H', Same H H' → IsDoc H' z n → Q z H'
theorem use_made {E : XK} (hd : IsD c H v (.set [] o n)) (hx : IsDoc H x o) (hne : o ≠ n) (h : ∀ z H', Same H H' → IsDoc H' z n → Q z H') : spMade c [v, x] H Q E := ⟨v, x, o, n, rfl, hd, hx, hne, h⟩
noncomputable def spTold1 (c : Cl) : Sp := fun vs H Q _ => ∃ v p o n, vs = [v] ∧ IsD c H v (.set p o n) ∧ ∀ z H', Same H H' → IsT H' z (.set p o n) → Q z H'
theorem use_told1 {E : XK} (hd : IsD c H v (.set p o n)) (h : ∀ z H', Same H H' → IsT H' z (.set p o n) → Q z H') : spTold1 c [v] H Q E := ⟨v, p, o, n, rfl, hd, h⟩
theorem same_new {a : Addr} {ob : HO} (h : Same H H') (ha : H a = none) : Same H (upd H' a ob) := fun b u q => by
  rw [upd_ne (ne_of_none q ha)]; exact h b u q
end
inductive Chain : Int → List DD → Int → Prop where
  | nil (k : Int) : Chain k [] k
  | cons {k m k' : Int} {ds : List DD} (h : k ≠ m) (t : Chain m ds k') : Chain k (.set [] k m :: ds) k'
theorem Chain.snoc {k m k' : Int} {ds : List DD} (h : Chain k ds m) (hn : m ≠ k') : Chain k (ds ++ [.set [] m k']) k' := by
  induction h with
  | nil k => exact .cons hn (.nil _)
  | cons h t ih => exact .cons h (ih hn)
theorem Chain.last {k k' : Int} {ds : List DD} (h : Chain k ds k') (hn : ds ≠ []) : ∃ o, ds.getLast? = some (.set [] o k') := by
  induction h with
  | nil k => exact absurd rfl hn
  | @cons k m k' ds h t ih =>
    cases ds with
    | nil => cases t; exact ⟨_, rfl⟩
    | cons d ds =>
      obtain ⟨o, e⟩ := ih (by simp)
      exact ⟨o, by rw [List.getLast?_cons_cons]; exact e⟩
theorem Chain.at {k k' : Int} {ds : List DD} (h : Chain k ds k') : ∀ i, i ≤ ds.length → ∃ m, Chain k (ds.take i) m ∧ (i = ds.length → m = k') ∧ (∀ d, ds[i]? = some d → ∃ n, d = .set [] m n ∧ m ≠ n ∧ Chain k (ds.take (i + 1)) n) := by
  intro i hi
  induction h generalizing i with
  | nil k =>
    have e : i = 0 := Nat.le_zero.mp hi
    subst e
    exact ⟨k, .nil _, fun _ => rfl, fun d hd => by simp at hd⟩
  | @cons k m k' ds h t ih =>
    cases i with
    | zero => exact ⟨k, .nil _, fun z => by simp at z, fun d hd => by simp at hd; exact ⟨m, hd.symm, h, .cons h (.nil _)⟩⟩
    | succ i =>
      obtain ⟨q, c1, c2, c3⟩ := ih i (by simpa using hi)
      refine ⟨q, .cons h c1, fun z => c2 (by simpa using z), fun d hd => ?_⟩
      obtain ⟨n, e, ne, c4⟩ := c3 d (by simpa using hd)
      exact ⟨n, e, ne, .cons h c4⟩
theorem Chain.inj {k m m' : Int} {ds : List DD} (h : Chain k ds m) (h' : Chain k ds m') : m = m' := by
  induction h with
  | nil k => cases h'; rfl
  | cons h t ih => cases h' with | cons h2 t2 => exact ih t2
noncomputable def spRowDone (c : Cl) : Sp := fun vs H Q _ => ∃ w a us ds k k', vs = [w, .ref a] ∧ IsDoc H w k ∧ H a = some (.lst us) ∧ Paired (IsD c H) us ds ∧ Chain k ds k' ∧ ∀ z H', Same H H' → IsDoc H' z k' → Q z H'
noncomputable def Fr (M : List Addr) (H H' : Hp) : Prop := ∀ b o, b ∉ M → H b = some o → H' b = some o
noncomputable def AllL (M : List Addr) (H : Hp) : Prop := ∀ m ∈ M, ∃ xs, H m = some (.lst xs)
section
variable {M : List Addr} {H H' H'' : Hp} {v : V} {c : Cl} {d : DD} {k : Int} {p : List Str}
theorem Same.fr (h : Same H H') : Fr M H H' := fun b o _ e => h b o e
theorem Fr.refl : Fr M H H := fun _ _ _ e => e
theorem Fr.trans (a : Fr M H H') (b : Fr M H' H'') : Fr M H H'' := fun x o hx e => b x o hx (a x o hx e)
theorem Fr.upd {l : Addr} {o : HO} (h : l ∈ M) : Fr M H (upd H l o) := fun b u hb e => by rw [upd_ne (fun z => hb (by rw [z]; exact h))]; exact e
theorem Fr.keep {a : Addr} {o : HO} (f : Fr M H H') (hl : AllL M H) (h : H a = some o) (ho : ∀ xs, o ≠ .lst xs) : H' a = some o := f a o (fun z => by
  obtain ⟨xs, e⟩ := hl a z
  rw [h] at e
  cases e
  exact ho xs rfl) h
theorem IsP.fr (h : IsP H v p) (hl : AllL M H) (f : Fr M H H') : IsP H' v p := by
  obtain ⟨a, e, q⟩ := h
  exact ⟨a, e, f.keep hl q fun _ z => nomatch z⟩
theorem IsDoc.fr (h : IsDoc H v k) (hl : AllL M H) (f : Fr M H H') : IsDoc H' v k := by
  obtain ⟨a, e, q⟩ := h
  exact ⟨a, e, f.keep hl q fun _ z => nomatch z⟩
theorem DD.holds_fr {x y : V} (h : d.holds H x y) (hl : AllL M H) (f : Fr M H H') : d.holds H' x y := by
  cases d with
  | put p n => exact IsP.fr h hl f
  | cut p n => exact IsP.fr h hl f
  | set p n m => exact IsP.fr h hl f
  | move p q => exact ⟨IsP.fr h.1 hl f, IsP.fr h.2 hl f⟩
theorem IsT.fr (h : IsT H v d) (hl : AllL M H) (f : Fr M H H') : IsT H' v d := by
  obtain ⟨a, x, y, e, q, r⟩ := h
  exact ⟨a, x, y, e, f.keep hl q (fun _ z => nomatch z), DD.holds_fr r hl f⟩
theorem IsD.fr (h : IsD c H v d) (hl : AllL M H) (f : Fr M H H') : IsD c H' v d := by
  obtain ⟨a, dx, x, y, e, q, r⟩ := h
  exact ⟨a, dx, x, y, e, f.keep hl q (fun _ z => nomatch z), DD.holds_fr r hl f⟩
noncomputable def RowS (c : Cl) (M : List Addr) (H : Hp) (v : V) (ds : List DD) : Prop := ∃ a vs, v = .ref a ∧ a ∉ M ∧ H a = some (.lst vs) ∧ Paired (IsD c H) vs ds
noncomputable def RowU (M : List Addr) (H : Hp) (v : V) (ds : List DD) : Prop := ∃ a vs, v = .ref a ∧ a ∉ M ∧ H a = some (.lst vs) ∧ Paired (IsT H) vs ds
theorem RowS.fr {ds : List DD} (h : RowS c M H v ds) (hl : AllL M H) (f : Fr M H H') : RowS c M H' v ds := by
  obtain ⟨a, vs, e, n, q, r⟩ := h
  exact ⟨a, vs, e, n, f _ _ n q, Paired.mapP r fun _ _ z => z.fr hl f⟩
theorem RowU.fr {ds : List DD} (h : RowU M H v ds) (hl : AllL M H) (f : Fr M H H') : RowU M H' v ds := by
  obtain ⟨a, vs, e, n, q, r⟩ := h
  exact ⟨a, vs, e, n, f _ _ n q, Paired.mapP r fun _ _ z => z.fr hl f⟩
theorem AllL.fresh {a : Addr} (hl : AllL M H) (h : H a = none) : a ∉ M := fun z => by
  obtain ⟨xs, e⟩ := hl a z
  rw [h] at e; cases e
theorem AllL.same (hl : AllL M H) (s : Same H H') : AllL M H' := fun m hm => let ⟨xs, e⟩ := hl m hm; ⟨xs, s _ _ e⟩
theorem AllL.upd {l : Addr} {xs : List V} (hl : AllL M H) : AllL M (upd H l (.lst xs)) := fun m hm => by
  by_cases z : m = l
  · subst z; exact ⟨xs, upd_same⟩
  · obtain ⟨ys, e⟩ := hl m hm
    exact ⟨ys, by rw [upd_ne z]; exact e⟩
end
section
variable {σ : St} {H H' : Hp} {Q : VK} {D : Ends} {c : Cl} {v x y : V} {k o n j : Int} {K : PySem.W.Frag} {C : Addr} {ta tb : TE}
noncomputable def rNotN : R2 := fun x y H Q => y = .non ∧ Q (.bl (!decide (x = .non))) H
noncomputable def rIsN : R2 := fun x y H Q => y = .non ∧ Q (.bl (decide (x = .non))) H
theorem op_notN' {X : Cx} : OpR X (compareOp .IsNot) rNotN := op_notN
theorem op_isN' {X : Cx} : OpR X (compareOp .Is) rIsN := op_isN
theorem wp_notNi (h : Q (.bl true) H) : rNotN (.int j) .non H Q := ⟨rfl, by rw [decide_eq_false (fun z => nomatch z)]; exact h⟩
theorem wp_notNn (h : Q (.bl false) H) : rNotN .non .non H Q := ⟨rfl, by rw [decide_eq_true rfl]; exact h⟩
theorem wp_isNn (h : Q (.bl true) H) : rIsN .non .non H Q := ⟨rfl, by rw [decide_eq_true rfl]; exact h⟩
noncomputable def rInt1 : List V → Hp → VK → Prop := fun xs H Q => (∃ i, xs = [.int i] ∧ Q (.int i) H) ∨ ∃ k, xs = [.bl k] ∧ Q (.int (if k then 1 else 0)) H
theorem call_int1' {X : Cx} : CallR X (.type "int") rInt1 := call_int1
theorem wp_int1b {b : Bool} (h : Q (.int (if b then 1 else 0)) H) : rInt1 [.bl b] H Q := .inr ⟨b, rfl, h⟩
noncomputable def optV : Option Nat → V
  | none => .non
  | some n => .int n
inductive Up (ps : List (Option Nat)) : Option Nat → List Nat → Prop where
  | nil : Up ps none []
  | cons {j : Nat} {st : Option Nat} {l : List Nat} (h : ps[j]? = some st) (t : Up ps st l) : Up ps (some j) (j :: l)
theorem Up.inj {ps : List (Option Nat)} {st : Option Nat} {l l' : List Nat} (a : Up ps st l) (b : Up ps st l') : l = l' := by
  induction a generalizing l' with
  | nil => cases b; rfl
  | cons h t ih =>
    cases b with
    | cons h2 t2 =>
      rw [h] at h2
      cases h2
      rw [ih t2]
noncomputable def Wf (ps : List (Option Nat)) : Prop := ∀ (j m : Nat), ps[j]? = some (some m) → m < j
theorem Up.all {ps : List (Option Nat)} (hw : Wf ps) : ∀ i, i < ps.length → ∃ l, Up ps (some i) l := by
  intro i
  induction i using Nat.strongRecOn with
  | ind i ih =>
    intro hi
    cases e : ps[i] with
    | none => exact ⟨[i], .cons (by rw [List.getElem?_eq_getElem hi, e]) .nil⟩
    | some m =>
      have h1 : ps[i]? = some (some m) := by rw [List.getElem?_eq_getElem hi, e]
      have hm := hw i m h1
      obtain ⟨l, hl⟩ := ih m hm (by omega)
      exact ⟨i :: l, .cons h1 hl⟩
theorem Up.len {ps : List (Option Nat)} (hw : Wf ps) {st : Option Nat} {l : List Nat} (a : Up ps st l) : ∀ i, st = some i → l.length ≤ i + 1 := by
  induction a with
  | nil => intro i z; cases z
  | @cons j st l h t ih =>
    intro i z
    cases z
    cases st with
    | none => cases t; simp
    | some m =>
      have := ih m rfl
      have := hw _ _ h
      rw [List.length_cons]; omega
theorem opts_at {ps : List (Option Nat)} {i : Nat} {st : Option Nat} (h : ps[i]? = some st) : atI (ps.map optV) (i : Int) = some (optV st) := atI_nat (by rw [List.getElem?_map, h]; rfl)
noncomputable def lineV (l : List Nat) : List V := l.map fun (n : Nat) => V.int (n : Int)
theorem wp_isiE {a : Addr} {t cv : Value} {b : Bool} {cc : V} (ha : H a = some (excHO a C)) (hf : ExcF K C) (hc : clsVal cc = some cv) (hk : PySem.W.kitOne K (.ref C) cv = some b) (h : Q (.bl b) H) : rIsiE K [.ref a, cc] H Q := ⟨a, C, cc, cv, b, rfl, ha, hf, hc, hk, h⟩
theorem wp_methE {ok : Addr → Prop} {m : Str} {sp : Addr → Sp} {E : XK} {t : TA} (h : ta σ H fun x H1 => methKE ok m sp E t x σ H1 Q) : tMethE ok m sp E ta t σ H Q := h
theorem use_me {ok : Addr → Prop} {m : Str} {sp : Addr → Sp} {E : XK} {t : TA} {a dx : Addr} {fs : List (Str × V)} (ha : H a = some (.ins C dx fs)) (hok : ok C) (hl : fs.lookup m = none) (h : t σ H fun vs H2 => sp C (.ref a :: vs) H2 Q E) : methKE ok m sp E t (.ref a) σ H Q := ⟨a, C, dx, fs, rfl, ha, hok, hl, h⟩
theorem use_md {ok : Addr → Prop} {m : Str} {sp : Addr → Sp} {t : TA} {a dx : Addr} {fs : List (Str × V)} (ha : H a = some (.ins C dx fs)) (hok : ok C) (hl : fs.lookup m = none) (h : t σ H fun vs H2 => sp C (.ref a :: vs) H2 Q E0) : methK ok m sp t (.ref a) σ H Q := ⟨a, C, dx, fs, rfl, ha, hok, hl, h⟩
theorem wp_raise {E : XK} {t : TA} (h : t σ H fun xs H1 => xs.length ≤ sizeLine ∧ E (.ref C) none H1) : tRaise E C t D σ H := h
end
end L2
namespace L2
open PySem PySem.Spec PyProof.Rows
theorem lineV_rev (l : List Nat) : (lineV l).reverse = lineV l.reverse := by unfold lineV; rw [List.map_reverse]
theorem lineV_app (l m : List Nat) : lineV (l ++ m) = lineV l ++ lineV m := by unfold lineV; rw [List.map_append]
theorem lineV_len (l : List Nat) : (lineV l).length = l.length := by unfold lineV; rw [List.length_map]
end L2
namespace L2
open PySem PySem.Spec PyProof.Rows
section
variable {σ : St} {H H' : Hp} {D : Ends} {K : PySem.W.Frag} {x a : Addr}
theorem wp_try' {CB : Addr} {i : Nat} {z : St} {tb : XK → TS} {ts : TS} (h : ∀ HE : XK, HE = handE K CB i z ts D → tb HE D σ H) : tTry K CB i z tb ts D σ H := h _ rfl
theorem none_same (s : Same H H') (h : H' a = none) : H a = none := by
  cases q : H a with
  | none => rfl
  | some o => have := s _ _ q; rw [h] at this; cases this
theorem none_sameX (s : SameX x H H') (h : H' a = none) (hx : a ≠ x) : H a = none := by
  cases q : H a with
  | none => rfl
  | some o => have := s _ _ hx q; rw [h] at this; cases this
theorem wp_lstF {xs : List V} {Q : VK} (hz : xs.length ≤ 1000) (h : ∀ a H', Same H H' → H' a = some (.lst xs) → H a = none → Q (.ref a) H') : lstK xs H Q := ⟨Nat.le_of_lt (small1000 hz), fun p hp => h p _ (Same.upd hp) upd_same hp⟩
theorem wp_dnewK {Q : VK} (h : ∀ a H', Same H H' → H a = none → Q (.ref a) H') : tDNewK σ H Q := fun p hp => h p _ (Same.upd hp) hp
end
theorem len1 {α : Type} {P : List α → Prop} (h : ∀ a, P [a]) : ∀ us, us.length = 1 → P us
  | [a], _ => h a
theorem len2 {α : Type} {P : List α → Prop} (h : ∀ a b, P [a, b]) : ∀ us, us.length = 2 → P us
  | [a, b], _ => h a b
theorem len3 {α : Type} {P : List α → Prop} (h : ∀ a b c, P [a, b, c]) : ∀ us, us.length = 3 → P us
  | [a, b, c], _ => h a b c
theorem len4 {α : Type} {P : List α → Prop} (h : ∀ a b c d, P [a, b, c, d]) : ∀ us, us.length = 4 → P us
  | [a, b, c, d], _ => h a b c d
end L2

set_option Elab.async false
set_option linter.all false
set_option maxRecDepth 100000
set_option maxHeartbeats 0
namespace My
open PySem L2 PyProof.Rows
local macro_rules
  | `(tactic| walk_at "isp") => `(tactic| (first | assumption | exact IsP.same (by assumption) (by assumption) | exact IsP.same (by assumption) (Same.trans (by assumption) (by assumption)) | (refine IsP.same (by assumption) ?_; (repeat (first | assumption | refine Same.trans (by assumption) ?_)); done)))
  | `(tactic| walk_at "ats") => `(tactic| (first | assumption | exact upd_same | (refine at_same (by assumption) ?_; (repeat (first | assumption | refine Same.trans (by assumption) ?_)); done)))
  | `(tactic| walk_at "prune") => `(tactic| (exfalso; first | contradiction | omega | (rename_i hh; exact absurd hh (by decide)) | (rename_i hh; exact hh rfl)))
  | `(tactic| walk_at "st") => `(tactic| (first | ((with_reducible refine' wp_var ?hv ?_); (case hv => exact rfl)) | with_reducible (first | refine wp_seq ?_ | refine wp_asg ?_ | refine wp_name ?_ | refine wp_op ?_ | refine wp_c ?_ | refine wp_test ?_ | refine wp_tB ?_ | refine wp_ifS ?_ | refine wp_ret ?_ | refine wp_next ?_ | refine wp_drop ?_ | refine wp_un ?_ | refine wp_rU ?_ | refine wp_rI0 ?_ | refine wp_rEqI ?_ | refine wp_rNeI ?_ | refine wp_bl ?_ | refine wp_int ?_ | refine wp_and ?_ | refine wp_or ?_ | refine wp_not ?_ | refine wp_andV ?_ | refine wp_notV ?_ | refine wp_chain ?_ | refine wp_nil ?_ | refine wp_cons ?_ | refine wp_cB ?_ | refine wp_call ?_ | refine wp_part ?_ | refine wp_sl ?_ | refine wp_for ?_ | refine wp_rng1 ?_ | refine wp_list ?_ | refine wp_tup ?_ | refine wp_lst ?_) | ((with_reducible refine wp_rI ?hc ?_); (case hc => first | decide | (show CMul _ _; unfold CMul; omega) | (show CDiv _ _; unfold CDiv; omega) | (show (0:Int) < _; omega) | (show CPow _ _; unfold CPow; decide))) | ((with_reducible (first | refine wp_iteP ?_ ?_ | refine wp_iteN ?_ ?_ | refine wp_iteNB ?_ ?_ | refine wp_iteB ?_ ?_)) <;> intro _ <;> try walk_at "prune") | with_reducible (first | refine iteT ?_ | refine iteF ?_) | ((with_reducible refine wp_rng1' ?a ?b ?_); (case a => first | assumption | omega); (case b => first | assumption | omega)) | ((with_reducible refine wp_tupP0 ?_); intro _ _ _ _) | with_reducible (first | refine wp_make ?_ | refine wp_methD ?_ | refine wp_fld ?_ | refine wp_sfld ?_) | ((with_reducible refine' wp_fldK ?ha ?hc ?hn ?hl ?_); (case ha => walk_at "ats"); (case hc => assumption); (case hn => assumption); (case hl => exact rfl)) | ((with_reducible refine' wp_sfK ?ha ?hc ?hn ?hl ?_); (case ha => walk_at "ats"); (case hc => assumption); (case hn => assumption); (case hl => first | decide | (show (0:Nat) < 1000; decide) | (show (1:Nat) < 1000; decide) | (show (2:Nat) < 1000; decide) | (show (3:Nat) < 1000; decide))) | ((with_reducible refine' wp_ixT ?ha ?hv ?_); (case ha => walk_at "ats"); (case hv => exact rfl)) | ((with_reducible refine' mk_set ?hp ?_); (case hp => walk_at "isp"); intro _ _ _ _) | ((with_reducible refine' wp_tset ?hp ?_); (case hp => walk_at "isp"); intro _ _ _ _)))
noncomputable def top (i : Nat) : Stmt := PySem.Challenge.pw_boughback_k31_stands_and_lines.main.body.getD i (.Pass ⟨0, 0, 0, 0⟩)
noncomputable abbrev sis_whole : Stmt := top 2
noncomputable abbrev srow_done : Stmt := top 16
noncomputable abbrev s_law_at : Stmt := top 23
noncomputable abbrev s_law_is : Stmt := top 24
noncomputable abbrev s_law_number : Stmt := top 25
noncomputable abbrev s_law_kind : Stmt := top 26
noncomputable abbrev s_law_asked : Stmt := top 27
noncomputable abbrev s_law_refused : Stmt := top 28
noncomputable abbrev s_law_row : Stmt := top 29
noncomputable abbrev s_law_line : Stmt := top 30
noncomputable abbrev s_law_look : Stmt := top 31
noncomputable abbrev slaw : Stmt := top 32
noncomputable abbrev sBough___init__ : Stmt := inClass (top 18) 0
noncomputable abbrev sBough_many : Stmt := inClass (top 18) 1
noncomputable abbrev sBough_grow : Stmt := inClass (top 18) 2
noncomputable abbrev sBough_doc : Stmt := inClass (top 18) 3
noncomputable abbrev sBough_parent : Stmt := inClass (top 18) 4
noncomputable abbrev sBough_row : Stmt := inClass (top 18) 5
noncomputable abbrev sBough_line : Stmt := inClass (top 18) 6
noncomputable abbrev sBough_must_have : Stmt := inClass (top 18) 11
noncomputable abbrev sSet___init__ : Stmt := inClass (top 21) 0
noncomputable abbrev sSet_fits : Stmt := inClass (top 21) 1
noncomputable abbrev sSet_made : Stmt := inClass (top 21) 2
noncomputable abbrev sSet_told : Stmt := inClass (top 21) 4
noncomputable abbrev sDeed_done : Stmt := inClass (top 20) 0
structure Ek where
  bough : Addr
  xBoughError : Addr
  xClash : Addr
  xEmpty : Addr
  xHangs : Addr
  xNoDeed : Addr
  xNoRoom : Addr
  xNoStand : Addr
  xNoText : Addr
  xNoWord : Addr
  xTwice : Addr
  xUnfit : Addr
structure Txt (K : PySem.W.Frag) (mg : Str → Option Value) (c : Cl) (e : Ek) : Prop where
  b_len : mg "len" = none
  b_range : mg "range" = none
  b_isinstance : mg "isinstance" = none
  b_list : mg "list" = none
  b_dict : mg "dict" = none
  b_int : mg "int" = none
  b_bool : mg "bool" = none
  b_enumerate : mg "enumerate" = none
  b_reversed : mg "reversed" = none
  b_ValueError : mg "ValueError" = none
  mSet : mg "Set" = some (.ref c.set)
  mBough : mg "Bough" = some (.ref e.bough)
  mBoughError : mg "BoughError" = some (.ref e.xBoughError)
  mClash : mg "Clash" = some (.ref e.xClash)
  mEmpty : mg "Empty" = some (.ref e.xEmpty)
  mHangs : mg "Hangs" = some (.ref e.xHangs)
  mNoDeed : mg "NoDeed" = some (.ref e.xNoDeed)
  mNoRoom : mg "NoRoom" = some (.ref e.xNoRoom)
  mNoStand : mg "NoStand" = some (.ref e.xNoStand)
  mNoText : mg "NoText" = some (.ref e.xNoText)
  mNoWord : mg "NoWord" = some (.ref e.xNoWord)
  mTwice : mg "Twice" = some (.ref e.xTwice)
  mUnfit : mg "Unfit" = some (.ref e.xUnfit)
  cfSet : CF K c.set
  cfBough : CF K e.bough
  n_sp : NoAttr K c.set "path"
  n_so : NoAttr K c.set "old"
  n_sn : NoAttr K c.set "new"
  n_bd : NoAttr K e.bough "docs"
  n_bp : NoAttr K e.bough "parents"
  n_br : NoAttr K e.bough "rows"
  n_bg : NoAttr K e.bough "given"
  xcNoStand : ExcCl K e.xNoStand
  xfNoStand : ExcF K e.xNoStand
  exNoStand : PySem.W.exmOne K (.ref e.xNoStand) (.ref e.xBoughError) = some true
  kvNoStand : PySem.W.kitOne K (.ref e.xNoStand) (.type "ValueError") = some true
  kNoStand_Clash : PySem.W.kitOne K (.ref e.xNoStand) (.ref e.xClash) = some false
  kNoStand_Empty : PySem.W.kitOne K (.ref e.xNoStand) (.ref e.xEmpty) = some false
  kNoStand_Hangs : PySem.W.kitOne K (.ref e.xNoStand) (.ref e.xHangs) = some false
  kNoStand_NoDeed : PySem.W.kitOne K (.ref e.xNoStand) (.ref e.xNoDeed) = some false
  kNoStand_NoRoom : PySem.W.kitOne K (.ref e.xNoStand) (.ref e.xNoRoom) = some false
  kNoStand_NoStand : PySem.W.kitOne K (.ref e.xNoStand) (.ref e.xNoStand) = some true
  kNoStand_NoText : PySem.W.kitOne K (.ref e.xNoStand) (.ref e.xNoText) = some false
  kNoStand_NoWord : PySem.W.kitOne K (.ref e.xNoStand) (.ref e.xNoWord) = some false
  kNoStand_Twice : PySem.W.kitOne K (.ref e.xNoStand) (.ref e.xTwice) = some false
  kNoStand_Unfit : PySem.W.kitOne K (.ref e.xNoStand) (.ref e.xUnfit) = some false
  xcEmpty : ExcCl K e.xEmpty
  xfEmpty : ExcF K e.xEmpty
  exEmpty : PySem.W.exmOne K (.ref e.xEmpty) (.ref e.xBoughError) = some true
  kvEmpty : PySem.W.kitOne K (.ref e.xEmpty) (.type "ValueError") = some true
  kEmpty_Clash : PySem.W.kitOne K (.ref e.xEmpty) (.ref e.xClash) = some false
  kEmpty_Empty : PySem.W.kitOne K (.ref e.xEmpty) (.ref e.xEmpty) = some true
  kEmpty_Hangs : PySem.W.kitOne K (.ref e.xEmpty) (.ref e.xHangs) = some false
  kEmpty_NoDeed : PySem.W.kitOne K (.ref e.xEmpty) (.ref e.xNoDeed) = some false
  kEmpty_NoRoom : PySem.W.kitOne K (.ref e.xEmpty) (.ref e.xNoRoom) = some false
  kEmpty_NoStand : PySem.W.kitOne K (.ref e.xEmpty) (.ref e.xNoStand) = some false
  kEmpty_NoText : PySem.W.kitOne K (.ref e.xEmpty) (.ref e.xNoText) = some false
  kEmpty_NoWord : PySem.W.kitOne K (.ref e.xEmpty) (.ref e.xNoWord) = some false
  kEmpty_Twice : PySem.W.kitOne K (.ref e.xEmpty) (.ref e.xTwice) = some false
  kEmpty_Unfit : PySem.W.kitOne K (.ref e.xEmpty) (.ref e.xUnfit) = some false
section
variable {P : Program} {w : World} {K : PySem.W.Frag} {mg : Str → Option Value} {base : Heap} {c : Cl} {e : Ek}
theorem scis_whole : FnScope ["thing"] ["thing"] (defScope sis_whole) := ⟨rfl, rfl, rfl, by decide +kernel, rfl, by decide +kernel, by decide +kernel⟩
theorem okis_whole (F : Fn K mg "is_whole" sis_whole ["thing"]) (T : Txt K mg c e)  : FnAll P w K mg base "is_whole" 1 ["thing"] (spWhole) := by
  refine F.ok (k := 0) scis_whole (fun vs H Q E h => ?_) (fun f cdv A outer s H vs Q E hr h => ?_)
  · obtain ⟨n, rfl, k⟩ := h
    rfl
  · obtain ⟨n, rfl, k⟩ := h
    have hu := hu16 hr
    have hu1 := Nat.lt_of_le_of_lt (Nat.add_le_add_left (by decide : 1 ≤ 16) _) hu
    have nd := scis_whole.nd
    refine ⟨_, (pss_one (ps_ret (pe_and (pe_callB call_isinst (by rfl) T.b_isinstance boot_isinstance (pa_cons (pv 0) (pa_cons (pe_bltn (v := .ty "int") rfl T.b_int boot_int rfl) pa_nil))) (pe_one (pe_not (pe_callB call_isinst (by rfl) T.b_isinstance boot_isinstance (pa_cons (pv 0) (pa_cons (pe_bltn (v := .ty "bool") rfl T.b_bool boot_bool rfl) pa_nil)))))))), ?_⟩
    have est : start ["thing"] [.int n] = [some (.int n)] := rfl
    rw [est]
    clear est
    repeat' (first | ((with_reducible refine wp_isiII ?hk ?_); (case hk => rfl)) | ((with_reducible refine wp_isiIB ?hk ?_); (case hk => rfl)) | walk_at "st")
    exact k
theorem scSet___init__ : FnScope ["self", "path", "old", "new"] ["self", "path", "old", "new"] (defScope sSet___init__) := ⟨rfl, rfl, rfl, by decide +kernel, rfl, by decide +kernel, by decide +kernel⟩
theorem okSet___init__ (F : Mt K c.set "__init__" "Set.__init__" sSet___init__ ["self", "path", "old", "new"]) (T : Txt K mg c e)  : MethAll P w K mg base c.set "__init__" 1 ["self", "path", "old", "new"] (spInit c.set ["path", "old", "new"]) := by
  refine F.ok (k := 0) (T.cfSet).cl scSet___init__ (fun vs H Q E h => ?_) (fun f cdv A outer s H vs Q E hr h => ?_)
  · obtain ⟨x, dx, us, rfl, hl, ha, k⟩ := h
    exact congrArg (· + 1) hl
  · obtain ⟨x, dx, us, rfl, hl, ha, k⟩ := h
    have hu := hu16 hr
    have hu1 := Nat.lt_of_le_of_lt (Nat.add_le_add_left (by decide : 1 ≤ 16) _) hu
    have nd := scSet___init__.nd
    have hcl := (T.cfSet).cl
    obtain ⟨u0, u1, u2, rfl⟩ : ∃ u0 u1 u2, us = [u0, u1, u2] := list3 hl
    have := T.n_sp
    have := T.n_so
    have := T.n_sn
    refine ⟨_, (pss_cons (ps_fld (pv 0) (pv 1) rfl)
      (pss_cons (ps_fld (pv 0) (pv 2) rfl)
      (pss_one (ps_fld (pv 0) (pv 3) rfl)))), ?_⟩
    have est : start ["self", "path", "old", "new"] [.ref x, u0, u1, u2] = [some (.ref x), some (u0), some (u1), some (u2)] := rfl
    rw [est]
    clear est
    repeat' (first | walk_at "st")
    refine k _ ?_ fun b hb => ?_
    · rw [upd_same]
      rfl
    · rw [upd_ne hb]; rw [upd_ne hb]; rw [upd_ne hb]
theorem scSet_told : FnScope ["self"] ["self"] (defScope sSet_told) := ⟨rfl, rfl, rfl, by decide +kernel, rfl, by decide +kernel, by decide +kernel⟩
theorem okSet_told (F : Mt K c.set "told" "Set.told" sSet_told ["self"]) (T : Txt K mg c e)  : MethAll P w K mg base c.set "told" 1 ["self"] (spTold1 c) := by
  refine F.ok (k := 0) (T.cfSet).cl scSet_told (fun vs H Q E h => ?_) (fun f cdv A outer s H vs Q E hr h => ?_)
  · obtain ⟨v, p, o, n, rfl, hd, k⟩ := h
    rfl
  · obtain ⟨v, p, o, n, rfl, hd, k⟩ := h
    have hu := hu16 hr
    have hu1 := Nat.lt_of_le_of_lt (Nat.add_le_add_left (by decide : 1 ≤ 16) _) hu
    have nd := scSet_told.nd
    have hcl := (T.cfSet).cl
    obtain ⟨a, dx, x, y, rfl, ha, hp⟩ := id hd
    have hp : IsP H x _ := hp
    have ha : H a = some (.ins c.set dx [("path", x), ("old", .int o), ("new", .int n)]) := ha
    have := T.n_sp
    have := T.n_so
    have := T.n_sn
    refine ⟨_, (pss_one (ps_ret (pe_tup (pa_cons pe_str (pa_cons (pe_fld (pv 0) rfl) (pa_cons (pe_fld (pv 0) rfl) (pa_cons (pe_fld (pv 0) rfl) pa_nil))))))), ?_⟩
    have est : start ["self"] [.ref a] = [some (.ref a)] := rfl
    rw [est]
    clear est
    repeat' (first | walk_at "st")
    exact k _ _ (by assumption) (by assumption)
theorem scSet_fits : FnScope ["self", "doc"] ["self", "doc"] (defScope sSet_fits) := ⟨rfl, rfl, rfl, by decide +kernel, rfl, by decide +kernel, by decide +kernel⟩
theorem okSet_fits (F : Mt K c.set "fits" "Set.fits" sSet_fits ["self", "doc"]) (T : Txt K mg c e) (Fis_whole : FnAll P w K mg base "is_whole" 1 ["thing"] (spWhole)) : MethAll P w K mg base c.set "fits" 2 ["self", "doc"] (spFits c) := by
  refine F.ok (k := 1) (T.cfSet).cl scSet_fits (fun vs H Q E h => ?_) (fun f cdv A outer s H vs Q E hr h => ?_)
  · obtain ⟨v, wv, o, n, rfl, hd, hw, hne, k⟩ := h
    rfl
  · obtain ⟨v, wv, o, n, rfl, hd, hw, hne, k⟩ := h
    have hu := hu16 hr
    have hu1 := Nat.lt_of_le_of_lt (Nat.add_le_add_left (by decide : 1 ≤ 16) _) hu
    have nd := scSet_fits.nd
    have hcl := (T.cfSet).cl
    obtain ⟨a, dx, x, y, rfl, ha, hp⟩ := id hd
    have hp : IsP H x _ := hp
    have ha : H a = some (.ins c.set dx [("path", x), ("old", .int o), ("new", .int n)]) := ha
    have := T.n_sp
    have := T.n_so
    have := T.n_sn
    refine ⟨_, (pss_cons (ps_if (PW.pt (pw_or (pt_not (pt_val (pe_callF Fis_whole hr (pa_cons (pe_fld (pv 0) rfl) pa_nil)))) (pw_or (pt_not (pt_val (pe_callF Fis_whole hr (pa_cons (pe_fld (pv 0) rfl) pa_nil)))) (pw_or1 (pt_cmpR op_eq (pe_fld (pv 0) rfl) (pe_fld (pv 0) rfl) (nomark _)))))) (pss_one (ps_ret pe_bl)) pss_nil)
      (pss_one (ps_ret (pe_and (pe_cmp (pc_din hu1 (pe_fld (pv 0) rfl) (pv 1)) rfl) (pe_one (pe_cmpR op_eq (pe_dget hu1 (pv 1) (pe_fld (pv 0) rfl) (fun _ _ => rfl)) (pe_fld (pv 0) rfl) (nomark _))))))), ?_⟩
    have est : start ["self", "doc"] [.ref a, wv] = [some (.ref a), some (wv)] := rfl
    rw [est]
    clear est
    repeat' (first | (with_reducible refine use_whole ?_) | (with_reducible refine wp_din ?_) | (with_reducible refine wp_dget ?_) | (with_reducible refine wp_dput ?_) | ((with_reducible refine' doc_in ?hx ?hy ?_); (case hx => (first | assumption | exact IsDoc.same (by assumption) (by assumption) | (refine IsDoc.same (by assumption) ?_; (repeat (first | assumption | refine Same.trans (by assumption) ?_)); done))); (case hy => walk_at "isp")) | ((with_reducible refine' doc_get ?hx ?hy ?_); (case hx => (first | assumption | exact IsDoc.same (by assumption) (by assumption) | (refine IsDoc.same (by assumption) ?_; (repeat (first | assumption | refine Same.trans (by assumption) ?_)); done))); (case hy => walk_at "isp")) | ((with_reducible refine' doc_put ?hx ?hy ?_); (case hx => walk_at "ats"); (case hy => walk_at "isp")) | walk_at "st")
    show Q (.bl (decide (o = o))) H
    rw [decide_eq_true rfl]
    exact k
theorem scSet_made : FnScope ["self", "doc", "after"] ["self", "doc"] (defScope sSet_made) := ⟨rfl, rfl, rfl, by decide +kernel, rfl, by decide +kernel, by decide +kernel⟩
theorem okSet_made (F : Mt K c.set "made" "Set.made" sSet_made ["self", "doc"]) (T : Txt K mg c e)  : MethAll P w K mg base c.set "made" 1 ["self", "doc"] (spMade c) := by
  refine F.ok (k := 0) (T.cfSet).cl scSet_made (fun vs H Q E h => ?_) (fun f cdv A outer s H vs Q E hr h => ?_)
  · obtain ⟨v, wv, o, n, rfl, hd, hw, hne, k⟩ := h
    rfl
  · obtain ⟨v, wv, o, n, rfl, hd, hw, hne, k⟩ := h
    have hu := hu16 hr
    have hu1 := Nat.lt_of_le_of_lt (Nat.add_le_add_left (by decide : 1 ≤ 16) _) hu
    have nd := scSet_made.nd
    have hcl := (T.cfSet).cl
    obtain ⟨a, dx, x, y, rfl, ha, hp⟩ := id hd
    have hp : IsP H x _ := hp
    have ha : H a = some (.ins c.set dx [("path", x), ("old", .int o), ("new", .int n)]) := ha
    have := T.n_sp
    have := T.n_so
    have := T.n_sn
    refine ⟨_, (pss_cons (ps_set (i := 2) nd rfl (Or.inl rfl) (pe_callTy call_dictD (by rfl) T.b_dict PyProof.Rows.boot_dict (pa_cons (pv 1) pa_nil)))
      (pss_cons (ps_dput hu1 (pv 2) (pe_fld (pv 0) rfl) (pe_fld (pv 0) rfl) rfl)
      (pss_one (ps_ret (pv 2))))), ?_⟩
    have est : start ["self", "doc", "after"] [.ref a, wv] = [some (.ref a), some (wv), none] := rfl
    rw [est]
    clear est
    repeat' (first | ((with_reducible refine' wp_copyD ?hx ?_); (case hx => (first | assumption | exact IsDoc.same (by assumption) (by assumption) | (refine IsDoc.same (by assumption) ?_; (repeat (first | assumption | refine Same.trans (by assumption) ?_)); done))); intro _ _ _ _ _) | (with_reducible refine wp_din ?_) | (with_reducible refine wp_dget ?_) | (with_reducible refine wp_dput ?_) | ((with_reducible refine' doc_in ?hx ?hy ?_); (case hx => (first | assumption | exact IsDoc.same (by assumption) (by assumption) | (refine IsDoc.same (by assumption) ?_; (repeat (first | assumption | refine Same.trans (by assumption) ?_)); done))); (case hy => walk_at "isp")) | ((with_reducible refine' doc_get ?hx ?hy ?_); (case hx => (first | assumption | exact IsDoc.same (by assumption) (by assumption) | (refine IsDoc.same (by assumption) ?_; (repeat (first | assumption | refine Same.trans (by assumption) ?_)); done))); (case hy => walk_at "isp")) | ((with_reducible refine' doc_put ?hx ?hy ?_); (case hx => walk_at "ats"); (case hy => walk_at "isp")) | walk_at "st")
    rename_i q H1 s1 h1 hq
    exact k _ _ (same_new s1 hq) ⟨q, rfl, upd_same⟩
theorem scDeed_done : FnScope ["self", "doc"] ["self", "doc"] (defScope sDeed_done) := ⟨rfl, rfl, rfl, by decide +kernel, rfl, by decide +kernel, by decide +kernel⟩
theorem okDeed_done (F : Mt K c.set "done" "Deed.done" sDeed_done ["self", "doc"]) (T : Txt K mg c e) (Md_fits : ∀ C, C = c.set → MethAll P w K mg base C "fits" 2 ["self", "doc"] (spFits c)) (Md_made : ∀ C, C = c.set → MethAll P w K mg base C "made" 1 ["self", "doc"] (spMade c)) : MethAll P w K mg base c.set "done" 3 ["self", "doc"] (spMade c) := by
  refine F.ok (k := 2) (T.cfSet).cl scDeed_done (fun vs H Q E h => ?_) (fun f cdv A outer s H vs Q E hr h => ?_)
  · obtain ⟨v, wv, o, n, rfl, hd, hw, hne, k⟩ := h
    rfl
  · obtain ⟨v, wv, o, n, rfl, hd, hw, hne, k⟩ := h
    have hu := hu16 hr
    have hu1 := Nat.lt_of_le_of_lt (Nat.add_le_add_left (by decide : 1 ≤ 16) _) hu
    have nd := scDeed_done.nd
    have hcl := (T.cfSet).cl
    refine ⟨_, (pss_cons (ps_if (pt_not (pt_val (pe_methD Md_fits hr (pv 0) (pa_cons (pv 1) pa_nil)))) (pss_one ps_never) pss_nil)
      (pss_one (ps_ret (pe_methD Md_made hr (pv 0) (pa_cons (pv 1) pa_nil))))), ?_⟩
    have est : start ["self", "doc"] [v, wv] = [some (v), some (wv)] := rfl
    rw [est]
    clear est
    repeat' (first | ((with_reducible refine' use_dm ?hd ?hok ?hl ?_); (case hd => (first | assumption | exact IsD.same (by assumption) (by assumption) | (refine IsD.same (by assumption) ?_; (repeat (first | assumption | refine Same.trans (by assumption) ?_)); done))); (case hok => exact rfl); (case hl => exact fun _ _ => rfl)) | ((with_reducible refine' use_fits ?hd ?hx ?hne ?_); (case hd => (first | assumption | exact IsD.same (by assumption) (by assumption) | (refine IsD.same (by assumption) ?_; (repeat (first | assumption | refine Same.trans (by assumption) ?_)); done))); (case hx => (first | assumption | exact IsDoc.same (by assumption) (by assumption) | (refine IsDoc.same (by assumption) ?_; (repeat (first | assumption | refine Same.trans (by assumption) ?_)); done))); (case hne => assumption)) | ((with_reducible refine' use_made ?hd ?hx ?hne ?_); (case hd => (first | assumption | exact IsD.same (by assumption) (by assumption) | (refine IsD.same (by assumption) ?_; (repeat (first | assumption | refine Same.trans (by assumption) ?_)); done))); (case hx => (first | assumption | exact IsDoc.same (by assumption) (by assumption) | (refine IsDoc.same (by assumption) ?_; (repeat (first | assumption | refine Same.trans (by assumption) ?_)); done))); (case hne => assumption); intro _ _ _ _) | walk_at "st")
    exact k _ _ (by assumption) (by assumption)

noncomputable def spAt (K : PySem.W.Frag) : Sp := fun vs H Q _ => ∃ (a : Addr) (ns : List Int), vs = [.ref a, .int 0] ∧ SqL K H a (ns.map V.int) ∧ ∀ m : Int, Q (.int m) H
noncomputable def spIs : Sp := fun vs H Q _ => ∃ m n : Int, vs = [.int m, .int n] ∧ Q (.bl (decide (m = n))) H
theorem use_is {m n : Int} {H : Hp} {Q : VK} {E : XK} (h : Q (.bl (decide (m = n))) H) : spIs [.int m, .int n] H Q E := ⟨m, n, rfl, h⟩
noncomputable def spKind (e : Ek) : Sp := fun vs H Q _ => ∃ (a C : Addr) (j : Int), vs = [.ref a] ∧ H a = some (excHO a C) ∧ ((C = e.xNoStand ∧ j = 5) ∨ (C = e.xEmpty ∧ j = 1)) ∧ ∀ H', Same H H' → Q (.int j) H'
noncomputable def spRow : Sp := fun vs H Q _ => ∃ n0 ld : Int, vs = [.int n0, .int ld] ∧ ∀ a us ds k' H', Same H H' → H a = none → H' a = some (.lst us) → Paired (IsT H') us ds → Chain n0 ds k' → ds ≠ [] → ds.length ≤ 3 → Q (.ref a) H'
noncomputable def spLineL : Sp := fun vs H Q _ => ∃ (lp : Addr) (i : Nat) (ps : List (Option Nat)) (l : List Nat), vs = [.ref lp, .int i] ∧ H lp = some (.lst (ps.map optV)) ∧ Up ps (some i) l ∧ l.length ≤ 1000 ∧ ∀ a H', Same H H' → H' a = some (.lst (lineV l.reverse)) → Q (.ref a) H'
theorem scrow_done : FnScope ["doc", "row", "after", "at", "deed"] ["doc", "row"] (defScope srow_done) := ⟨rfl, rfl, rfl, by decide +kernel, rfl, by decide +kernel, by decide +kernel⟩
theorem okrow_done (F : Fn K mg "row_done" srow_done ["doc", "row"]) (T : Txt K mg c e) (Md_done : ∀ C, C = c.set → MethAll P w K mg base C "done" 3 ["self", "doc"] (spMade c)) : FnAll P w K mg base "row_done" 4 ["doc", "row"] (spRowDone c) := by
  refine F.ok (k := 3) scrow_done (fun vs H Q E h => ?_) (fun f cdv A outer s H vs Q E hr h => ?_)
  · obtain ⟨wv, a, us, ds, k0, k1, rfl, hw, ha, pa, hch, k⟩ := h
    rfl
  · obtain ⟨wv, a, us, ds, k0, k1, rfl, hw, ha, pa, hch, k⟩ := h
    have hu := hu16 hr
    have hu1 := Nat.lt_of_le_of_lt (Nat.add_le_add_left (by decide : 1 ≤ 16) _) hu
    have nd := scrow_done.nd
    refine ⟨_, (pss_cons (ps_set (i := 2) nd rfl (Or.inl rfl) (pe_callTy call_dictD (by rfl) T.b_dict PyProof.Rows.boot_dict (pa_cons (pv 0) pa_nil)))
      (pss_cons (ps_for PassesOwn.never rfl (pi_enum rfl T.b_enumerate (pa_cons (pv 1) pa_nil) PyProof.Rows.boot_enumerate) (pg_tup rfl (pgs_cons (pg_name (i := 3) nd rfl (Or.inl rfl)) (pgs_cons (pg_name (i := 4) nd rfl (Or.inl rfl)) pgs_nil))) (pss_one (ps_tryN (fun _ _ => (pss_one (ps_set (i := 2) nd rfl (Or.inl rfl) (pe_methD Md_done hr (pv 4) (pa_cons (pv 2) pa_nil))))))))
      (pss_one (ps_ret (pv 2))))), ?_⟩
    have est : start ["doc", "row", "after", "at", "deed"] [wv, .ref a] = [some (wv), some (.ref a), none, none, none] := rfl
    rw [est]
    clear est
    repeat' (first | ((with_reducible refine' wp_copyD ?hx ?_); (case hx => (first | assumption | exact IsDoc.same (by assumption) (by assumption) | (refine IsDoc.same (by assumption) ?_; (repeat (first | assumption | refine Same.trans (by assumption) ?_)); done))); intro _ _ _ _ _) | (with_reducible refine wp_enum ?_) | walk_at "st")
    rename_i p H1 s1 h1 hp
    have la := Paired.length pa
    refine ⟨a, rfl, ⟨_, sq_of (s1 _ _ ha)⟩, ?_⟩
    refine loop_enum (xs := us) (fun i σ' H' => Same H1 H' ∧ ∃ z m o1 o2, σ' = [some wv, some (.ref a), some z, o1, o2] ∧ IsDoc H' z m ∧ Chain k0 (ds.take i) m) ⟨Same.refl _, .ref p, k0, _, _, rfl, ⟨p, rfl, h1⟩, .nil _⟩ (fun i σ' H' _ h => sq_of (h.1 _ _ (s1 _ _ ha))) ?_ ?_
    · rintro i x _ H2 q hi ⟨s2, z, m, o1, o2, rfl, hz, hc⟩ hq
      obtain ⟨d, ed, rd⟩ := Paired.getL pa hi
      have hil := (List.getElem?_eq_some_iff.mp hi).1
      obtain ⟨m', c1, c2, c3⟩ := hch.at i (by omega)
      have em := c1.inj hc
      subst em
      obtain ⟨n, rfl, hne, c4⟩ := c3 d ed
      have s3 : Same H2 (upd H2 q (.tup [.int i, x])) := Same.upd hq
      have h3 : upd H2 q (.tup [.int i, x]) q = some (.tup [.int i, x]) := upd_same
      generalize upd H2 q (.tup [.int i, x]) = H3 at *
      have hd3 : IsD c H3 x (.set [] m' n) := rd.same (s1.trans (s2.trans s3))
      have hz3 : IsDoc H3 z m' := hz.same s3
      refine ⟨q, _, rfl, .inl (.inl h3), rfl, _, _, rfl, ?_⟩
      repeat' (first | walk_at "st")
      refine ⟨_, _, rfl, ?_⟩
      repeat' (first | walk_at "st")
      refine ⟨rfl, ?_⟩
      repeat' (first | ((with_reducible refine' use_dm ?hd ?hok ?hl ?_); (case hd => (first | assumption | exact IsD.same (by assumption) (by assumption) | (refine IsD.same (by assumption) ?_; (repeat (first | assumption | refine Same.trans (by assumption) ?_)); done))); (case hok => exact rfl); (case hl => exact fun _ _ => rfl)) | ((with_reducible refine' use_made ?hd ?hx ?hne ?_); (case hd => (first | assumption | exact IsD.same (by assumption) (by assumption) | (refine IsD.same (by assumption) ?_; (repeat (first | assumption | refine Same.trans (by assumption) ?_)); done))); (case hx => (first | assumption | exact IsDoc.same (by assumption) (by assumption) | (refine IsDoc.same (by assumption) ?_; (repeat (first | assumption | refine Same.trans (by assumption) ?_)); done))); (case hne => assumption); intro _ _ _ _) | walk_at "st")
      exact ⟨(by (first | assumption | exact Same.refl _ | exact Same.trans (by assumption) (by assumption) | (refine Same.trans (by assumption) ?_; (repeat (first | assumption | refine Same.trans (by assumption) ?_)); done))), _, _, _, _, rfl, by assumption, c4⟩
    · rintro _ H2 ⟨s2, z, m, o1, o2, rfl, hz, hc⟩
      repeat' (first | walk_at "st")
      rw [la, List.take_length] at hc
      have em := hc.inj hch
      subst em
      exact k _ _ (s1.trans s2) hz
theorem sc_law_at : FnScope ["_law_script", "_law_k"] ["_law_script", "_law_k"] (defScope s_law_at) := ⟨rfl, rfl, rfl, by decide +kernel, rfl, by decide +kernel, by decide +kernel⟩
theorem ok_law_at (F : Fn K mg "_law_at" s_law_at ["_law_script", "_law_k"]) (T : Txt K mg c e)  : FnAll P w K mg base "_law_at" 1 ["_law_script", "_law_k"] (spAt K) := by
  refine F.ok (k := 0) sc_law_at (fun vs H Q E h => ?_) (fun f cdv A outer s H vs Q E hr h => ?_)
  · obtain ⟨a, ns, rfl, hS, k⟩ := h
    rfl
  · obtain ⟨a, ns, rfl, hS, k⟩ := h
    have hu := hu16 hr
    have hu1 := Nat.lt_of_le_of_lt (Nat.add_le_add_left (by decide : 1 ≤ 16) _) hu
    have nd := sc_law_at.nd
    refine ⟨_, (pss_cons (ps_if (pt_cmpR op_lt (pv 1) (pe_callB call_lenQ (by rfl) T.b_len PySem.boot_len (pa_cons (pv 0) pa_nil)) (nomark _)) (pss_one (ps_ret (pe_ix ix_list (pv 0) (pv 1) (fun _ _ => rfl)))) pss_nil)
      (pss_one (ps_ret pe_int))), ?_⟩
    have est : start ["_law_script", "_law_k"] [.ref a, .int 0] = [some (.ref a), some (.int 0)] := rfl
    rw [est]
    clear est
    repeat' (first | ((with_reducible refine' wp_lenL ?ha ?_); (case ha => exact hS)) | walk_at "st")
    · rename_i hlt
      rw [List.length_map] at hlt
      refine wp_ixAny hS (by decide) (by rw [List.length_map]; exact hlt) fun v hv => ?_
      obtain ⟨z, _, rfl⟩ := List.mem_map.mp hv
      exact k _
    · exact k _
theorem sc_law_is : FnScope ["_law_found", "_law_due"] ["_law_found", "_law_due"] (defScope s_law_is) := ⟨rfl, rfl, rfl, by decide +kernel, rfl, by decide +kernel, by decide +kernel⟩
theorem ok_law_is (F : Fn K mg "_law_is" s_law_is ["_law_found", "_law_due"]) (T : Txt K mg c e)  : FnAll P w K mg base "_law_is" 1 ["_law_found", "_law_due"] (spIs) := by
  refine F.ok (k := 0) sc_law_is (fun vs H Q E h => ?_) (fun f cdv A outer s H vs Q E hr h => ?_)
  · obtain ⟨m, n, rfl, k⟩ := h
    rfl
  · obtain ⟨m, n, rfl, k⟩ := h
    have hu := hu16 hr
    have hu1 := Nat.lt_of_le_of_lt (Nat.add_le_add_left (by decide : 1 ≤ 16) _) hu
    have nd := sc_law_is.nd
    refine ⟨_, (pss_one (ps_ret (pe_and (pe_callB call_isinst (by rfl) T.b_isinstance boot_isinstance (pa_cons (pv 0) (pa_cons (pe_bltn (v := .ty "int") rfl T.b_int boot_int rfl) pa_nil))) (pe_and (pe_not (pe_callB call_isinst (by rfl) T.b_isinstance boot_isinstance (pa_cons (pv 0) (pa_cons (pe_bltn (v := .ty "bool") rfl T.b_bool boot_bool rfl) pa_nil)))) (pe_one (pe_cmpR op_eq (pv 0) (pv 1) (nomark _))))))), ?_⟩
    have est : start ["_law_found", "_law_due"] [.int m, .int n] = [some (.int m), some (.int n)] := rfl
    rw [est]
    clear est
    repeat' (first | ((with_reducible refine wp_isiII ?hk ?_); (case hk => rfl)) | ((with_reducible refine wp_isiIB ?hk ?_); (case hk => rfl)) | walk_at "st")
    exact k
theorem sc_law_number : FnScope ["_law_load"] ["_law_load"] (defScope s_law_number) := ⟨rfl, rfl, rfl, by decide +kernel, rfl, by decide +kernel, by decide +kernel⟩
theorem ok_law_number (F : Fn K mg "_law_number" s_law_number ["_law_load"]) (T : Txt K mg c e)  : FnAll P w K mg base "_law_number" 1 ["_law_load"] (spNumber) := by
  refine F.ok (k := 0) sc_law_number (fun vs H Q E h => ?_) (fun f cdv A outer s H vs Q E hr h => ?_)
  · obtain ⟨n, rfl, k⟩ := h
    rfl
  · obtain ⟨n, rfl, k⟩ := h
    have hu := hu16 hr
    have hu1 := Nat.lt_of_le_of_lt (Nat.add_le_add_left (by decide : 1 ≤ 16) _) hu
    have nd := sc_law_number.nd
    refine ⟨_, (pss_cons (ps_if (pt_cmpR op_eq (pe_op op_mod (pv 0) pe_int) pe_int (nomark _)) (pss_one (ps_ret (pe_op op_sub (pe_op op_mod (pe_op op_fdiv (pv 0) pe_int) pe_int) pe_int))) pss_nil)
      (pss_one (ps_ret (pe_op op_sub (pe_op op_mod (pe_op op_fdiv (pv 0) pe_int) (pe_op op_sub (pe_op op_mul pe_int (pe_op op_pow pe_int pe_int)) pe_int)) (pe_op op_sub (pe_op op_pow pe_int pe_int) pe_int))))), ?_⟩
    have est : start ["_law_load"] [.int n] = [some (.int n)] := rfl
    rw [est]
    clear est
    repeat' (first | walk_at "st")
    all_goals exact k _
theorem sc_law_kind : FnScope ["_law_e", "_law_kinds"] ["_law_e"] (defScope s_law_kind) := ⟨rfl, rfl, rfl, by decide +kernel, rfl, by decide +kernel, by decide +kernel⟩
theorem ok_law_kind (F : Fn K mg "_law_kind" s_law_kind ["_law_e"]) (T : Txt K mg c e)  : FnAllH P w K mg base "_law_kind" 1 ["_law_e"] (spKind e) := by
  refine F.okH (k := 0) sc_law_kind (fun vs H Q E h => ?_) (fun f cdv A outer s H vs Q E hr h => ?_)
  · obtain ⟨a, C, j, rfl, ha, hC, k⟩ := h
    rfl
  · obtain ⟨a, C, j, rfl, ha, hC, k⟩ := h
    have hu := hu16H hr
    have hu1 := Nat.lt_of_le_of_lt (Nat.add_le_add_left (by decide : 1 ≤ 16) _) hu
    have nd := sc_law_kind.nd
    refine ⟨_, (pss_cons (ps_set (i := 1) nd rfl (Or.inl rfl) (pe_lst (pa_cons (pe_callB call_isinstE (by rfl) T.b_isinstance boot_isinstance (pa_cons (pv 0) (pa_cons (pe_glob (v := .ref e.xClash) rfl T.mClash rfl) pa_nil))) (pa_cons (pe_callB call_isinstE (by rfl) T.b_isinstance boot_isinstance (pa_cons (pv 0) (pa_cons (pe_glob (v := .ref e.xEmpty) rfl T.mEmpty rfl) pa_nil))) (pa_cons (pe_callB call_isinstE (by rfl) T.b_isinstance boot_isinstance (pa_cons (pv 0) (pa_cons (pe_glob (v := .ref e.xHangs) rfl T.mHangs rfl) pa_nil))) (pa_cons (pe_callB call_isinstE (by rfl) T.b_isinstance boot_isinstance (pa_cons (pv 0) (pa_cons (pe_glob (v := .ref e.xNoDeed) rfl T.mNoDeed rfl) pa_nil))) pa_nil))))))
      (pss_cons (ps_set (i := 1) nd rfl (Or.inl rfl) (pe_op op_cat (pv 1) (pe_lst (pa_cons (pe_callB call_isinstE (by rfl) T.b_isinstance boot_isinstance (pa_cons (pv 0) (pa_cons (pe_glob (v := .ref e.xNoRoom) rfl T.mNoRoom rfl) pa_nil))) (pa_cons (pe_callB call_isinstE (by rfl) T.b_isinstance boot_isinstance (pa_cons (pv 0) (pa_cons (pe_glob (v := .ref e.xNoStand) rfl T.mNoStand rfl) pa_nil))) (pa_cons (pe_callB call_isinstE (by rfl) T.b_isinstance boot_isinstance (pa_cons (pv 0) (pa_cons (pe_glob (v := .ref e.xNoText) rfl T.mNoText rfl) pa_nil))) (pa_cons (pe_callB call_isinstE (by rfl) T.b_isinstance boot_isinstance (pa_cons (pv 0) (pa_cons (pe_glob (v := .ref e.xNoWord) rfl T.mNoWord rfl) pa_nil))) pa_nil)))))))
      (pss_cons (ps_set (i := 1) nd rfl (Or.inl rfl) (pe_op op_cat (pv 1) (pe_lst (pa_cons (pe_callB call_isinstE (by rfl) T.b_isinstance boot_isinstance (pa_cons (pv 0) (pa_cons (pe_glob (v := .ref e.xTwice) rfl T.mTwice rfl) pa_nil))) (pa_cons (pe_callB call_isinstE (by rfl) T.b_isinstance boot_isinstance (pa_cons (pv 0) (pa_cons (pe_glob (v := .ref e.xUnfit) rfl T.mUnfit rfl) pa_nil))) pa_nil)))))
      (pss_cons (ps_if (PW.pt (pw_or (pt_cmpR op_ne (pe_bm PySem.F.plainAttrs_list PySem.F.slot_list_count PySem.F.type_list_count mt_countT (pv 1) (pa_cons pe_bl pa_nil)) pe_int (nomark _)) (pw_or1 (pt_not (pt_val (pe_callB call_isinstE (by rfl) T.b_isinstance boot_isinstance (pa_cons (pv 0) (pa_cons (pe_bltn (v := .ty "ValueError") rfl T.b_ValueError (by decide +kernel) rfl) pa_nil)))))))) (pss_one (ps_ret (pe_un un_neg pe_int))) pss_nil)
      (pss_one (ps_ret (pe_bm PySem.F.plainAttrs_list PySem.F.slot_list_index PySem.F.type_list_index mt_indexT (pv 1) (pa_cons pe_bl pa_nil)))))))), ?_⟩
    have est : start ["_law_e", "_law_kinds"] [.ref a] = [some (.ref a), none] := rfl
    rw [est]
    clear est
    rcases hC with ⟨rfl, rfl⟩ | ⟨rfl, rfl⟩
    · skip
      have ha' := ha
      repeat' (first | ((with_reducible refine' wp_isiE (t := .none) ?ha ?hf ?hc ?hk ?_); (case ha => walk_at "ats"); (case hf => first | exact T.xfNoStand | exact T.xfEmpty); (case hc => exact rfl); (case hk => first | exact T.kNoStand_Clash | exact T.kNoStand_Empty | exact T.kNoStand_Hangs | exact T.kNoStand_NoDeed | exact T.kNoStand_NoRoom | exact T.kNoStand_NoStand | exact T.kNoStand_NoText | exact T.kNoStand_NoWord | exact T.kNoStand_Twice | exact T.kNoStand_Unfit | exact T.kEmpty_Clash | exact T.kEmpty_Empty | exact T.kEmpty_Hangs | exact T.kEmpty_NoDeed | exact T.kEmpty_NoRoom | exact T.kEmpty_NoStand | exact T.kEmpty_NoText | exact T.kEmpty_NoWord | exact T.kEmpty_Twice | exact T.kEmpty_Unfit | exact T.kvNoStand | exact T.kvEmpty)) | walk_at "st")
      refine wp_lstN (by show 4 ≤ 1000; decide) fun l1 H1 s1 h1 => ?_
      repeat' (first | ((with_reducible refine' wp_isiE (t := .none) ?ha ?hf ?hc ?hk ?_); (case ha => walk_at "ats"); (case hf => first | exact T.xfNoStand | exact T.xfEmpty); (case hc => exact rfl); (case hk => first | exact T.kNoStand_Clash | exact T.kNoStand_Empty | exact T.kNoStand_Hangs | exact T.kNoStand_NoDeed | exact T.kNoStand_NoRoom | exact T.kNoStand_NoStand | exact T.kNoStand_NoText | exact T.kNoStand_NoWord | exact T.kNoStand_Twice | exact T.kNoStand_Unfit | exact T.kEmpty_Clash | exact T.kEmpty_Empty | exact T.kEmpty_Hangs | exact T.kEmpty_NoDeed | exact T.kEmpty_NoRoom | exact T.kEmpty_NoStand | exact T.kEmpty_NoText | exact T.kEmpty_NoWord | exact T.kEmpty_Twice | exact T.kEmpty_Unfit | exact T.kvNoStand | exact T.kvEmpty)) | walk_at "st")
      refine wp_lstN (by show 4 ≤ 1000; decide) fun l2 H2 s2 h2 => ?_
      refine wp_catL (s2 _ _ h1) h2 (by show 4 + 4 ≤ _; decide) fun l3 H3 s3 h3 _ => ?_
      repeat' (first | ((with_reducible refine' wp_isiE (t := .none) ?ha ?hf ?hc ?hk ?_); (case ha => walk_at "ats"); (case hf => first | exact T.xfNoStand | exact T.xfEmpty); (case hc => exact rfl); (case hk => first | exact T.kNoStand_Clash | exact T.kNoStand_Empty | exact T.kNoStand_Hangs | exact T.kNoStand_NoDeed | exact T.kNoStand_NoRoom | exact T.kNoStand_NoStand | exact T.kNoStand_NoText | exact T.kNoStand_NoWord | exact T.kNoStand_Twice | exact T.kNoStand_Unfit | exact T.kEmpty_Clash | exact T.kEmpty_Empty | exact T.kEmpty_Hangs | exact T.kEmpty_NoDeed | exact T.kEmpty_NoRoom | exact T.kEmpty_NoStand | exact T.kEmpty_NoText | exact T.kEmpty_NoWord | exact T.kEmpty_Twice | exact T.kEmpty_Unfit | exact T.kvNoStand | exact T.kvEmpty)) | walk_at "st")
      refine wp_lstN (by show 2 ≤ 1000; decide) fun l4 H4 s4 h4 => ?_
      refine wp_catL (s4 _ _ h3) h4 (by show 8 + 2 ≤ _; decide) fun l5 H5 s5 h5 _ => ?_
      have hbs : H5 l5 = some (.lst (([false, false, false, false, false, true, false, false, false, false] : List Bool).map V.bl)) := h5
      have s05 : Same H H5 := (by (first | assumption | exact Same.refl _ | exact Same.trans (by assumption) (by assumption) | (refine Same.trans (by assumption) ?_; (repeat (first | assumption | refine Same.trans (by assumption) ?_)); done)))
      have ha5 := s05 _ _ ha
      repeat' (first | ((with_reducible refine' wp_isiE (t := .none) ?ha ?hf ?hc ?hk ?_); (case ha => walk_at "ats"); (case hf => first | exact T.xfNoStand | exact T.xfEmpty); (case hc => exact rfl); (case hk => first | exact T.kNoStand_Clash | exact T.kNoStand_Empty | exact T.kNoStand_Hangs | exact T.kNoStand_NoDeed | exact T.kNoStand_NoRoom | exact T.kNoStand_NoStand | exact T.kNoStand_NoText | exact T.kNoStand_NoWord | exact T.kNoStand_Twice | exact T.kNoStand_Unfit | exact T.kEmpty_Clash | exact T.kEmpty_Empty | exact T.kEmpty_Hangs | exact T.kEmpty_NoDeed | exact T.kEmpty_NoRoom | exact T.kEmpty_NoStand | exact T.kEmpty_NoText | exact T.kEmpty_NoWord | exact T.kEmpty_Twice | exact T.kEmpty_Unfit | exact T.kvNoStand | exact T.kvEmpty)) | (with_reducible refine wp_bm ?_) | (with_reducible refine wp_bm0 ?_) | walk_at "st")
      refine ⟨tyL hbs, ?_⟩
      repeat' (first | ((with_reducible refine' wp_isiE (t := .none) ?ha ?hf ?hc ?hk ?_); (case ha => walk_at "ats"); (case hf => first | exact T.xfNoStand | exact T.xfEmpty); (case hc => exact rfl); (case hk => first | exact T.kNoStand_Clash | exact T.kNoStand_Empty | exact T.kNoStand_Hangs | exact T.kNoStand_NoDeed | exact T.kNoStand_NoRoom | exact T.kNoStand_NoStand | exact T.kNoStand_NoText | exact T.kNoStand_NoWord | exact T.kNoStand_Twice | exact T.kNoStand_Unfit | exact T.kEmpty_Clash | exact T.kEmpty_Empty | exact T.kEmpty_Hangs | exact T.kEmpty_NoDeed | exact T.kEmpty_NoRoom | exact T.kEmpty_NoStand | exact T.kEmpty_NoText | exact T.kEmpty_NoWord | exact T.kEmpty_Twice | exact T.kEmpty_Unfit | exact T.kvNoStand | exact T.kvEmpty)) | (with_reducible refine wp_bm ?_) | (with_reducible refine wp_bm0 ?_) | walk_at "st")
      refine ⟨l5, [false, false, false, false, false, true, false, false, false, false], rfl, rfl, hbs, ?_⟩
      repeat' (first | ((with_reducible refine' wp_isiE (t := .none) ?ha ?hf ?hc ?hk ?_); (case ha => walk_at "ats"); (case hf => first | exact T.xfNoStand | exact T.xfEmpty); (case hc => exact rfl); (case hk => first | exact T.kNoStand_Clash | exact T.kNoStand_Empty | exact T.kNoStand_Hangs | exact T.kNoStand_NoDeed | exact T.kNoStand_NoRoom | exact T.kNoStand_NoStand | exact T.kNoStand_NoText | exact T.kNoStand_NoWord | exact T.kNoStand_Twice | exact T.kNoStand_Unfit | exact T.kEmpty_Clash | exact T.kEmpty_Empty | exact T.kEmpty_Hangs | exact T.kEmpty_NoDeed | exact T.kEmpty_NoRoom | exact T.kEmpty_NoStand | exact T.kEmpty_NoText | exact T.kEmpty_NoWord | exact T.kEmpty_Twice | exact T.kEmpty_Unfit | exact T.kvNoStand | exact T.kvEmpty)) | (with_reducible refine wp_bm ?_) | (with_reducible refine wp_bm0 ?_) | walk_at "st")
      all_goals first
        | (refine ⟨tyL hbs, ?_⟩
           repeat' (first | ((with_reducible refine' wp_isiE (t := .none) ?ha ?hf ?hc ?hk ?_); (case ha => walk_at "ats"); (case hf => first | exact T.xfNoStand | exact T.xfEmpty); (case hc => exact rfl); (case hk => first | exact T.kNoStand_Clash | exact T.kNoStand_Empty | exact T.kNoStand_Hangs | exact T.kNoStand_NoDeed | exact T.kNoStand_NoRoom | exact T.kNoStand_NoStand | exact T.kNoStand_NoText | exact T.kNoStand_NoWord | exact T.kNoStand_Twice | exact T.kNoStand_Unfit | exact T.kEmpty_Clash | exact T.kEmpty_Empty | exact T.kEmpty_Hangs | exact T.kEmpty_NoDeed | exact T.kEmpty_NoRoom | exact T.kEmpty_NoStand | exact T.kEmpty_NoText | exact T.kEmpty_NoWord | exact T.kEmpty_Twice | exact T.kEmpty_Unfit | exact T.kvNoStand | exact T.kvEmpty)) | (with_reducible refine wp_bm ?_) | (with_reducible refine wp_bm0 ?_) | walk_at "st")
           exact ⟨l5, [false, false, false, false, false, true, false, false, false, false], 5, rfl, rfl, hbs, rfl, (by decide), k _ s05⟩)
        | skip
    · skip
      have ha' := ha
      repeat' (first | ((with_reducible refine' wp_isiE (t := .none) ?ha ?hf ?hc ?hk ?_); (case ha => walk_at "ats"); (case hf => first | exact T.xfNoStand | exact T.xfEmpty); (case hc => exact rfl); (case hk => first | exact T.kNoStand_Clash | exact T.kNoStand_Empty | exact T.kNoStand_Hangs | exact T.kNoStand_NoDeed | exact T.kNoStand_NoRoom | exact T.kNoStand_NoStand | exact T.kNoStand_NoText | exact T.kNoStand_NoWord | exact T.kNoStand_Twice | exact T.kNoStand_Unfit | exact T.kEmpty_Clash | exact T.kEmpty_Empty | exact T.kEmpty_Hangs | exact T.kEmpty_NoDeed | exact T.kEmpty_NoRoom | exact T.kEmpty_NoStand | exact T.kEmpty_NoText | exact T.kEmpty_NoWord | exact T.kEmpty_Twice | exact T.kEmpty_Unfit | exact T.kvNoStand | exact T.kvEmpty)) | walk_at "st")
      refine wp_lstN (by show 4 ≤ 1000; decide) fun l1 H1 s1 h1 => ?_
      repeat' (first | ((with_reducible refine' wp_isiE (t := .none) ?ha ?hf ?hc ?hk ?_); (case ha => walk_at "ats"); (case hf => first | exact T.xfNoStand | exact T.xfEmpty); (case hc => exact rfl); (case hk => first | exact T.kNoStand_Clash | exact T.kNoStand_Empty | exact T.kNoStand_Hangs | exact T.kNoStand_NoDeed | exact T.kNoStand_NoRoom | exact T.kNoStand_NoStand | exact T.kNoStand_NoText | exact T.kNoStand_NoWord | exact T.kNoStand_Twice | exact T.kNoStand_Unfit | exact T.kEmpty_Clash | exact T.kEmpty_Empty | exact T.kEmpty_Hangs | exact T.kEmpty_NoDeed | exact T.kEmpty_NoRoom | exact T.kEmpty_NoStand | exact T.kEmpty_NoText | exact T.kEmpty_NoWord | exact T.kEmpty_Twice | exact T.kEmpty_Unfit | exact T.kvNoStand | exact T.kvEmpty)) | walk_at "st")
      refine wp_lstN (by show 4 ≤ 1000; decide) fun l2 H2 s2 h2 => ?_
      refine wp_catL (s2 _ _ h1) h2 (by show 4 + 4 ≤ _; decide) fun l3 H3 s3 h3 _ => ?_
      repeat' (first | ((with_reducible refine' wp_isiE (t := .none) ?ha ?hf ?hc ?hk ?_); (case ha => walk_at "ats"); (case hf => first | exact T.xfNoStand | exact T.xfEmpty); (case hc => exact rfl); (case hk => first | exact T.kNoStand_Clash | exact T.kNoStand_Empty | exact T.kNoStand_Hangs | exact T.kNoStand_NoDeed | exact T.kNoStand_NoRoom | exact T.kNoStand_NoStand | exact T.kNoStand_NoText | exact T.kNoStand_NoWord | exact T.kNoStand_Twice | exact T.kNoStand_Unfit | exact T.kEmpty_Clash | exact T.kEmpty_Empty | exact T.kEmpty_Hangs | exact T.kEmpty_NoDeed | exact T.kEmpty_NoRoom | exact T.kEmpty_NoStand | exact T.kEmpty_NoText | exact T.kEmpty_NoWord | exact T.kEmpty_Twice | exact T.kEmpty_Unfit | exact T.kvNoStand | exact T.kvEmpty)) | walk_at "st")
      refine wp_lstN (by show 2 ≤ 1000; decide) fun l4 H4 s4 h4 => ?_
      refine wp_catL (s4 _ _ h3) h4 (by show 8 + 2 ≤ _; decide) fun l5 H5 s5 h5 _ => ?_
      have hbs : H5 l5 = some (.lst (([false, true, false, false, false, false, false, false, false, false] : List Bool).map V.bl)) := h5
      have s05 : Same H H5 := (by (first | assumption | exact Same.refl _ | exact Same.trans (by assumption) (by assumption) | (refine Same.trans (by assumption) ?_; (repeat (first | assumption | refine Same.trans (by assumption) ?_)); done)))
      have ha5 := s05 _ _ ha
      repeat' (first | ((with_reducible refine' wp_isiE (t := .none) ?ha ?hf ?hc ?hk ?_); (case ha => walk_at "ats"); (case hf => first | exact T.xfNoStand | exact T.xfEmpty); (case hc => exact rfl); (case hk => first | exact T.kNoStand_Clash | exact T.kNoStand_Empty | exact T.kNoStand_Hangs | exact T.kNoStand_NoDeed | exact T.kNoStand_NoRoom | exact T.kNoStand_NoStand | exact T.kNoStand_NoText | exact T.kNoStand_NoWord | exact T.kNoStand_Twice | exact T.kNoStand_Unfit | exact T.kEmpty_Clash | exact T.kEmpty_Empty | exact T.kEmpty_Hangs | exact T.kEmpty_NoDeed | exact T.kEmpty_NoRoom | exact T.kEmpty_NoStand | exact T.kEmpty_NoText | exact T.kEmpty_NoWord | exact T.kEmpty_Twice | exact T.kEmpty_Unfit | exact T.kvNoStand | exact T.kvEmpty)) | (with_reducible refine wp_bm ?_) | (with_reducible refine wp_bm0 ?_) | walk_at "st")
      refine ⟨tyL hbs, ?_⟩
      repeat' (first | ((with_reducible refine' wp_isiE (t := .none) ?ha ?hf ?hc ?hk ?_); (case ha => walk_at "ats"); (case hf => first | exact T.xfNoStand | exact T.xfEmpty); (case hc => exact rfl); (case hk => first | exact T.kNoStand_Clash | exact T.kNoStand_Empty | exact T.kNoStand_Hangs | exact T.kNoStand_NoDeed | exact T.kNoStand_NoRoom | exact T.kNoStand_NoStand | exact T.kNoStand_NoText | exact T.kNoStand_NoWord | exact T.kNoStand_Twice | exact T.kNoStand_Unfit | exact T.kEmpty_Clash | exact T.kEmpty_Empty | exact T.kEmpty_Hangs | exact T.kEmpty_NoDeed | exact T.kEmpty_NoRoom | exact T.kEmpty_NoStand | exact T.kEmpty_NoText | exact T.kEmpty_NoWord | exact T.kEmpty_Twice | exact T.kEmpty_Unfit | exact T.kvNoStand | exact T.kvEmpty)) | (with_reducible refine wp_bm ?_) | (with_reducible refine wp_bm0 ?_) | walk_at "st")
      refine ⟨l5, [false, true, false, false, false, false, false, false, false, false], rfl, rfl, hbs, ?_⟩
      repeat' (first | ((with_reducible refine' wp_isiE (t := .none) ?ha ?hf ?hc ?hk ?_); (case ha => walk_at "ats"); (case hf => first | exact T.xfNoStand | exact T.xfEmpty); (case hc => exact rfl); (case hk => first | exact T.kNoStand_Clash | exact T.kNoStand_Empty | exact T.kNoStand_Hangs | exact T.kNoStand_NoDeed | exact T.kNoStand_NoRoom | exact T.kNoStand_NoStand | exact T.kNoStand_NoText | exact T.kNoStand_NoWord | exact T.kNoStand_Twice | exact T.kNoStand_Unfit | exact T.kEmpty_Clash | exact T.kEmpty_Empty | exact T.kEmpty_Hangs | exact T.kEmpty_NoDeed | exact T.kEmpty_NoRoom | exact T.kEmpty_NoStand | exact T.kEmpty_NoText | exact T.kEmpty_NoWord | exact T.kEmpty_Twice | exact T.kEmpty_Unfit | exact T.kvNoStand | exact T.kvEmpty)) | (with_reducible refine wp_bm ?_) | (with_reducible refine wp_bm0 ?_) | walk_at "st")
      all_goals first
        | (refine ⟨tyL hbs, ?_⟩
           repeat' (first | ((with_reducible refine' wp_isiE (t := .none) ?ha ?hf ?hc ?hk ?_); (case ha => walk_at "ats"); (case hf => first | exact T.xfNoStand | exact T.xfEmpty); (case hc => exact rfl); (case hk => first | exact T.kNoStand_Clash | exact T.kNoStand_Empty | exact T.kNoStand_Hangs | exact T.kNoStand_NoDeed | exact T.kNoStand_NoRoom | exact T.kNoStand_NoStand | exact T.kNoStand_NoText | exact T.kNoStand_NoWord | exact T.kNoStand_Twice | exact T.kNoStand_Unfit | exact T.kEmpty_Clash | exact T.kEmpty_Empty | exact T.kEmpty_Hangs | exact T.kEmpty_NoDeed | exact T.kEmpty_NoRoom | exact T.kEmpty_NoStand | exact T.kEmpty_NoText | exact T.kEmpty_NoWord | exact T.kEmpty_Twice | exact T.kEmpty_Unfit | exact T.kvNoStand | exact T.kvEmpty)) | (with_reducible refine wp_bm ?_) | (with_reducible refine wp_bm0 ?_) | walk_at "st")
           exact ⟨l5, [false, true, false, false, false, false, false, false, false, false], 1, rfl, rfl, hbs, rfl, (by decide), k _ s05⟩)
        | skip

noncomputable def WL (ps : List (Option Nat)) (l : List Nat) (lp : Addr) (H : Hp) (m : Nat) (σ' : L2.St) (H' : Hp) : Prop := Same H H' ∧ ∃ st l2 f a, m = l2.length ∧ Up ps st l2 ∧ H' a = some (.lst (lineV f)) ∧ f.reverse ++ l2 = l ∧ σ' = [some (.ref lp), some (optV st), some (.ref a)]
noncomputable def WU (ps : List (Option Nat)) (l : List Nat) (b u : Addr) (z : Int) (H : Hp) (m : Nat) (σ' : L2.St) (H' : Hp) : Prop := SameX u H H' ∧ ∃ st l2 f, m = l2.length ∧ Up ps st l2 ∧ H' u = some (.lst (lineV f)) ∧ f ++ l2 = l ∧ σ' = [some (.ref b), some (.int z), some (.ref u), some (optV st)]
structure Bg (c : Cl) (e : Ek) (M : List Addr) (H : Hp) (b d p r : Addr) (ks : List Int) (ps : List (Option Nat)) (rs : List (List DD)) : Prop where
  ob : ∃ bx ag, H b = some (.ins e.bough bx [("docs", .ref d), ("parents", .ref p), ("rows", .ref r), ("given", .ref ag)])
  al : AllL M H
  dp : d ≠ p
  dr : d ≠ r
  pr : p ≠ r
  md : d ∈ M
  mp : p ∈ M
  mr : r ∈ M
  docs : ∃ vs, H d = some (.lst vs) ∧ Paired (IsDoc H) vs ks
  pars : H p = some (.lst (ps.map optV))
  rows : ∃ vs, H r = some (.lst vs) ∧ Paired (RowS c M H) vs rs
  lp : ps.length = ks.length
  lr : rs.length = ks.length
  wf : Wf ps
  sz : ks.length ≤ 1000
theorem Bg.same {c : Cl} {e : Ek} {M : List Addr} {H H' : Hp} {b d p r : Addr} {ks : List Int} {ps : List (Option Nat)} {rs : List (List DD)} (B : Bg c e M H b d p r ks ps rs) (s : Same H H') : Bg c e M H' b d p r ks ps rs where
  ob := let ⟨x, y, h⟩ := B.ob; ⟨x, y, s _ _ h⟩
  al := B.al.same s
  dp := B.dp
  dr := B.dr
  pr := B.pr
  md := B.md
  mp := B.mp
  mr := B.mr
  docs := let ⟨vs, h, q⟩ := B.docs; ⟨vs, s _ _ h, Paired.mapP q fun _ _ z => z.same s⟩
  pars := s _ _ B.pars
  rows := let ⟨vs, h, q⟩ := B.rows; ⟨vs, s _ _ h, Paired.mapP q fun _ _ z => z.fr B.al s.fr⟩
  lp := B.lp
  lr := B.lr
  wf := B.wf
  sz := B.sz
theorem Bg.fr {c : Cl} {e : Ek} {M : List Addr} {H H' : Hp} {b d p r : Addr} {ks : List Int} {ps : List (Option Nat)} {rs : List (List DD)} (B : Bg c e M H b d p r ks ps rs) (f : Fr M H H') (al : AllL M H') (h1 : H' d = H d) (h2 : H' p = H p) (h3 : H' r = H r) : Bg c e M H' b d p r ks ps rs where
  ob := let ⟨x, y, h⟩ := B.ob; ⟨x, y, f.keep B.al h fun _ z => nomatch z⟩
  al := al
  dp := B.dp
  dr := B.dr
  pr := B.pr
  md := B.md
  mp := B.mp
  mr := B.mr
  docs := let ⟨vs, h, q⟩ := B.docs; ⟨vs, by rw [h1]; exact h, Paired.mapP q fun _ _ z => z.fr B.al f⟩
  pars := by rw [h2]; exact B.pars
  rows := let ⟨vs, h, q⟩ := B.rows; ⟨vs, by rw [h3]; exact h, Paired.mapP q fun _ _ z => z.fr B.al f⟩
  lp := B.lp
  lr := B.lr
  wf := B.wf
  sz := B.sz
noncomputable def Good (n : Nat) (z : Int) : Prop := 0 ≤ z ∧ z < n
noncomputable def spMust (c : Cl) (e : Ek) : Sp := fun vs H Q E => ∃ (b : Addr) (z : Int) (M : List Addr) (d p r : Addr) (ks : List Int) (ps : List (Option Nat)) (rs : List (List DD)), vs = [.ref b, .int z] ∧ Bg c e M H b d p r ks ps rs ∧ (Good ks.length z → Q .non H) ∧ (¬ Good ks.length z → E (.ref e.xNoStand) none H)
noncomputable def spMany (c : Cl) (e : Ek) : Sp := fun vs H Q E => ∃ (b : Addr) (M : List Addr) (d p r : Addr) (ks : List Int) (ps : List (Option Nat)) (rs : List (List DD)), vs = [.ref b] ∧ Bg c e M H b d p r ks ps rs ∧ Q (.int ks.length) H
noncomputable def spDocM (c : Cl) (e : Ek) : Sp := fun vs H Q E => ∃ (b : Addr) (z : Int) (M : List Addr) (d p r : Addr) (ks : List Int) (ps : List (Option Nat)) (rs : List (List DD)), vs = [.ref b, .int z] ∧ Bg c e M H b d p r ks ps rs ∧ (∀ (i : Nat) k, z = i → ks[i]? = some k → ∀ v H', Same H H' → IsDoc H' v k → Q v H') ∧ (¬ Good ks.length z → E (.ref e.xNoStand) none H)
noncomputable def spPar (c : Cl) (e : Ek) : Sp := fun vs H Q E => ∃ (b : Addr) (z : Int) (M : List Addr) (d p r : Addr) (ks : List Int) (ps : List (Option Nat)) (rs : List (List DD)), vs = [.ref b, .int z] ∧ Bg c e M H b d p r ks ps rs ∧ (∀ (i : Nat) st, z = i → ps[i]? = some st → Q (optV st) H) ∧ (¬ Good ks.length z → E (.ref e.xNoStand) none H)
noncomputable def spRowM (c : Cl) (e : Ek) : Sp := fun vs H Q E => ∃ (b : Addr) (z : Int) (M : List Addr) (d p r : Addr) (ks : List Int) (ps : List (Option Nat)) (rs : List (List DD)), vs = [.ref b, .int z] ∧ Bg c e M H b d p r ks ps rs ∧ (∀ (i : Nat) ds, z = i → rs[i]? = some ds → ∀ a us H', Same H H' → H a = none → H' a = some (.lst us) → Paired (IsD c H') us ds → Q (.ref a) H') ∧ (¬ Good ks.length z → E (.ref e.xNoStand) none H)
noncomputable def spLine (c : Cl) (e : Ek) : Sp := fun vs H Q E => ∃ (b : Addr) (z : Int) (M : List Addr) (d p r : Addr) (ks : List Int) (ps : List (Option Nat)) (rs : List (List DD)), vs = [.ref b, .int z] ∧ Bg c e M H b d p r ks ps rs ∧ (∀ (i : Nat) l, z = i → i < ks.length → Up ps (some i) l → ∀ a H', Same H H' → H a = none → H' a = some (.lst (lineV l.reverse)) → Q (.ref a) H') ∧ (¬ Good ks.length z → E (.ref e.xNoStand) none H)
noncomputable def spGrow (c : Cl) (e : Ek) : Sp := fun vs H Q E => ∃ (b : Addr) (z : Int) (a : Addr) (us : List V) (ds : List DD) (M : List Addr) (d p r : Addr) (ks : List Int) (ps : List (Option Nat)) (rs : List (List DD)), vs = [.ref b, .int z, .ref a] ∧ Bg c e M H b d p r ks ps rs ∧ H a = some (.lst us) ∧ Paired (IsD c H) us ds ∧
  (¬ Good ks.length z → E (.ref e.xNoStand) none H) ∧ (Good ks.length z → us = [] → E (.ref e.xEmpty) none H) ∧
  (Good ks.length z → us ≠ [] → a ∉ M ∧ ks.length < 1000 ∧ ds.length ≤ 1000 ∧ ∃ (i : Nat) (k k' : Int), z = i ∧ ks[i]? = some k ∧ Chain k ds k' ∧ ∀ H', Fr M H H' → (∀ m ∈ M, m ≠ d → m ≠ p → m ≠ r → H' m = H m) → Bg c e M H' b d p r (ks ++ [k']) (ps ++ [some i]) (rs ++ [ds]) → Q (.int ks.length) H')
theorem good_at {n : Nat} {z : Int} (h : Good n z) : ∃ i : Nat, z = i ∧ i < n := ⟨z.toNat, by have := h.1; omega, by have := h.1; have := h.2; omega⟩
noncomputable def spBInit (e : Ek) : Sp := fun vs H Q _ => ∃ (x bx : Addr) (w : V) (k : Int), vs = [.ref x, w] ∧ H x = some (.ins e.bough bx []) ∧ IsDoc H w k ∧
  ∀ H' d p r q ag v, (∀ b o, b ≠ x → H b = some o → H' b = some o) → H' x = some (.ins e.bough bx [("docs", .ref d), ("parents", .ref p), ("rows", .ref r), ("given", .ref ag)]) → H' d = some (.lst [v]) → IsDoc H' v k → H' p = some (.lst [.non]) → H' r = some (.lst [.ref q]) → H' q = some (.lst []) →
    H d = none → H p = none → H r = none → H q = none → d ≠ p → d ≠ r → p ≠ r → q ≠ d → q ≠ p → q ≠ r → Q .non H'
theorem sc_law_row : FnScope ["_law_number_here", "_law_load", "_law_row_here", "_law_k", "_law_new"] ["_law_number_here", "_law_load"] (defScope s_law_row) := ⟨rfl, rfl, rfl, by decide +kernel, rfl, by decide +kernel, by decide +kernel⟩
theorem ok_law_row (F : Fn K mg "_law_row" s_law_row ["_law_number_here", "_law_load"]) (T : Txt K mg c e) (F_law_number : FnAll P w K mg base "_law_number" 1 ["_law_load"] (spNumber)) : FnAll P w K mg base "_law_row" 2 ["_law_number_here", "_law_load"] (spRow) := by
  refine F.ok (k := 1) sc_law_row (fun vs H Q E h => ?_) (fun f cdv A outer s H vs Q E hr h => ?_)
  · obtain ⟨n0, ld, rfl, k⟩ := h
    rfl
  · obtain ⟨n0, ld, rfl, k⟩ := h
    have hu := hu16 hr
    have hu1 := Nat.lt_of_le_of_lt (Nat.add_le_add_left (by decide : 1 ≤ 16) _) hu
    have nd := sc_law_row.nd
    refine ⟨_, (pss_cons (ps_set (i := 2) nd rfl (Or.inl rfl) (pe_lst pa_nil))
      (pss_cons (ps_for PassesOwn.never rfl (pi_range1 rfl T.b_range (pa_cons (pe_op op_add pe_int (pe_op op_mod (pv 1) pe_int)) pa_nil)) (pg_name (i := 3) nd rfl (Or.inl rfl)) (pss_cons (ps_set (i := 4) nd rfl (Or.inl rfl) (pe_callF F_law_number hr (pa_cons (pe_op op_add (pe_op op_fdiv (pv 1) pe_int) (pe_op op_mul pe_int (pv 3))) pa_nil)))
      (pss_cons (ps_if (pt_cmpR op_eq (pv 4) (pv 0) (nomark _)) (pss_one (ps_set (i := 4) nd rfl (Or.inl rfl) (pe_callTy call_int1' (by rfl) T.b_int PyProof.Rows.boot_int (pa_cons (pe_cmpR op_eq (pv 0) pe_int (nomark _)) pa_nil)))) pss_nil)
      (pss_cons (ps_expr (pe_bm PySem.F.plainAttrs_list PySem.F.slot_list_append PySem.F.type_list_append mt_append (pv 2) (pa_cons (pe_tup (pa_cons pe_str (pa_cons (pe_tup pa_nil) (pa_cons (pv 0) (pa_cons (pv 4) pa_nil))))) pa_nil)))
      (pss_one (ps_set (i := 0) nd rfl (Or.inl rfl) (pv 4)))))))
      (pss_one (ps_ret (pv 2))))), ?_⟩
    have est : start ["_law_number_here", "_law_load", "_law_row_here", "_law_k", "_law_new"] [.int n0, .int ld] = [some (.int n0), some (.int ld), none, none, none] := rfl
    rw [est]
    clear est
    repeat' (first | walk_at "st")
    refine ⟨by decide, fun l hl => ?_⟩
    have s01 : Same H (upd H l (.lst [])) := Same.upd hl
    have h1l : upd H l (HO.lst []) l = some (.lst []) := upd_same
    generalize upd H l (HO.lst []) = H1 at *
    repeat' (first | walk_at "st")
    refine loop_range (fun i σ' H' => SameX l H1 H' ∧ ∃ cur us ds o3 o4, H' l = some (.lst us) ∧ Paired (IsT H') us ds ∧ Chain n0 ds cur ∧ ds.length = i ∧ σ' = [some (.int cur), some (.int ld), some (.ref l), o3, o4])
      ⟨SameX.refl _ _, n0, [], [], _, _, h1l, .nil, .nil _, rfl, rfl⟩ ?_ ?_
    · rintro i _ H2 hi ⟨hs2, cur, us, ds, o3, o4, h2l, pu, hc, hdl, rfl⟩
      have hi3 : i < 3 := by omega
      have lu := Paired.length pu
      have push : ∀ (new : Int) (tv : V) (H3 : Hp) (o3 : Option V), cur ≠ new → Same H2 H3 → IsT H3 tv (.set [] cur new) → SameX l H1 (upd H3 l (.lst (us ++ [tv]))) ∧ ∃ cur' us' ds' o3' o4, upd H3 l (.lst (us ++ [tv])) l = some (.lst us') ∧ Paired (IsT (upd H3 l (.lst (us ++ [tv])))) us' ds' ∧ Chain n0 ds' cur' ∧ ds'.length = i + 1 ∧ [some (.int new), some (.int ld), some (.ref l), o3, some (.int new)] = [some (.int cur'), some (.int ld), some (.ref l), o3', o4] := by
        intro new tv H3 o3 hne h23 ht
        have hX : SameX l H3 (upd H3 l (.lst (us ++ [tv]))) := SameX.upd
        have h3l := h23 _ _ h2l
        refine ⟨(hs2.trans h23.x).trans hX, new, _, ds ++ [.set [] cur new], _, _, upd_same, ?_, hc.snoc hne, by rw [List.length_append]; simp; omega, rfl⟩
        exact Paired.app (Paired.mapP pu fun _ _ r => (r.same h23).sameX h3l hX) (.cons (ht.sameX h3l hX) .nil)
      repeat' (first | ((with_reducible refine use_number ?_); intro _) | (with_reducible refine wp_int1b ?_) | (with_reducible refine wp_bm ?_) | (with_reducible refine wp_bm0 ?_) | walk_at "st")
      · rename_i hcur
        refine ⟨tyL h2l, ?_⟩
        repeat' (first | walk_at "st")
        rename_i z H3 s3 hz tv H4 s4 htv
        refine ⟨l, us, tv, rfl, rfl, s4 _ _ (s3 _ _ h2l), (by rw [sizeLine_eq]; omega), ?_⟩
        repeat' (first | walk_at "st")
        refine push _ tv H4 _ ?_ (s3.trans s4) htv
        by_cases hz0 : cur = 0
        · rw [decide_eq_true hz0, if_pos rfl]; omega
        · rw [decide_eq_false hz0, if_neg Bool.false_ne_true]; exact hz0
      · rename_i hcur
        refine ⟨tyL h2l, ?_⟩
        repeat' (first | walk_at "st")
        rename_i z H3 s3 hz tv H4 s4 htv
        refine ⟨l, us, tv, rfl, rfl, s4 _ _ (s3 _ _ h2l), (by rw [sizeLine_eq]; omega), ?_⟩
        repeat' (first | walk_at "st")
        exact push _ tv H4 _ (fun z => hcur z.symm) (s3.trans s4) htv
    · rintro _ H2 ⟨hs2, cur, us, ds, o3, o4, h2l, pu, hc, hdl, rfl⟩
      repeat' (first | walk_at "st")
      refine k l us ds cur H2 (fun b o hb => ?_) hl h2l pu hc ?_ (by omega)
      · exact hs2 b o (ne_of_none hb hl) (s01 b o hb)
      · intro z
        rw [z] at hdl
        simp at hdl
        omega
theorem sc_law_line : FnScope ["_law_parents", "_law_stand", "_law_found"] ["_law_parents", "_law_stand"] (defScope s_law_line) := ⟨rfl, rfl, rfl, by decide +kernel, rfl, by decide +kernel, by decide +kernel⟩
theorem ok_law_line (F : Fn K mg "_law_line" s_law_line ["_law_parents", "_law_stand"]) (T : Txt K mg c e)  : FnAll P w K mg base "_law_line" 1 ["_law_parents", "_law_stand"] (spLineL) := by
  refine F.ok (k := 0) sc_law_line (fun vs H Q E h => ?_) (fun f cdv A outer s H vs Q E hr h => ?_)
  · obtain ⟨lp, i, ps, l, rfl, hp, hup, hll, k⟩ := h
    rfl
  · obtain ⟨lp, i, ps, l, rfl, hp, hup, hll, k⟩ := h
    have hu := hu16 hr
    have hu1 := Nat.lt_of_le_of_lt (Nat.add_le_add_left (by decide : 1 ≤ 16) _) hu
    have nd := sc_law_line.nd
    refine ⟨_, (pss_cons (ps_set (i := 2) nd rfl (Or.inl rfl) (pe_lst pa_nil))
      (pss_cons (PS.nox (ps_while PassesOwn.never (pt_cmpR op_notN' (pv 1) pe_non (nomark _)) (pss_cons (ps_set (i := 2) nd rfl (Or.inl rfl) (pe_op op_cat (pe_lst (pa_cons (pv 1) pa_nil)) (pv 2)))
      (pss_one (ps_set (i := 1) nd rfl (Or.inl rfl) (pe_ix ix_list (pv 0) (pv 1) (fun _ _ => rfl)))))))
      (pss_one (ps_ret (pv 2))))), ?_⟩
    have est : start ["_law_parents", "_law_stand", "_law_found"] [.ref lp, .int i] = [some (.ref lp), some (.int i), none] := rfl
    rw [est]
    clear est
    repeat' (first | walk_at "st")
    refine ⟨by decide, fun a0 ha0 => ?_⟩
    have s01 : Same H (upd H a0 (.lst [])) := Same.upd ha0
    have h1a : upd H a0 (HO.lst []) a0 = some (.lst []) := upd_same
    generalize upd H a0 (HO.lst []) = H1 at *
    repeat' (first | walk_at "st")
    refine ⟨WL ps l lp H, ⟨l.length, s01, some i, l, [], a0, rfl, hup, h1a, rfl, rfl⟩, ?_⟩
    rintro m _ H2 ⟨s2, st, l2, f, a, rfl, hu2, h2a, hf, rfl⟩
    cases hu2 with
    | nil =>
      dsimp only [optV]
      repeat' (first | (with_reducible refine wp_notNi ?_) | (with_reducible refine wp_notNn ?_) | (with_reducible refine wp_isNn ?_) | walk_at "st")
      refine k a H2 s2 ?_
      rw [List.append_nil] at hf
      rw [← hf, List.reverse_reverse]
      exact h2a
    | @cons j st2 t hj ht =>
      have hfl : f.length + t.length + 1 = l.length := by
        rw [← hf, List.length_append, List.length_reverse, List.length_cons]; omega
      dsimp only [optV]
      repeat' (first | (with_reducible refine wp_notNi ?_) | (with_reducible refine wp_notNn ?_) | (with_reducible refine wp_isNn ?_) | walk_at "st")
      refine ⟨WL ps l lp H t.length, fun _ _ h => ⟨t.length, by simp, h⟩, ?_⟩
      repeat' (first | walk_at "st")
      refine wp_lstN (by show 1 ≤ 1000; decide) fun l1 H3 s3 h3 => ?_
      repeat' (first | walk_at "st")
      refine wp_catL h3 (s3 _ _ h2a) (by rw [lineV_len]; show 1 + _ ≤ _; omega) fun l3 H4 s4 h4 _ => ?_
      have hp4 : H4 lp = some (.lst (ps.map optV)) := (s2.trans (s3.trans s4)) _ _ hp
      have hat := opts_at hj
      repeat' (first | ((with_reducible refine' wp_ixL ?ha ?hv ?_); (case ha => exact sq_of (by walk_at "ats")); (case hv => first | assumption | exact rfl)) | walk_at "st")
      exact ⟨s2.trans (s3.trans s4), st2, t, j :: f, l3, rfl, ht, h4, by rw [List.reverse_cons, List.append_assoc]; exact hf, rfl⟩
theorem scBough_many : FnScope ["self"] ["self"] (defScope sBough_many) := ⟨rfl, rfl, rfl, by decide +kernel, rfl, by decide +kernel, by decide +kernel⟩
theorem okBough_many (F : Mt K e.bough "many" "Bough.many" sBough_many ["self"]) (T : Txt K mg c e)  : MethAll P w K mg base e.bough "many" 1 ["self"] (spMany c e) := by
  refine F.ok (k := 0) (T.cfBough).cl scBough_many (fun vs H Q E h => ?_) (fun f cdv A outer s H vs Q E hr h => ?_)
  · obtain ⟨b, M, d, p, r, ks, ps, rs, rfl, B, k⟩ := h
    rfl
  · obtain ⟨b, M, d, p, r, ks, ps, rs, rfl, B, k⟩ := h
    have hu := hu16 hr
    have hu1 := Nat.lt_of_le_of_lt (Nat.add_le_add_left (by decide : 1 ≤ 16) _) hu
    have nd := scBough_many.nd
    have hcl := (T.cfBough).cl
    obtain ⟨bx, ag, hb⟩ := id B.ob
    obtain ⟨vd, hd, pd⟩ := id B.docs
    have ldv := Paired.length pd
    have hpp := B.pars
    obtain ⟨vr, hrr, prr⟩ := id B.rows
    have lrv := Paired.length prr
    have := T.n_bd
    have := T.n_bp
    have := T.n_br
    have := T.n_bg
    refine ⟨_, (pss_one (ps_ret (pe_callB call_lenQ (by rfl) T.b_len PySem.boot_len (pa_cons (pe_fld (pv 0) rfl) pa_nil)))), ?_⟩
    have est : start ["self"] [.ref b] = [some (.ref b)] := rfl
    rw [est]
    clear est
    repeat' (first | ((with_reducible refine' wp_lenL ?ha ?_); (case ha => exact sq_of (by walk_at "ats"))) | walk_at "st")
    rw [ldv]
    exact k
theorem scBough_must_have : FnScope ["self", "stand"] ["self", "stand"] (defScope sBough_must_have) := ⟨rfl, rfl, rfl, by decide +kernel, rfl, by decide +kernel, by decide +kernel⟩
theorem okBough_must_have (F : Mt K e.bough "must_have" "Bough.must_have" sBough_must_have ["self", "stand"]) (T : Txt K mg c e) (Fis_whole : FnAll P w K mg base "is_whole" 1 ["thing"] (spWhole)) : MethAllE P w K mg base e.bough "must_have" 2 ["self", "stand"] (spMust c e) := by
  refine F.okE (k := 1) (T.cfBough).cl scBough_must_have (fun vs H Q E h => ?_) (fun f cdv A outer s H vs Q E hr h => ?_)
  · obtain ⟨b, z, M, d, p, r, ks, ps, rs, rfl, B, hok, hbad⟩ := h
    rfl
  · obtain ⟨b, z, M, d, p, r, ks, ps, rs, rfl, B, hok, hbad⟩ := h
    have hu := hu16 hr
    have hu1 := Nat.lt_of_le_of_lt (Nat.add_le_add_left (by decide : 1 ≤ 16) _) hu
    have nd := scBough_must_have.nd
    have hcl := (T.cfBough).cl
    obtain ⟨bx, ag, hb⟩ := id B.ob
    obtain ⟨vd, hd, pd⟩ := id B.docs
    have ldv := Paired.length pd
    have hpp := B.pars
    obtain ⟨vr, hrr, prr⟩ := id B.rows
    have lrv := Paired.length prr
    have := T.n_bd
    have := T.n_bp
    have := T.n_br
    have := T.n_bg
    refine ⟨_, (pss_one (ps_if (PW.pt (pw_or (pt_not (pt_val (pe_callF Fis_whole hr (pa_cons (pv 1) pa_nil)))) (pw_or1 (pt_not (pt_chain op_le op_lt pe_int (pv 1) (pe_callB call_lenQ (by rfl) T.b_len PySem.boot_len (pa_cons (pe_fld (pv 0) rfl) pa_nil))))))) (pss_one (ps_raise T.xcNoStand hr T.mNoStand (pa_cons pe_str pa_nil))) pss_nil)), ?_⟩
    have est : start ["self", "stand"] [.ref b, .int z] = [some (.ref b), some (.int z)] := rfl
    rw [est]
    clear est
    repeat' (first | (with_reducible refine use_whole ?_) | ((with_reducible refine' wp_lenL ?ha ?_); (case ha => exact sq_of (by walk_at "ats"))) | (with_reducible refine wp_methE ?_) | ((with_reducible refine' use_me ?ha ?hok ?hl ?_); (case ha => walk_at "ats"); (case hok => exact rfl); (case hl => exact rfl)) | (with_reducible refine wp_raise ?_) | ((with_reducible refine' use_md ?ha ?hok ?hl ?_); (case ha => walk_at "ats"); (case hok => exact rfl); (case hl => exact rfl)) | walk_at "st")
    all_goals first
      | (refine ⟨by rw [sizeLine_eq]; show 1 ≤ _; omega, hbad ?_⟩; unfold Good; omega)
      | (refine hok ?_; unfold Good; omega)
theorem scBough_doc : FnScope ["self", "stand"] ["self", "stand"] (defScope sBough_doc) := ⟨rfl, rfl, rfl, by decide +kernel, rfl, by decide +kernel, by decide +kernel⟩
theorem okBough_doc (F : Mt K e.bough "doc" "Bough.doc" sBough_doc ["self", "stand"]) (T : Txt K mg c e) (Mb_must_have : ∀ C, C = e.bough → MethAllE P w K mg base C "must_have" 2 ["self", "stand"] (spMust c e)) : MethAllE P w K mg base e.bough "doc" 3 ["self", "stand"] (spDocM c e) := by
  refine F.okE (k := 2) (T.cfBough).cl scBough_doc (fun vs H Q E h => ?_) (fun f cdv A outer s H vs Q E hr h => ?_)
  · obtain ⟨b, z, M, d, p, r, ks, ps, rs, rfl, B, hok, hbad⟩ := h
    rfl
  · obtain ⟨b, z, M, d, p, r, ks, ps, rs, rfl, B, hok, hbad⟩ := h
    have hu := hu16 hr
    have hu1 := Nat.lt_of_le_of_lt (Nat.add_le_add_left (by decide : 1 ≤ 16) _) hu
    have nd := scBough_doc.nd
    have hcl := (T.cfBough).cl
    obtain ⟨bx, ag, hb⟩ := id B.ob
    obtain ⟨vd, hd, pd⟩ := id B.docs
    have ldv := Paired.length pd
    have hpp := B.pars
    obtain ⟨vr, hrr, prr⟩ := id B.rows
    have lrv := Paired.length prr
    have := T.n_bd
    have := T.n_bp
    have := T.n_br
    have := T.n_bg
    refine ⟨_, (pss_cons (ps_expr (pe_methE Mb_must_have hr passE (pv 0) (pa_cons (pv 1) pa_nil)))
      (pss_one (ps_ret (pe_callTy call_dictD (by rfl) T.b_dict PyProof.Rows.boot_dict (pa_cons (pe_ix ix_list (pe_fld (pv 0) rfl) (pv 1) (fun _ _ => rfl)) pa_nil))))), ?_⟩
    have est : start ["self", "stand"] [.ref b, .int z] = [some (.ref b), some (.int z)] := rfl
    rw [est]
    clear est
    repeat' (first | (with_reducible refine wp_methE ?_) | ((with_reducible refine' use_me ?ha ?hok ?hl ?_); (case ha => walk_at "ats"); (case hok => exact rfl); (case hl => exact rfl)) | (with_reducible refine wp_raise ?_) | ((with_reducible refine' use_md ?ha ?hok ?hl ?_); (case ha => walk_at "ats"); (case hok => exact rfl); (case hl => exact rfl)) | walk_at "st")
    refine ⟨b, z, M, d, p, r, ks, ps, rs, rfl, B, fun hz => ?_, fun hz => hbad hz⟩
    obtain ⟨i, rfl, hi⟩ := good_at hz
    obtain ⟨v, ev, rv⟩ := Paired.getR pd (List.getElem?_eq_getElem hi)
    have hat : atI vd (i : Int) = some v := atI_nat ev
    repeat' (first | ((with_reducible refine' wp_ixL ?ha ?hv ?_); (case ha => exact sq_of (by walk_at "ats")); (case hv => first | assumption | exact rfl)) | ((with_reducible refine' wp_copyD ?hx ?_); (case hx => (first | assumption | exact IsDoc.same (by assumption) (by assumption) | (refine IsDoc.same (by assumption) ?_; (repeat (first | assumption | refine Same.trans (by assumption) ?_)); done))); intro _ _ _ _ _) | walk_at "st")
    rename_i q H1 s1 h1 hq
    exact hok i _ rfl (List.getElem?_eq_getElem hi) _ _ s1 ⟨q, rfl, h1⟩
theorem scBough_parent : FnScope ["self", "stand"] ["self", "stand"] (defScope sBough_parent) := ⟨rfl, rfl, rfl, by decide +kernel, rfl, by decide +kernel, by decide +kernel⟩
theorem okBough_parent (F : Mt K e.bough "parent" "Bough.parent" sBough_parent ["self", "stand"]) (T : Txt K mg c e) (Mb_must_have : ∀ C, C = e.bough → MethAllE P w K mg base C "must_have" 2 ["self", "stand"] (spMust c e)) : MethAllE P w K mg base e.bough "parent" 3 ["self", "stand"] (spPar c e) := by
  refine F.okE (k := 2) (T.cfBough).cl scBough_parent (fun vs H Q E h => ?_) (fun f cdv A outer s H vs Q E hr h => ?_)
  · obtain ⟨b, z, M, d, p, r, ks, ps, rs, rfl, B, hok, hbad⟩ := h
    rfl
  · obtain ⟨b, z, M, d, p, r, ks, ps, rs, rfl, B, hok, hbad⟩ := h
    have hu := hu16 hr
    have hu1 := Nat.lt_of_le_of_lt (Nat.add_le_add_left (by decide : 1 ≤ 16) _) hu
    have nd := scBough_parent.nd
    have hcl := (T.cfBough).cl
    obtain ⟨bx, ag, hb⟩ := id B.ob
    obtain ⟨vd, hd, pd⟩ := id B.docs
    have ldv := Paired.length pd
    have hpp := B.pars
    obtain ⟨vr, hrr, prr⟩ := id B.rows
    have lrv := Paired.length prr
    have := T.n_bd
    have := T.n_bp
    have := T.n_br
    have := T.n_bg
    refine ⟨_, (pss_cons (ps_expr (pe_methE Mb_must_have hr passE (pv 0) (pa_cons (pv 1) pa_nil)))
      (pss_one (ps_ret (pe_ix ix_list (pe_fld (pv 0) rfl) (pv 1) (fun _ _ => rfl))))), ?_⟩
    have est : start ["self", "stand"] [.ref b, .int z] = [some (.ref b), some (.int z)] := rfl
    rw [est]
    clear est
    repeat' (first | (with_reducible refine wp_methE ?_) | ((with_reducible refine' use_me ?ha ?hok ?hl ?_); (case ha => walk_at "ats"); (case hok => exact rfl); (case hl => exact rfl)) | (with_reducible refine wp_raise ?_) | ((with_reducible refine' use_md ?ha ?hok ?hl ?_); (case ha => walk_at "ats"); (case hok => exact rfl); (case hl => exact rfl)) | walk_at "st")
    refine ⟨b, z, M, d, p, r, ks, ps, rs, rfl, B, fun hz => ?_, fun hz => hbad hz⟩
    obtain ⟨i, rfl, hi⟩ := good_at hz
    have hip : ps[i]? = some (ps[i]'(by rw [B.lp]; exact hi)) := List.getElem?_eq_getElem _
    have hat := opts_at hip
    repeat' (first | ((with_reducible refine' wp_ixL ?ha ?hv ?_); (case ha => exact sq_of (by walk_at "ats")); (case hv => first | assumption | exact rfl)) | walk_at "st")
    exact hok i _ rfl hip
theorem scBough_row : FnScope ["self", "stand"] ["self", "stand"] (defScope sBough_row) := ⟨rfl, rfl, rfl, by decide +kernel, rfl, by decide +kernel, by decide +kernel⟩
theorem okBough_row (F : Mt K e.bough "row" "Bough.row" sBough_row ["self", "stand"]) (T : Txt K mg c e) (Mb_must_have : ∀ C, C = e.bough → MethAllE P w K mg base C "must_have" 2 ["self", "stand"] (spMust c e)) : MethAllE P w K mg base e.bough "row" 3 ["self", "stand"] (spRowM c e) := by
  refine F.okE (k := 2) (T.cfBough).cl scBough_row (fun vs H Q E h => ?_) (fun f cdv A outer s H vs Q E hr h => ?_)
  · obtain ⟨b, z, M, d, p, r, ks, ps, rs, rfl, B, hok, hbad⟩ := h
    rfl
  · obtain ⟨b, z, M, d, p, r, ks, ps, rs, rfl, B, hok, hbad⟩ := h
    have hu := hu16 hr
    have hu1 := Nat.lt_of_le_of_lt (Nat.add_le_add_left (by decide : 1 ≤ 16) _) hu
    have nd := scBough_row.nd
    have hcl := (T.cfBough).cl
    obtain ⟨bx, ag, hb⟩ := id B.ob
    obtain ⟨vd, hd, pd⟩ := id B.docs
    have ldv := Paired.length pd
    have hpp := B.pars
    obtain ⟨vr, hrr, prr⟩ := id B.rows
    have lrv := Paired.length prr
    have := T.n_bd
    have := T.n_bp
    have := T.n_br
    have := T.n_bg
    refine ⟨_, (pss_cons (ps_expr (pe_methE Mb_must_have hr passE (pv 0) (pa_cons (pv 1) pa_nil)))
      (pss_one (ps_ret (pe_callTy call_listOf (by rfl) T.b_list PyProof.Rows.boot_list (pa_cons (pe_ix ix_list (pe_fld (pv 0) rfl) (pv 1) (fun _ _ => rfl)) pa_nil))))), ?_⟩
    have est : start ["self", "stand"] [.ref b, .int z] = [some (.ref b), some (.int z)] := rfl
    rw [est]
    clear est
    repeat' (first | (with_reducible refine wp_methE ?_) | ((with_reducible refine' use_me ?ha ?hok ?hl ?_); (case ha => walk_at "ats"); (case hok => exact rfl); (case hl => exact rfl)) | (with_reducible refine wp_raise ?_) | ((with_reducible refine' use_md ?ha ?hok ?hl ?_); (case ha => walk_at "ats"); (case hok => exact rfl); (case hl => exact rfl)) | walk_at "st")
    refine ⟨b, z, M, d, p, r, ks, ps, rs, rfl, B, fun hz => ?_, fun hz => hbad hz⟩
    obtain ⟨i, rfl, hi⟩ := good_at hz
    have hir : rs[i]? = some (rs[i]'(by rw [B.lr]; exact hi)) := List.getElem?_eq_getElem _
    obtain ⟨v, ev, a, us, rfl, hna, hau, pau⟩ := Paired.getR prr hir
    have hat : atI vr (i : Int) = some (.ref a) := atI_nat ev
    repeat' (first | ((with_reducible refine' wp_ixL ?ha ?hv ?_); (case ha => exact sq_of (by walk_at "ats")); (case hv => first | assumption | exact rfl)) | walk_at "st")
    refine wp_listOf (sq_of hau) fun q H1 s1 h1 hq => ?_
    exact hok i _ rfl hir q us H1 s1 hq h1 (Paired.mapP pau fun _ _ z => z.same s1)
theorem scBough_line : FnScope ["self", "stand", "upward", "here"] ["self", "stand"] (defScope sBough_line) := ⟨rfl, rfl, rfl, by decide +kernel, rfl, by decide +kernel, by decide +kernel⟩
theorem okBough_line (F : Mt K e.bough "line" "Bough.line" sBough_line ["self", "stand"]) (T : Txt K mg c e) (Mb_must_have : ∀ C, C = e.bough → MethAllE P w K mg base C "must_have" 2 ["self", "stand"] (spMust c e)) : MethAllE P w K mg base e.bough "line" 3 ["self", "stand"] (spLine c e) := by
  refine F.okE (k := 2) (T.cfBough).cl scBough_line (fun vs H Q E h => ?_) (fun f cdv A outer s H vs Q E hr h => ?_)
  · obtain ⟨b, z, M, d, p, r, ks, ps, rs, rfl, B, hok, hbad⟩ := h
    rfl
  · obtain ⟨b, z, M, d, p, r, ks, ps, rs, rfl, B, hok, hbad⟩ := h
    have hu := hu16 hr
    have hu1 := Nat.lt_of_le_of_lt (Nat.add_le_add_left (by decide : 1 ≤ 16) _) hu
    have nd := scBough_line.nd
    have hcl := (T.cfBough).cl
    obtain ⟨bx, ag, hb⟩ := id B.ob
    obtain ⟨vd, hd, pd⟩ := id B.docs
    have ldv := Paired.length pd
    have hpp := B.pars
    obtain ⟨vr, hrr, prr⟩ := id B.rows
    have lrv := Paired.length prr
    have := T.n_bd
    have := T.n_bp
    have := T.n_br
    have := T.n_bg
    refine ⟨_, (pss_cons (ps_expr (pe_methE Mb_must_have hr passE (pv 0) (pa_cons (pv 1) pa_nil)))
      (pss_cons (ps_set (i := 2) nd rfl (Or.inl rfl) (pe_lst pa_nil))
      (pss_cons (ps_set (i := 3) nd rfl (Or.inl rfl) (pv 1))
      (pss_cons (PS.nox (ps_while PassesOwn.never (pt_cmpR op_notN' (pv 3) pe_non (nomark _)) (pss_cons (ps_expr (pe_bm PySem.F.plainAttrs_list PySem.F.slot_list_append PySem.F.type_list_append mt_append (pv 2) (pa_cons (pv 3) pa_nil)))
      (pss_one (ps_set (i := 3) nd rfl (Or.inl rfl) (pe_ix ix_list (pe_fld (pv 0) rfl) (pv 3) (fun _ _ => rfl)))))))
      (pss_one (ps_ret (pe_listRev rfl rfl T.b_list rfl T.b_reversed (pv 2)))))))), ?_⟩
    have est : start ["self", "stand", "upward", "here"] [.ref b, .int z] = [some (.ref b), some (.int z), none, none] := rfl
    rw [est]
    clear est
    repeat' (first | (with_reducible refine wp_methE ?_) | ((with_reducible refine' use_me ?ha ?hok ?hl ?_); (case ha => walk_at "ats"); (case hok => exact rfl); (case hl => exact rfl)) | (with_reducible refine wp_raise ?_) | ((with_reducible refine' use_md ?ha ?hok ?hl ?_); (case ha => walk_at "ats"); (case hok => exact rfl); (case hl => exact rfl)) | walk_at "st")
    refine ⟨b, z, M, d, p, r, ks, ps, rs, rfl, B, fun hz => ?_, fun hz => hbad hz⟩
    obtain ⟨i, rfl, hi⟩ := good_at hz
    obtain ⟨l, hup⟩ := Up.all B.wf i (by rw [B.lp]; exact hi)
    have hll := hup.len B.wf i rfl
    have hsz := B.sz
    repeat' (first | walk_at "st")
    refine ⟨by decide, fun u hu0 => ?_⟩
    have s01 : Same H (upd H u (.lst [])) := Same.upd hu0
    have h1u : upd H u (HO.lst []) u = some (.lst []) := upd_same
    generalize upd H u (HO.lst []) = H1 at *
    have hpu : p ≠ u := ne_of_none hpp hu0
    have hbu : b ≠ u := ne_of_none hb hu0
    repeat' (first | walk_at "st")
    refine ⟨WU ps l b u (i : Int) H1, ⟨l.length, SameX.refl _ _, some i, l, [], rfl, hup, h1u, rfl, rfl⟩, ?_⟩
    rintro m _ H2 ⟨s2, st, l2, f, rfl, hu2, h2u, hf, rfl⟩
    cases hu2 with
    | nil =>
      dsimp only [optV]
      repeat' (first | (with_reducible refine wp_notNi ?_) | (with_reducible refine wp_notNn ?_) | (with_reducible refine wp_isNn ?_) | (with_reducible refine wp_listRev ?_) | walk_at "st")
      rw [List.append_nil] at hf
      subst hf
      refine ⟨u, _, rfl, sq_of h2u, fun q hq => ?_⟩
      rw [lineV_rev]
      refine hok i f rfl hi hup q _ (fun b' o hb' => ?_) ?_ upd_same
      · have h3 := s2 b' o (ne_of_none hb' hu0) (s01 _ _ hb')
        rw [upd_ne (ne_of_none h3 hq)]; exact h3
      · cases hqq : H q with
        | none => rfl
        | some o =>
          have h3 := s2 q o (ne_of_none hqq hu0) (s01 _ _ hqq)
          rw [hq] at h3; cases h3
    | @cons j st2 t hj ht =>
      have hfl : f.length + t.length + 1 = l.length := by
        rw [← hf, List.length_append, List.length_cons]; omega
      dsimp only [optV]
      repeat' (first | (with_reducible refine wp_notNi ?_) | (with_reducible refine wp_notNn ?_) | (with_reducible refine wp_isNn ?_) | walk_at "st")
      refine ⟨WU ps l b u (i : Int) H1 t.length, fun _ _ h => ⟨t.length, by simp, h⟩, ?_⟩
      repeat' (first | (with_reducible refine wp_bm ?_) | (with_reducible refine wp_bm0 ?_) | walk_at "st")
      refine ⟨tyL h2u, ?_⟩
      repeat' (first | walk_at "st")
      refine ⟨u, _, _, rfl, rfl, h2u, by rw [sizeLine_eq, lineV_len]; omega, ?_⟩
      have hX : SameX u H2 (upd H2 u (.lst (lineV f ++ [.int j]))) := SameX.upd
      have h3u : upd H2 u (.lst (lineV f ++ [.int j])) u = some (.lst (lineV (f ++ [j]))) := by rw [upd_same, lineV_app]; rfl
      generalize upd H2 u (.lst (lineV f ++ [.int j])) = H3 at *
      have hat := opts_at hj
      have hp3 : H3 p = some (.lst (ps.map optV)) := hX _ _ hpu (s2 _ _ hpu (s01 _ _ hpp))
      have hb3 := hX _ _ hbu (s2 _ _ hbu (s01 _ _ hb))
      repeat' (first | ((with_reducible refine' wp_ixL ?ha ?hv ?_); (case ha => exact sq_of (by walk_at "ats")); (case hv => first | assumption | exact rfl)) | walk_at "st")
      exact ⟨s2.trans hX, st2, t, f ++ [j], rfl, ht, h3u, by rw [List.append_assoc]; exact hf, rfl⟩
theorem scBough___init__ : FnScope ["self", "doc"] ["self", "doc"] (defScope sBough___init__) := ⟨rfl, rfl, rfl, by decide +kernel, rfl, by decide +kernel, by decide +kernel⟩
theorem okBough___init__ (F : Mt K e.bough "__init__" "Bough.__init__" sBough___init__ ["self", "doc"]) (T : Txt K mg c e)  : MethAll P w K mg base e.bough "__init__" 1 ["self", "doc"] (spBInit e) := by
  refine F.ok (k := 0) (T.cfBough).cl scBough___init__ (fun vs H Q E h => ?_) (fun f cdv A outer s H vs Q E hr h => ?_)
  · obtain ⟨x, bx, wv, k0, rfl, hx, hw, k⟩ := h
    rfl
  · obtain ⟨x, bx, wv, k0, rfl, hx, hw, k⟩ := h
    have hu := hu16 hr
    have hu1 := Nat.lt_of_le_of_lt (Nat.add_le_add_left (by decide : 1 ≤ 16) _) hu
    have nd := scBough___init__.nd
    have hcl := (T.cfBough).cl
    have := T.n_bd
    have := T.n_bp
    have := T.n_br
    have := T.n_bg
    refine ⟨_, (pss_cons (ps_fld (pv 0) (pe_lst (pa_cons (pe_callTy call_dictD (by rfl) T.b_dict PyProof.Rows.boot_dict (pa_cons (pv 1) pa_nil)) pa_nil)) rfl)
      (pss_cons (ps_fld (pv 0) (pe_lst (pa_cons pe_non pa_nil)) rfl)
      (pss_cons (ps_fld (pv 0) (pe_lst (pa_cons (pe_lst pa_nil) pa_nil)) rfl)
      (pss_one (ps_fld (pv 0) pe_dnewK rfl))))), ?_⟩
    have est : start ["self", "doc"] [.ref x, wv] = [some (.ref x), some (wv)] := rfl
    rw [est]
    clear est
    repeat' (first | ((with_reducible refine' wp_copyD ?hx ?_); (case hx => (first | assumption | exact IsDoc.same (by assumption) (by assumption) | (refine IsDoc.same (by assumption) ?_; (repeat (first | assumption | refine Same.trans (by assumption) ?_)); done))); intro _ _ _ _ _) | walk_at "st")
    rename_i q1 H1 s1 h1 hq1
    refine wp_lstF (by show 1 ≤ 1000; decide) fun d H2 s2 h2 hd1 => ?_
    have hx2 : H2 x = some (.ins e.bough bx []) := s2 _ _ (s1 _ _ hx)
    repeat' (first | walk_at "st")
    have hH3x : upd H2 x (HO.ins e.bough bx (putF "docs" (V.ref d) [])) x = some (.ins e.bough bx [("docs", .ref d)]) := by rw [upd_same]; rfl
    have kH3 : SameX x H2 (upd H2 x (HO.ins e.bough bx (putF "docs" (V.ref d) []))) := SameX.upd
    generalize upd H2 x (HO.ins e.bough bx (putF "docs" (V.ref d) [])) = H3 at *
    repeat' (first | walk_at "st")
    refine wp_lstF (by show 1 ≤ 1000; decide) fun p H4 s4 h4 hp3 => ?_
    have hx4 := s4 _ _ hH3x
    repeat' (first | walk_at "st")
    have hH5x : upd H4 x (HO.ins e.bough bx (putF "parents" (V.ref p) [("docs", .ref d)])) x = some (.ins e.bough bx [("docs", .ref d), ("parents", .ref p)]) := by rw [upd_same]; rfl
    have kH5 : SameX x H4 (upd H4 x (HO.ins e.bough bx (putF "parents" (V.ref p) [("docs", .ref d)]))) := SameX.upd
    generalize upd H4 x (HO.ins e.bough bx (putF "parents" (V.ref p) [("docs", .ref d)])) = H5 at *
    repeat' (first | walk_at "st")
    refine wp_lstF (by show 0 ≤ 1000; decide) fun q H6 s6 h6 hq5 => ?_
    repeat' (first | walk_at "st")
    refine wp_lstF (by show 1 ≤ 1000; decide) fun r H7 s7 h7 hr6 => ?_
    have hx7 := s7 _ _ (s6 _ _ hH5x)
    repeat' (first | walk_at "st")
    have hH8x : upd H7 x (HO.ins e.bough bx (putF "rows" (V.ref r) [("docs", .ref d), ("parents", .ref p)])) x = some (.ins e.bough bx [("docs", .ref d), ("parents", .ref p), ("rows", .ref r)]) := by rw [upd_same]; rfl
    have kH8 : SameX x H7 (upd H7 x (HO.ins e.bough bx (putF "rows" (V.ref r) [("docs", .ref d), ("parents", .ref p)]))) := SameX.upd
    generalize upd H7 x (HO.ins e.bough bx (putF "rows" (V.ref r) [("docs", .ref d), ("parents", .ref p)])) = H8 at *
    repeat' (first | walk_at "st")
    refine wp_dnewK fun ag H9 s9 hag => ?_
    have hx9 := s9 _ _ hH8x
    repeat' (first | walk_at "st")
    have hHax : upd H9 x (HO.ins e.bough bx (putF "given" (V.ref ag) [("docs", .ref d), ("parents", .ref p), ("rows", .ref r)])) x = some (.ins e.bough bx [("docs", .ref d), ("parents", .ref p), ("rows", .ref r), ("given", .ref ag)]) := by rw [upd_same]; rfl
    have kHa : SameX x H9 (upd H9 x (HO.ins e.bough bx (putF "given" (V.ref ag) [("docs", .ref d), ("parents", .ref p), ("rows", .ref r)]))) := SameX.upd
    generalize upd H9 x (HO.ins e.bough bx (putF "given" (V.ref ag) [("docs", .ref d), ("parents", .ref p), ("rows", .ref r)])) = Ha at *
    repeat' (first | walk_at "st")
    have dx : d ≠ x := ne_of_none (s1 _ _ hx) hd1 |>.symm
    have px : p ≠ x := ne_of_none hH3x hp3 |>.symm
    have qx : q ≠ x := ne_of_none hH5x hq5 |>.symm
    have rx : r ≠ x := ne_of_none (s6 _ _ hH5x) hr6 |>.symm
    have q1x : q1 ≠ x := ne_of_none hx hq1 |>.symm
    have x9a : SameX x H7 Ha := kH8.trans (s9.x.trans kHa)
    have x5a : SameX x H5 Ha := s6.x.trans (s7.x.trans x9a)
    have x3a : SameX x H3 Ha := s4.x.trans (kH5.trans x5a)
    have x2a : SameX x H2 Ha := kH3.trans x3a
    have x0a : SameX x H Ha := s1.x.trans (s2.x.trans x2a)
    have hd3 : H3 d = some (.lst [.ref q1]) := kH3 _ _ dx h2
    have hp5 : H5 p = some (.lst [.non]) := kH5 _ _ px h4
    have hd5 : H5 d = some (.lst [.ref q1]) := kH5 _ _ dx (s4 _ _ hd3)
    refine k Ha d p r q ag (.ref q1) (fun b o hb h => x0a b o hb h) hHax (x2a _ _ dx h2) ⟨q1, rfl, x2a _ _ q1x (s2 _ _ h1)⟩ (x5a _ _ px hp5) (x9a _ _ rx h7) (x9a _ _ qx (s7 _ _ h6))
      (none_same s1 hd1) ?_ ?_ ?_ (ne_of_none hd3 hp3) (ne_of_none (s6 _ _ hd5) hr6) (ne_of_none (s6 _ _ hp5) hr6) (ne_of_none hd5 hq5).symm (ne_of_none hp5 hq5).symm (ne_of_none h6 hr6)
    · exact none_same s1 (none_same s2 (none_sameX kH3 hp3 px))
    · exact none_same s1 (none_same s2 (none_sameX kH3 (none_same s4 (none_sameX kH5 (none_same s6 hr6) rx)) rx))
    · exact none_same s1 (none_same s2 (none_sameX kH3 (none_same s4 (none_sameX kH5 hq5 qx)) qx))
theorem scBough_grow : FnScope ["self", "stand", "row", "doc"] ["self", "stand", "row"] (defScope sBough_grow) := ⟨rfl, rfl, rfl, by decide +kernel, rfl, by decide +kernel, by decide +kernel⟩
theorem okBough_grow (F : Mt K e.bough "grow" "Bough.grow" sBough_grow ["self", "stand", "row"]) (T : Txt K mg c e) (Mb_must_have : ∀ C, C = e.bough → MethAllE P w K mg base C "must_have" 2 ["self", "stand"] (spMust c e)) (Frow_done : FnAll P w K mg base "row_done" 4 ["doc", "row"] (spRowDone c)) : MethAllE P w K mg base e.bough "grow" 5 ["self", "stand", "row"] (spGrow c e) := by
  refine F.okE (k := 4) (T.cfBough).cl scBough_grow (fun vs H Q E h => ?_) (fun f cdv A outer s H vs Q E hr h => ?_)
  · obtain ⟨b, z, a, us, ds, M, d, p, r, ks, ps, rs, rfl, B, ha, pa, hbad, hemp, hok⟩ := h
    rfl
  · obtain ⟨b, z, a, us, ds, M, d, p, r, ks, ps, rs, rfl, B, ha, pa, hbad, hemp, hok⟩ := h
    have hu := hu16 hr
    have hu1 := Nat.lt_of_le_of_lt (Nat.add_le_add_left (by decide : 1 ≤ 16) _) hu
    have nd := scBough_grow.nd
    have hcl := (T.cfBough).cl
    obtain ⟨bx, ag, hb⟩ := id B.ob
    obtain ⟨vd, hd, pd⟩ := id B.docs
    have ldv := Paired.length pd
    have hpp := B.pars
    obtain ⟨vr, hrr, prr⟩ := id B.rows
    have lrv := Paired.length prr
    have := T.n_bd
    have := T.n_bp
    have := T.n_br
    have := T.n_bg
    refine ⟨_, (pss_cons (ps_expr (pe_methE Mb_must_have hr passE (pv 0) (pa_cons (pv 1) pa_nil)))
      (pss_cons (ps_if (pt_cmpR op_eq (pe_callB call_lenQ (by rfl) T.b_len PySem.boot_len (pa_cons (pv 2) pa_nil)) pe_int (nomark _)) (pss_one (ps_raise T.xcEmpty hr T.mEmpty (pa_cons pe_str pa_nil))) pss_nil)
      (pss_cons (ps_set (i := 3) nd rfl (Or.inl rfl) (pe_callF Frow_done hr (pa_cons (pe_ix ix_list (pe_fld (pv 0) rfl) (pv 1) (fun _ _ => rfl)) (pa_cons (pv 2) pa_nil))))
      (pss_cons (ps_expr (pe_bm PySem.F.plainAttrs_list PySem.F.slot_list_append PySem.F.type_list_append mt_append (pe_fld (pv 0) rfl) (pa_cons (pv 3) pa_nil)))
      (pss_cons (ps_expr (pe_bm PySem.F.plainAttrs_list PySem.F.slot_list_append PySem.F.type_list_append mt_append (pe_fld (pv 0) rfl) (pa_cons (pv 1) pa_nil)))
      (pss_cons (ps_expr (pe_bm PySem.F.plainAttrs_list PySem.F.slot_list_append PySem.F.type_list_append mt_append (pe_fld (pv 0) rfl) (pa_cons (pe_callTy call_listOf (by rfl) T.b_list PyProof.Rows.boot_list (pa_cons (pv 2) pa_nil)) pa_nil)))
      (pss_one (ps_ret (pe_op op_sub (pe_callB call_lenQ (by rfl) T.b_len PySem.boot_len (pa_cons (pe_fld (pv 0) rfl) pa_nil)) pe_int))))))))), ?_⟩
    have est : start ["self", "stand", "row", "doc"] [.ref b, .int z, .ref a] = [some (.ref b), some (.int z), some (.ref a), none] := rfl
    rw [est]
    clear est
    repeat' (first | (with_reducible refine wp_methE ?_) | ((with_reducible refine' use_me ?ha ?hok ?hl ?_); (case ha => walk_at "ats"); (case hok => exact rfl); (case hl => exact rfl)) | (with_reducible refine wp_raise ?_) | ((with_reducible refine' use_md ?ha ?hok ?hl ?_); (case ha => walk_at "ats"); (case hok => exact rfl); (case hl => exact rfl)) | walk_at "st")
    refine ⟨b, z, M, d, p, r, ks, ps, rs, rfl, B, fun hz => ?_, fun hz => hbad hz⟩
    obtain ⟨i, rfl, hi⟩ := good_at hz
    obtain ⟨v, ev, rv⟩ := Paired.getR pd (List.getElem?_eq_getElem hi)
    have hat : atI vd (i : Int) = some v := atI_nat ev
    repeat' (first | ((with_reducible refine' wp_lenL ?ha ?_); (case ha => exact sq_of (by walk_at "ats"))) | ((with_reducible refine' wp_ixL ?ha ?hv ?_); (case ha => exact sq_of (by walk_at "ats")); (case hv => first | assumption | exact rfl)) | (with_reducible refine wp_methE ?_) | ((with_reducible refine' use_me ?ha ?hok ?hl ?_); (case ha => walk_at "ats"); (case hok => exact rfl); (case hl => exact rfl)) | (with_reducible refine wp_raise ?_) | ((with_reducible refine' use_md ?ha ?hok ?hl ?_); (case ha => walk_at "ats"); (case hok => exact rfl); (case hl => exact rfl)) | walk_at "st")
    · rename_i h0
      exact ⟨by rw [sizeLine_eq]; show 1 ≤ _; omega, hemp hz (List.length_eq_zero_iff.mp (by omega))⟩
    · rename_i h0
      obtain ⟨hna, hkl, hdl, i', k, k', ei, hk, hch, hq⟩ := hok hz (fun q => h0 (by rw [q]; rfl))
      have ei' : i' = i := by omega
      subst ei'
      have ek : k = ks[i'] := by
        rw [List.getElem?_eq_getElem hi] at hk
        exact (Option.some.inj hk).symm
      subst ek
      refine ⟨v, a, us, ds, _, k', rfl, rv, ha, pa, hch, fun w1 H1 s1 hw => ?_⟩
      have al1 := B.al.same s1
      repeat' (first | (with_reducible refine wp_bm ?_) | (with_reducible refine wp_bm0 ?_) | walk_at "st")
      refine ⟨tyL (s1 _ _ hd), ?_⟩
      repeat' (first | walk_at "st")
      refine ⟨d, vd, w1, rfl, rfl, s1 _ _ hd, (by rw [sizeLine_eq]; omega), ?_⟩
      have f2 : Fr M H1 (upd H1 d (.lst (vd ++ [w1]))) := Fr.upd B.md
      have n2 : ∀ m, m ≠ d → upd H1 d (.lst (vd ++ [w1])) m = H1 m := fun m hm => upd_ne hm
      have h2d : upd H1 d (HO.lst (vd ++ [w1])) d = some (.lst (vd ++ [w1])) := upd_same
      have al2 : AllL M (upd H1 d (.lst (vd ++ [w1]))) := al1.upd
      generalize upd H1 d (.lst (vd ++ [w1])) = H2 at *
      have hb2 := f2.keep al1 (s1 _ _ hb) fun _ z => nomatch z
      have h2p : H2 p = some (.lst (ps.map optV)) := by rw [n2 p B.dp.symm]; exact s1 _ _ hpp
      have lpv : (ps.map optV).length = ks.length := by rw [List.length_map, B.lp]
      repeat' (first | (with_reducible refine wp_bm ?_) | (with_reducible refine wp_bm0 ?_) | walk_at "st")
      refine ⟨tyL h2p, ?_⟩
      repeat' (first | walk_at "st")
      refine ⟨p, _, _, rfl, rfl, h2p, (by rw [sizeLine_eq]; omega), ?_⟩
      have f3 : Fr M H2 (upd H2 p (.lst (ps.map optV ++ [.int i']))) := Fr.upd B.mp
      have n3 : ∀ m, m ≠ p → upd H2 p (.lst (ps.map optV ++ [.int i'])) m = H2 m := fun m hm => upd_ne hm
      have h3p : upd H2 p (HO.lst (ps.map optV ++ [.int i'])) p = some (.lst (ps.map optV ++ [.int i'])) := upd_same
      have al3 : AllL M (upd H2 p (.lst (ps.map optV ++ [.int i']))) := al2.upd
      generalize upd H2 p (.lst (ps.map optV ++ [.int i'])) = H3 at *
      have hb3 := f3.keep al2 hb2 fun _ z => nomatch z
      have h3r : H3 r = some (.lst vr) := by rw [n3 r B.pr.symm, n2 r B.dr.symm]; exact s1 _ _ hrr
      have h3a : H3 a = some (.lst us) := f3 _ _ hna (f2 _ _ hna (s1 _ _ ha))
      repeat' (first | (with_reducible refine wp_bm ?_) | (with_reducible refine wp_bm0 ?_) | walk_at "st")
      refine ⟨tyL h3r, ?_⟩
      repeat' (first | walk_at "st")
      refine wp_listOf (sq_of h3a) fun q H4 s4 h4 hq3 => ?_
      repeat' (first | walk_at "st")
      have h4r := s4 _ _ h3r
      have hlr := B.lr
      refine ⟨r, _, _, rfl, rfl, h4r, (by rw [sizeLine_eq]; omega), ?_⟩
      have al4 := al3.same s4
      have f5 : Fr M H4 (upd H4 r (.lst (vr ++ [.ref q]))) := Fr.upd B.mr
      have n5 : ∀ m, m ≠ r → upd H4 r (.lst (vr ++ [.ref q])) m = H4 m := fun m hm => upd_ne hm
      have h5r : upd H4 r (HO.lst (vr ++ [.ref q])) r = some (.lst (vr ++ [.ref q])) := upd_same
      have al5 : AllL M (upd H4 r (.lst (vr ++ [.ref q]))) := al4.upd
      generalize upd H4 r (.lst (vr ++ [.ref q])) = H5 at *
      have F15 : Fr M H1 H5 := f2.trans (f3.trans (s4.fr.trans f5))
      have F05 : Fr M H H5 := s1.fr.trans F15
      have hqM : q ∉ M := al3.fresh hq3
      have h5q : H5 q = some (.lst us) := f5 _ _ hqM h4
      have h5d : H5 d = some (.lst (vd ++ [w1])) := by
        rw [n5 d B.dr]
        exact s4 _ _ (by rw [n3 d B.dp]; exact h2d)
      have h5p : H5 p = some (.lst (ps.map optV ++ [.int i'])) := by
        rw [n5 p B.pr]
        exact s4 _ _ h3p
      have hb5 := F05.keep B.al hb fun _ z => nomatch z
      repeat' (first | ((with_reducible refine' wp_lenL ?ha ?_); (case ha => exact sq_of (by walk_at "ats"))) | walk_at "st")
      have e1 : (((vd ++ [w1]).length : Nat) : Int) - 1 = (ks.length : Int) := by rw [List.length_append, ldv, List.length_singleton]; omega
      show Q (.int ((((vd ++ [w1]).length : Nat) : Int) - 1)) H5
      rw [e1]
      refine hq H5 F05 (fun m hm h1 h2 h3 => ?_) ?_
      · obtain ⟨xs, hxs⟩ := B.al m hm
        rw [hxs, n5 m h3]
        exact s4 _ _ (by rw [n3 m h2, n2 m h1]; exact s1 _ _ hxs)
      · refine ⟨⟨bx, ag, hb5⟩, al5, B.dp, B.dr, B.pr, B.md, B.mp, B.mr, ⟨_, h5d, ?_⟩, ?_, ⟨_, h5r, ?_⟩, ?_, ?_, ?_, ?_⟩
        · exact Paired.app (Paired.mapP pd fun _ _ z => z.fr B.al F05) (.cons (hw.fr al1 F15) .nil)
        · rw [h5p, List.map_append]; rfl
        · exact Paired.app (Paired.mapP prr fun _ _ z => z.fr B.al F05) (.cons ⟨q, us, rfl, hqM, h5q, Paired.mapP pa fun _ _ z => z.fr B.al F05⟩ .nil)
        · rw [List.length_append, List.length_append, B.lp]; rfl
        · rw [List.length_append, List.length_append, B.lr]; rfl
        · intro j m hj
          by_cases hjl : j < ps.length
          · rw [List.getElem?_append_left hjl] at hj
            exact B.wf j m hj
          · have hj2 := (List.getElem?_eq_some_iff.mp hj).1
            rw [List.length_append, List.length_singleton] at hj2
            have ej : j = ps.length := by omega
            rw [ej, List.getElem?_append_right (Nat.le_refl _), Nat.sub_self] at hj
            have em : i' = m := by simpa using hj
            rw [← em, ej, B.lp]; exact hi
        · rw [List.length_append, List.length_singleton]; omega

noncomputable def spAsked (c : Cl) (e : Ek) : Sp := fun vs H Q _ => ∃ (b : Addr) (door z : Int) (a : Addr) (us : List V) (ds : List DD) (M : List Addr) (d p r : Addr) (ks : List Int) (ps : List (Option Nat)) (rs : List (List DD)) (j : Int), vs = [.ref b, .int door, .int z, .ref a] ∧ Bg c e M H b d p r ks ps rs ∧ H a = some (.lst us) ∧ Paired (IsD c H) us ds ∧
  ((¬ Good ks.length z ∧ j = 5) ∨ (door = 0 ∧ Good ks.length z ∧ us = [] ∧ j = 1)) ∧ ∀ H', Same H H' → Q (.int j) H'
noncomputable def spRef (c : Cl) (e : Ek) : Sp := fun vs H Q _ => ∃ (b : Addr) (ld : Int) (a : Addr) (us : List V) (ds : List DD) (M : List Addr) (d p r : Addr) (ks : List Int) (ps : List (Option Nat)) (rs : List (List DD)), vs = [.ref b, .int ld, .int ks.length, .ref a] ∧ Bg c e M H b d p r ks ps rs ∧ 0 < ks.length ∧ H a = some (.lst us) ∧ Paired (IsD c H) us ds ∧ ∀ H', Same H H' → Q (.bl true) H'
theorem sc_law_asked : FnScope ["_law_bough", "_law_door", "_law_stand", "_law_row_here", "_law_kind_here", "_law_e"] ["_law_bough", "_law_door", "_law_stand", "_law_row_here"] (defScope s_law_asked) := ⟨rfl, rfl, rfl, by decide +kernel, rfl, by decide +kernel, by decide +kernel⟩
theorem ok_law_asked (F : Fn K mg "_law_asked" s_law_asked ["_law_bough", "_law_door", "_law_stand", "_law_row_here"]) (T : Txt K mg c e) (Mb_grow : ∀ C, C = e.bough → MethAllE P w K mg base C "grow" 5 ["self", "stand", "row"] (spGrow c e)) (Mb_doc : ∀ C, C = e.bough → MethAllE P w K mg base C "doc" 3 ["self", "stand"] (spDocM c e)) (Mb_parent : ∀ C, C = e.bough → MethAllE P w K mg base C "parent" 3 ["self", "stand"] (spPar c e)) (Mb_row : ∀ C, C = e.bough → MethAllE P w K mg base C "row" 3 ["self", "stand"] (spRowM c e)) (Mb_line : ∀ C, C = e.bough → MethAllE P w K mg base C "line" 3 ["self", "stand"] (spLine c e)) (F_law_kind : FnAllH P w K mg base "_law_kind" 1 ["_law_e"] (spKind e)) : FnAll P w K mg base "_law_asked" 6 ["_law_bough", "_law_door", "_law_stand", "_law_row_here"] (spAsked c e) := by
  refine F.ok (k := 5) sc_law_asked (fun vs H Q E h => ?_) (fun f cdv A outer s H vs Q E hr h => ?_)
  · obtain ⟨b, door, z, a, us, ds, M, d, p, r, ks, ps, rs, j, rfl, B, ha, pa, hj, k⟩ := h
    rfl
  · obtain ⟨b, door, z, a, us, ds, M, d, p, r, ks, ps, rs, j, rfl, B, ha, pa, hj, k⟩ := h
    have hu := hu16 hr
    have hu1 := Nat.lt_of_le_of_lt (Nat.add_le_add_left (by decide : 1 ≤ 16) _) hu
    have nd := sc_law_asked.nd
    have hrh : ∀ q : Addr, RoomH 5 ((A.deeper (envOfC "_law_asked" (defScope s_law_asked) s.heap.objs.size f cdv)).mark (some (.ref q))) := fun q => hr.hand
    obtain ⟨bx, ag, hb⟩ := id B.ob
    refine ⟨_, (pss_cons (ps_set (i := 4) nd rfl (Or.inl rfl) (pe_un un_neg pe_int))
      (pss_cons (ps_try (i := 5) T.mBoughError nd rfl rfl (fun _ _ _ hx => (pss_one (ps_if (pt_cmpR op_eq (pv 1) pe_int (nomark _)) (pss_one (ps_expr (pe_methE Mb_grow hr hx (pv 0) (pa_cons (pv 2) (pa_cons (pv 3) pa_nil))))) (pss_one (ps_if (pt_cmpR op_eq (pv 1) pe_int (nomark _)) (pss_one (ps_expr (pe_methE Mb_doc hr hx (pv 0) (pa_cons (pv 2) pa_nil)))) (pss_one (ps_if (pt_cmpR op_eq (pv 1) pe_int (nomark _)) (pss_one (ps_expr (pe_methE Mb_parent hr hx (pv 0) (pa_cons (pv 2) pa_nil)))) (pss_one (ps_if (pt_cmpR op_eq (pv 1) pe_int (nomark _)) (pss_one (ps_expr (pe_methE Mb_row hr hx (pv 0) (pa_cons (pv 2) pa_nil)))) (pss_one (ps_expr (pe_methE Mb_line hr hx (pv 0) (pa_cons (pv 2) pa_nil))))))))))))) (fun q => (pss_one (ps_set (i := 4) nd rfl (Or.inl rfl) (pe_callH F_law_kind (hrh q) (pa_cons (pv 5) pa_nil))))))
      (pss_one (ps_ret (pv 4))))), ?_⟩
    have est : start ["_law_bough", "_law_door", "_law_stand", "_law_row_here", "_law_kind_here", "_law_e"] [.ref b, .int door, .int z, .ref a] = [some (.ref b), some (.int door), some (.int z), some (.ref a), none, none] := rfl
    rw [est]
    clear est
    repeat' (first | walk_at "st")
    refine wp_try' fun HE hE => ?_
    have hN : ∀ (C : Addr), PySem.W.exmOne K (.ref C) (.ref e.xBoughError) = some true → ((C = e.xNoStand ∧ j = 5) ∨ (C = e.xEmpty ∧ j = 1)) → HE (.ref C) none H := by
      intro C hex hC
      rw [hE]
      refine ⟨C, rfl, hex, fun q hq => ?_⟩
      have s1 : Same H (upd H q (excHO q C)) := Same.upd hq
      have h1 : upd H q (excHO q C) q = some (excHO q C) := upd_same
      generalize upd H q (excHO q C) = H1 at *
      repeat' (first | walk_at "st")
      refine ⟨q, C, j, rfl, h1, hC, fun H2 s2 => ?_⟩
      repeat' (first | walk_at "st")
      exact wp_ret (te := tVar 4) (D := { nx := fun _ H' => Q .non H', rt := Q }) (wp_var (v := .int j) rfl (k _ (s1.trans s2)))
    clear hE
    rcases hj with ⟨hbz, rfl⟩ | ⟨rfl, hgz, hus, rfl⟩
    · have hN1 := hN e.xNoStand T.exNoStand (.inl ⟨rfl, rfl⟩)
      repeat' (first | (with_reducible refine wp_methE ?_) | ((with_reducible refine' use_me ?ha ?hok ?hl ?_); (case ha => walk_at "ats"); (case hok => exact rfl); (case hl => exact rfl)) | (with_reducible refine wp_raise ?_) | ((with_reducible refine' use_md ?ha ?hok ?hl ?_); (case ha => walk_at "ats"); (case hok => exact rfl); (case hl => exact rfl)) | walk_at "st")
      all_goals first
        | exact ⟨b, z, a, us, ds, M, d, p, r, ks, ps, rs, rfl, B, ha, pa, fun _ => hN1, fun h => absurd h hbz, fun h => absurd h hbz⟩
        | exact ⟨b, z, M, d, p, r, ks, ps, rs, rfl, B, fun i k e1 e2 => absurd (⟨by omega, by have := (List.getElem?_eq_some_iff.mp e2).1; omega⟩ : Good ks.length z) hbz, fun _ => hN1⟩
        | exact ⟨b, z, M, d, p, r, ks, ps, rs, rfl, B, fun i k e1 e2 => absurd (⟨by omega, by have := (List.getElem?_eq_some_iff.mp e2).1; have := B.lp; omega⟩ : Good ks.length z) hbz, fun _ => hN1⟩
        | exact ⟨b, z, M, d, p, r, ks, ps, rs, rfl, B, fun i k e1 e2 => absurd (⟨by omega, by have := (List.getElem?_eq_some_iff.mp e2).1; have := B.lr; omega⟩ : Good ks.length z) hbz, fun _ => hN1⟩
        | exact ⟨b, z, M, d, p, r, ks, ps, rs, rfl, B, fun i k e1 e2 => absurd (⟨by omega, by omega⟩ : Good ks.length z) hbz, fun _ => hN1⟩
    · have hN1 := hN e.xEmpty T.exEmpty (.inr ⟨rfl, rfl⟩)
      repeat' (first | (with_reducible refine wp_methE ?_) | ((with_reducible refine' use_me ?ha ?hok ?hl ?_); (case ha => walk_at "ats"); (case hok => exact rfl); (case hl => exact rfl)) | (with_reducible refine wp_raise ?_) | ((with_reducible refine' use_md ?ha ?hok ?hl ?_); (case ha => walk_at "ats"); (case hok => exact rfl); (case hl => exact rfl)) | walk_at "st")
      exact ⟨b, z, a, us, ds, M, d, p, r, ks, ps, rs, rfl, B, ha, pa, fun h => absurd hgz h, fun _ _ => hN1, fun _ h => absurd hus h⟩
theorem sc_law_refused : FnScope ["_law_bough", "_law_load", "_law_many", "_law_row_here", "_law_far", "_law_stand", "_law_some"] ["_law_bough", "_law_load", "_law_many", "_law_row_here"] (defScope s_law_refused) := ⟨rfl, rfl, rfl, by decide +kernel, rfl, by decide +kernel, by decide +kernel⟩
theorem ok_law_refused (F : Fn K mg "_law_refused" s_law_refused ["_law_bough", "_law_load", "_law_many", "_law_row_here"]) (T : Txt K mg c e) (F_law_asked : FnAll P w K mg base "_law_asked" 6 ["_law_bough", "_law_door", "_law_stand", "_law_row_here"] (spAsked c e)) : FnAll P w K mg base "_law_refused" 7 ["_law_bough", "_law_load", "_law_many", "_law_row_here"] (spRef c e) := by
  refine F.ok (k := 6) sc_law_refused (fun vs H Q E h => ?_) (fun f cdv A outer s H vs Q E hr h => ?_)
  · obtain ⟨b, ld, a, us, ds, M, d, p, r, ks, ps, rs, rfl, B, hn, ha, pa, k⟩ := h
    rfl
  · obtain ⟨b, ld, a, us, ds, M, d, p, r, ks, ps, rs, rfl, B, hn, ha, pa, k⟩ := h
    have hu := hu16 hr
    have hu1 := Nat.lt_of_le_of_lt (Nat.add_le_add_left (by decide : 1 ≤ 16) _) hu
    have nd := sc_law_refused.nd
    refine ⟨_, (pss_cons (ps_if (pt_cmpR op_eq (pe_op op_mod (pv 1) pe_int) pe_int (nomark _)) (pss_one (ps_ret (pe_cmpR op_eq (pe_callF F_law_asked hr (pa_cons (pv 0) (pa_cons pe_int (pa_cons (pe_op op_mod (pe_op op_fdiv (pv 1) pe_int) (pv 2)) (pa_cons (pe_lst pa_nil) pa_nil))))) pe_int (nomark _)))) pss_nil)
      (pss_cons (ps_set (i := 4) nd rfl (Or.inl rfl) (pe_op op_mod (pe_op op_fdiv (pv 1) pe_int) (pe_op op_pow pe_int pe_int)))
      (pss_cons (ps_set (i := 5) nd rfl (Or.inl rfl) (pe_ix ix_list (pe_lst (pa_cons (pe_op op_sub (pe_un un_neg pe_int) (pv 4)) (pa_cons (pe_op op_add (pv 2) (pv 4)) (pa_cons (pe_op op_sub (pe_un un_neg pe_int) (pe_op op_mod (pv 4) (pv 2))) (pa_cons (pv 2) pa_nil))))) (pe_op op_mod (pe_op op_fdiv (pv 1) pe_int) pe_int) (fun _ _ => rfl)))
      (pss_cons (ps_set (i := 6) nd rfl (Or.inl rfl) (pv 3))
      (pss_cons (ps_if (pt_cmpR op_eq (pe_op op_mod (pv 1) pe_int) pe_int (nomark _)) (pss_one (ps_set (i := 6) nd rfl (Or.inl rfl) (pe_lst pa_nil))) pss_nil)
      (pss_one (ps_ret (pe_cmpR op_eq (pe_callF F_law_asked hr (pa_cons (pv 0) (pa_cons (pe_op op_mod (pe_op op_fdiv (pv 1) pe_int) pe_int) (pa_cons (pv 5) (pa_cons (pv 6) pa_nil))))) pe_int (nomark _))))))))), ?_⟩
    have est : start ["_law_bough", "_law_load", "_law_many", "_law_row_here", "_law_far", "_law_stand", "_law_some"] [.ref b, .int ld, .int ks.length, .ref a] = [some (.ref b), some (.int ld), some (.int ks.length), some (.ref a), none, none, none] := rfl
    rw [est]
    clear est
    have hn' : (0 : Int) < (ks.length : Int) := by omega
    repeat' (first | walk_at "st")
    · refine wp_lstF (by show 0 ≤ 1000; decide) fun q H1 s1 h1 _ => ?_
      repeat' (first | walk_at "st")
      refine ⟨b, 0, _, q, [], [], M, d, p, r, ks, ps, rs, 1, rfl, B.same s1, h1, .nil, .inr ⟨rfl, ⟨Int.emod_nonneg _ (by omega), Int.emod_lt_of_pos _ hn'⟩, rfl, rfl⟩, fun H2 s2 => ?_⟩
      repeat' (first | walk_at "st")
      exact k _ (s1.trans s2)
    · have hfar : 0 ≤ ld / 40 % 10 ^ (59 : Int).toNat := Int.emod_nonneg _ (by decide)
      generalize ld / 40 % 10 ^ (59 : Int).toNat = far at *
      refine wp_lstF (by show 4 ≤ 1000; decide) fun q H1 s1 h1 _ => ?_
      have hm4 : 0 ≤ ld / 4 % 4 ∧ ld / 4 % 4 < 4 := by omega
      have hfm : 0 ≤ far % (ks.length : Int) := Int.emod_nonneg _ (by omega)
      repeat' (first | walk_at "st")
      refine wp_ixAny (sq_of h1) hm4.1 hm4.2 fun v hv => ?_
      obtain ⟨z, rfl, hz⟩ : ∃ z : Int, v = .int z ∧ ¬ Good ks.length z := by
        simp only [List.mem_cons, List.not_mem_nil, or_false] at hv
        rcases hv with rfl | rfl | rfl | rfl
        · exact ⟨_, rfl, fun h => by have := h.1; omega⟩
        · exact ⟨_, rfl, fun h => by have := h.2; omega⟩
        · exact ⟨_, rfl, fun h => by have := h.1; omega⟩
        · exact ⟨_, rfl, fun h => by have := h.2; omega⟩
      repeat' (first | walk_at "st")
      · refine wp_lstF (by show 0 ≤ 1000; decide) fun q2 H2 s2 h2 _ => ?_
        have s02 : Same H H2 := s1.trans s2
        repeat' (first | walk_at "st")
        refine ⟨b, _, z, q2, [], [], M, d, p, r, ks, ps, rs, 5, rfl, B.same s02, h2, .nil, .inl ⟨hz, rfl⟩, fun H3 s3 => ?_⟩
        repeat' (first | walk_at "st")
        exact k _ (s02.trans s3)
      · refine ⟨b, _, z, a, us, ds, M, d, p, r, ks, ps, rs, 5, rfl, B.same s1, s1 _ _ ha, Paired.mapP pa fun _ _ r => r.same s1, .inl ⟨hz, rfl⟩, fun H3 s3 => ?_⟩
        repeat' (first | walk_at "st")
        exact k _ (s1.trans s3)

structure Lk (ks : List Int) (ps : List (Option Nat)) (rs : List (List DD)) : Prop where
  p0 : ps[0]? = some none
  pj : ∀ j : Nat, 0 < j → j < ks.length → ∃ m : Nat, ps[j]? = some (some m)
  last : ∀ (j : Nat) ds k, 0 < j → rs[j]? = some ds → ks[j]? = some k → ∃ o, ds.getLast? = some (.set [] o k)
  short : ∀ ds ∈ rs, ds.length ≤ 1000
  sets : ∀ ds ∈ rs, ∀ d ∈ ds, ∃ o n, d = .set [] o n
noncomputable def spLook (c : Cl) (e : Ek) : Sp := fun vs H Q _ => ∃ (b lp lr : Addr) (i : Nat) (M : List Addr) (d p r : Addr) (ks : List Int) (ps : List (Option Nat)) (rs : List (List DD)) (vt : List V), vs = [.ref b, .ref lp, .ref lr, .int i] ∧ Bg c e M H b d p r ks ps rs ∧ Lk ks ps rs ∧ H lp = some (.lst (ps.map optV)) ∧ H lr = some (.lst vt) ∧ Paired (RowU M H) vt rs ∧ i < ks.length ∧ ∀ H', Same H H' → Q (.bl true) H'
noncomputable def isNat (v : V) (n : Nat) : Prop := v = .int n
theorem nat_paired : ∀ l : List Nat, Paired isNat (lineV l) l
  | [] => .nil
  | n :: l => .cons rfl (nat_paired l)
theorem natEq {X : Cx} {H : Hp} : ∀ x y i j, isNat x i → isNat y j → EqV X 12 H x y (decide (i = j)) := by
  intro x y i j hx hy
  cases hx
  cases hy
  have z := EqV.flat (X := X) (k := 12) (H := H) (x := .int i) (y := .int j) rfl rfl
  have e : eqV (.int (i : Int)) (.int (j : Int)) = decide (i = j) := by
    show ((i : Int) == (j : Int)) = _
    by_cases h : i = j
    · subst h; simp
    · rw [decide_eq_false h]
      exact beq_eq_false_iff_ne.mpr (by omega)
  rw [← e]; exact z
theorem last_T {vs : List V} {ds : List DD} {H : Hp} {t : DD} (p : Paired (IsT H) vs ds) (h : ds.getLast? = some t) : ∃ v, atI vs (-1) = some v ∧ IsT H v t := by
  have hl := Paired.length p
  have hne : 0 < ds.length := by
    cases ds with
    | nil => cases h
    | cons => simp
  obtain ⟨v, ev, rv⟩ := Paired.getR p (List.getElem?_eq_getElem (show ds.length - 1 < ds.length by omega))
  have et : ds[ds.length - 1] = t := by
    rw [List.getLast?_eq_getElem?, List.getElem?_eq_getElem (show ds.length - 1 < ds.length by omega)] at h
    exact Option.some.inj h
  refine ⟨v, ?_, by rw [← et]; exact rv⟩
  unfold atI ixN
  rw [if_neg (by decide), if_pos (by omega)]
  have e : ((-1 : Int) + (vs.length : Int)).toNat = ds.length - 1 := by omega
  rw [e]
  exact ev
theorem take_snoc {ds : List DD} {i : Nat} {d : DD} (h : ds[i]? = some d) : ds.take (i + 1) = ds.take i ++ [d] := by rw [List.take_add_one, h]; rfl
theorem line_at {l : List Nat} {i : Nat} {x : V} (h : (lineV l)[i]? = some x) : ∃ n : Nat, x = .int n := by
  unfold lineV at h
  rw [List.getElem?_map] at h
  obtain ⟨n, _, rfl⟩ := Option.map_eq_some_iff.mp h
  exact ⟨n, rfl⟩
theorem sc_law_look : FnScope ["_law_bough", "_law_parents", "_law_rows", "_law_stand", "_law_line_here", "_law_row_here"] ["_law_bough", "_law_parents", "_law_rows", "_law_stand"] (defScope s_law_look) := ⟨rfl, rfl, rfl, by decide +kernel, rfl, by decide +kernel, by decide +kernel⟩
theorem ok_law_look (F : Fn K mg "_law_look" s_law_look ["_law_bough", "_law_parents", "_law_rows", "_law_stand"]) (T : Txt K mg c e) (Mb_line : ∀ C, C = e.bough → MethAllE P w K mg base C "line" 3 ["self", "stand"] (spLine c e)) (Mb_row : ∀ C, C = e.bough → MethAllE P w K mg base C "row" 3 ["self", "stand"] (spRowM c e)) (Mb_parent : ∀ C, C = e.bough → MethAllE P w K mg base C "parent" 3 ["self", "stand"] (spPar c e)) (Mb_doc : ∀ C, C = e.bough → MethAllE P w K mg base C "doc" 3 ["self", "stand"] (spDocM c e)) (Mb_many : ∀ C, C = e.bough → MethAll P w K mg base C "many" 1 ["self"] (spMany c e)) (Md_told : ∀ C, C = c.set → MethAll P w K mg base C "told" 1 ["self"] (spTold1 c)) (F_law_line : FnAll P w K mg base "_law_line" 1 ["_law_parents", "_law_stand"] (spLineL)) (F_law_is : FnAll P w K mg base "_law_is" 1 ["_law_found", "_law_due"] (spIs)) : FnAll P w K mg base "_law_look" 4 ["_law_bough", "_law_parents", "_law_rows", "_law_stand"] (spLook c e) := by
  refine F.ok (k := 3) sc_law_look (fun vs H Q E h => ?_) (fun f cdv A outer s H vs Q E hr h => ?_)
  · obtain ⟨b, lp, lr, i, M, d, p, r, ks, ps, rs, vt, rfl, B, L, hlp, hlr, pt, hi, k⟩ := h
    rfl
  · obtain ⟨b, lp, lr, i, M, d, p, r, ks, ps, rs, vt, rfl, B, L, hlp, hlr, pt, hi, k⟩ := h
    have hu := hu16 hr
    have hu1 := Nat.lt_of_le_of_lt (Nat.add_le_add_left (by decide : 1 ≤ 16) _) hu
    have nd := sc_law_look.nd
    refine ⟨_, (pss_cons (ps_set (i := 4) nd rfl (Or.inl rfl) (pe_methE Mb_line hr passN (pv 0) (pa_cons (pv 3) pa_nil)))
      (pss_cons (ps_if (PW.pt (pw_or (pt_not (pt_val (pe_callB call_isinst (by rfl) T.b_isinstance boot_isinstance (pa_cons (pv 4) (pa_cons (pe_bltn (v := .ty "list") rfl T.b_list PyProof.Rows.boot_list rfl) pa_nil))))) (pw_or1 (pt_cmpR (op_neG hu) (pv 4) (pe_callF F_law_line hr (pa_cons (pv 1) (pa_cons (pv 3) pa_nil))) (nomark _))))) (pss_one (ps_ret pe_bl)) pss_nil)
      (pss_cons (ps_if (PW.pt (pw_or (pt_cmpR (op_neG hu) (pe_comp (compScope0 rfl (by decide) (by decide +kernel) rfl) rfl (pi_list (pv 4)) (fun _ _ _ _ => (pif_one (pt_not (pt_val (pe_callF F_law_is hr (pa_cons (pv 0) (pa_cons (pv 0) pa_nil))))))) (fun _ _ _ _ => (pv 0))) (pe_lst pa_nil) (nomark _)) (pw_or1 (pt_not (pt_val (pe_callF F_law_is hr (pa_cons (pe_methD0 Mb_many hr (pv 0)) (pa_cons (pe_callB call_lenQ (by rfl) T.b_len PySem.boot_len (pa_cons (pv 1) pa_nil)) pa_nil)))))))) (pss_one (ps_ret pe_bl)) pss_nil)
      (pss_cons (ps_expr (pe_bm0 PySem.F.plainAttrs_list PySem.F.slot_list_reverse PySem.F.type_list_reverse mt_reverse (pv 4)))
      (pss_cons (ps_expr (pe_bm PySem.F.plainAttrs_list PySem.F.slot_list_append PySem.F.type_list_append mt_append (pv 4) (pa_cons (pe_un un_neg pe_int) pa_nil)))
      (pss_cons (ps_if (pt_cmpR (op_neG hu) (pe_methE Mb_line hr passN (pv 0) (pa_cons (pv 3) pa_nil)) (pe_callF F_law_line hr (pa_cons (pv 1) (pa_cons (pv 3) pa_nil))) (nomark _)) (pss_one (ps_ret pe_bl)) pss_nil)
      (pss_cons (ps_set (i := 5) nd rfl (Or.inl rfl) (pe_methE Mb_row hr passN (pv 0) (pa_cons (pv 3) pa_nil)))
      (pss_cons (ps_if (PW.pt (pw_or (pt_not (pt_val (pe_callB call_isinst (by rfl) T.b_isinstance boot_isinstance (pa_cons (pv 5) (pa_cons (pe_bltn (v := .ty "list") rfl T.b_list PyProof.Rows.boot_list rfl) pa_nil))))) (pw_or1 (pt_cmpR (op_neG hu) (pe_comp (compScope0 rfl (by decide) (by decide +kernel) rfl) rfl (pi_list (pv 5)) (fun _ _ _ _ => pif_nil) (fun _ _ _ _ => (pe_methD0 Md_told hr (pv 0)))) (pe_ix ix_list (pv 2) (pv 3) (fun _ _ => rfl)) (nomark _))))) (pss_one (ps_ret pe_bl)) pss_nil)
      (pss_cons (ps_if (pt_cmpR op_eq (pv 3) pe_int (nomark _)) (pss_one (ps_ret (pe_cmpR op_isN' (pe_methE Mb_parent hr passN (pv 0) (pa_cons pe_int pa_nil)) pe_non (nomark _)))) pss_nil)
      (pss_one (ps_ret (pe_and (pe_callF F_law_is hr (pa_cons (pe_methE Mb_parent hr passN (pv 0) (pa_cons (pv 3) pa_nil)) (pa_cons (pe_ix ix_list (pv 1) (pv 3) (fun _ _ => rfl)) pa_nil))) (pe_one (pe_cmpR (op_eqDoc hu) (pe_methE Mb_doc hr passN (pv 0) (pa_cons (pv 3) pa_nil)) (pe_doc1 hu (pe_tup pa_nil) (pe_ix ix_tup (pe_ix ix_list (pe_ix ix_list (pv 2) (pv 3) (fun _ _ => rfl)) (pe_un un_neg pe_int) (fun _ _ => rfl)) pe_int (fun _ _ => rfl))) (nomark _))))))))))))))), ?_⟩
    have est : start ["_law_bough", "_law_parents", "_law_rows", "_law_stand", "_law_line_here", "_law_row_here"] [.ref b, .ref lp, .ref lr, .int i] = [some (.ref b), some (.ref lp), some (.ref lr), some (.int i), none, none] := rfl
    rw [est]
    clear est
    obtain ⟨bx, ag, hb⟩ := id B.ob
    obtain ⟨l, hup⟩ := Up.all B.wf i (by rw [B.lp]; exact hi)
    have hll := hup.len B.wf i rfl
    have hsz := B.sz
    have lpv : (ps.map optV).length = ks.length := by rw [List.length_map, B.lp]
    have s00 : Same H H := Same.refl _
    repeat' (first | (with_reducible refine wp_methE ?_) | ((with_reducible refine' use_me ?ha ?hok ?hl ?_); (case ha => walk_at "ats"); (case hok => exact rfl); (case hl => exact rfl)) | (with_reducible refine wp_raise ?_) | ((with_reducible refine' use_md ?ha ?hok ?hl ?_); (case ha => walk_at "ats"); (case hok => exact rfl); (case hl => exact rfl)) | walk_at "st")
    refine ⟨b, _, M, d, p, r, ks, ps, rs, rfl, B.same s00, fun i1 l1 ei1 _ hup1 a1 H1 sH1 ha1 h1 => ?_, fun hg => absurd (⟨by omega, by omega⟩ : Good ks.length (i : Int)) hg⟩
    obtain rfl : i1 = i := by omega
    obtain rfl := hup1.inj hup
    repeat' (first | ((with_reducible refine' wp_isiL ?ha ?hk ?_); (case ha => walk_at "ats"); (case hk => rfl)) | walk_at "st")
    refine ⟨lp, i1, ps, l1, rfl, (Same.trans s00 sH1) _ _ hlp, hup1, by omega, fun b1 H2 sH2 g1 => ?_⟩
    repeat' (first | walk_at "st")
    refine wp_neF (F := isNat) (sq_of (sH2 _ _ h1)) (sq_of g1) (nat_paired _) (nat_paired _) natEq ?_
    have s02 : Same H H2 := s00.trans (sH1.trans sH2)
    have h21 := sH2 _ _ h1
    repeat' (first | (with_reducible refine wp_comp0 ?_) | walk_at "st")
    refine ⟨a1, rfl, ⟨_, sq_of h21⟩, ?_⟩
    refine comp_list (xs := lineV l1.reverse) (by rw [lineV_len, List.length_reverse]; omega) (fun D i acc H' => Same H2 H' ∧ H' D = some (.lst acc) ∧ acc = []) (fun D hD => ⟨Same.upd hD, upd_same, rfl⟩) (fun D i acc H' hD hi h => ⟨h.2.1, by rw [h.2.2]; exact Nat.zero_le _, sq_of (h.1 _ _ h21)⟩) ?_ ?_
    · intro D j x acc H' N hD hj hlt hN hP
      obtain ⟨hs, hd, he⟩ := hP
      obtain ⟨n, rfl⟩ := line_at hj
      repeat' (first | (with_reducible refine use_is ?_) | walk_at "st")
      exact hN _ _ ⟨hs, hd, he⟩
    intro D1 acc1 H3 hD1 hP1
    obtain ⟨s23, h3D, e3⟩ := hP1
    subst e3
    repeat' (first | walk_at "st")
    refine wp_lstF (by show 0 ≤ 1000; decide) fun q4 H4 s34 h4 _ => ?_
    have s04 : Same H H4 := s02.trans (s23.trans s34)
    refine wp_neNil (sq_of (s34 _ _ h3D)) (sq_of h4) ?_
    repeat' (first | (with_reducible refine use_is ?_) | ((with_reducible refine' wp_lenL ?ha ?_); (case ha => exact sq_of (by walk_at "ats"))) | (with_reducible refine wp_methE ?_) | ((with_reducible refine' use_me ?ha ?hok ?hl ?_); (case ha => walk_at "ats"); (case hok => exact rfl); (case hl => exact rfl)) | (with_reducible refine wp_raise ?_) | ((with_reducible refine' use_md ?ha ?hok ?hl ?_); (case ha => walk_at "ats"); (case hok => exact rfl); (case hl => exact rfl)) | walk_at "st")
    refine ⟨b, M, d, p, r, ks, ps, rs, rfl, B.same s04, ?_⟩
    repeat' (first | (with_reducible refine use_is ?_) | ((with_reducible refine' wp_lenL ?ha ?_); (case ha => exact sq_of (by walk_at "ats"))) | (with_reducible refine wp_bm ?_) | (with_reducible refine wp_bm0 ?_) | walk_at "st")
    have h41 := (s23.trans s34) _ _ h21
    refine ⟨tyL h41, a1, _, rfl, rfl, h41, ?_⟩
    have s05 : Same H (upd H4 a1 (.lst (lineV l1.reverse).reverse)) := same_new s04 ha1
    have h51 : upd H4 a1 (HO.lst (lineV l1.reverse).reverse) a1 = some (.lst (lineV l1.reverse).reverse) := upd_same
    generalize upd H4 a1 (HO.lst (lineV l1.reverse).reverse) = H5 at *
    repeat' (first | (with_reducible refine wp_bm ?_) | (with_reducible refine wp_bm0 ?_) | walk_at "st")
    refine ⟨tyL h51, ?_⟩
    repeat' (first | walk_at "st")
    refine ⟨a1, _, _, rfl, rfl, h51, (by rw [sizeLine_eq, List.length_reverse, lineV_len, List.length_reverse]; omega), ?_⟩
    have s06 : Same H (upd H5 a1 (.lst ((lineV l1.reverse).reverse ++ [.int (-1)]))) := same_new s05 ha1
    generalize upd H5 a1 (HO.lst ((lineV l1.reverse).reverse ++ [.int (-1)])) = H6 at *
    clear h51 s05 h41 h21 h3D h4 s23 s34 hD1
    repeat' (first | (with_reducible refine wp_methE ?_) | ((with_reducible refine' use_me ?ha ?hok ?hl ?_); (case ha => walk_at "ats"); (case hok => exact rfl); (case hl => exact rfl)) | (with_reducible refine wp_raise ?_) | ((with_reducible refine' use_md ?ha ?hok ?hl ?_); (case ha => walk_at "ats"); (case hok => exact rfl); (case hl => exact rfl)) | walk_at "st")
    refine ⟨b, _, M, d, p, r, ks, ps, rs, rfl, B.same s06, fun i3 l3 ei3 _ hup3 a3 H7 s7 _ h7 => ?_, fun hg => absurd (⟨by omega, by omega⟩ : Good ks.length (i1 : Int)) hg⟩
    obtain rfl : i3 = i1 := by omega
    obtain rfl := hup3.inj hup
    repeat' (first | walk_at "st")
    refine ⟨lp, i3, ps, l3, rfl, (s06.trans s7) _ _ hlp, hup3, by omega, fun b3 H8 s8 h8 => ?_⟩
    repeat' (first | walk_at "st")
    refine wp_neF (F := isNat) (sq_of (s8 _ _ h7)) (sq_of h8) (nat_paired _) (nat_paired _) natEq ?_
    have s08 : Same H H8 := s06.trans (s7.trans s8)
    repeat' (first | (with_reducible refine wp_methE ?_) | ((with_reducible refine' use_me ?ha ?hok ?hl ?_); (case ha => walk_at "ats"); (case hok => exact rfl); (case hl => exact rfl)) | (with_reducible refine wp_raise ?_) | ((with_reducible refine' use_md ?ha ?hok ?hl ?_); (case ha => walk_at "ats"); (case hok => exact rfl); (case hl => exact rfl)) | walk_at "st")
    refine ⟨b, _, M, d, p, r, ks, ps, rs, rfl, B.same s08, fun i4 ds ei4 hds ar us H9 s9 har h9 pus => ?_, fun hg => absurd (⟨by omega, by omega⟩ : Good ks.length (i3 : Int)) hg⟩
    obtain rfl : i4 = i3 := by omega
    have hdl := L.short ds (List.mem_of_getElem? hds)
    have lus := Paired.length pus
    repeat' (first | ((with_reducible refine' wp_isiL ?ha ?hk ?_); (case ha => walk_at "ats"); (case hk => rfl)) | (with_reducible refine wp_comp0 ?_) | walk_at "st")
    refine ⟨ar, rfl, ⟨_, sq_of h9⟩, ?_⟩
    refine comp_list (xs := us) (by omega) (fun D j acc H' => Same H9 H' ∧ H' D = some (.lst acc) ∧ acc.length = j ∧ Paired (IsT H') acc (ds.take j)) (fun D hD => ⟨Same.upd hD, upd_same, rfl, .nil⟩)
      (fun D j acc H' hD hj h => ⟨h.2.1, Nat.le_of_eq h.2.2.1, sq_of (h.1 _ _ h9)⟩) ?_ ?_
    · intro D j x acc H' N hD hj hlt hN hP
      obtain ⟨hs, hd, hl2, pd⟩ := hP
      obtain ⟨d0, ed, rd⟩ := Paired.getL pus hj
      obtain ⟨o, n, rfl⟩ := L.sets ds (List.mem_of_getElem? hds) d0 (List.mem_of_getElem? ed)
      have hd2 : IsD c H' x (.set [] o n) := rd.same hs
      show tYes _ _ _
      unfold tYes
      dsimp only
      rw [if_pos rfl]
      repeat' (first | ((with_reducible refine' use_dm ?hd ?hok ?hl ?_); (case hd => (first | assumption | exact IsD.same (by assumption) (by assumption) | (refine IsD.same (by assumption) ?_; (repeat (first | assumption | refine Same.trans (by assumption) ?_)); done))); (case hok => exact rfl); (case hl => exact fun _ _ => rfl)) | ((with_reducible refine' use_told1 ?hd ?_); (case hd => (first | assumption | exact IsD.same (by assumption) (by assumption) | (refine IsD.same (by assumption) ?_; (repeat (first | assumption | refine Same.trans (by assumption) ?_)); done))); intro _ _ _ _) | walk_at "st")
      rename_i z9 Ha sa hz9
      have haD := sa _ _ hd
      have hX : SameX D Ha (upd Ha D (.lst (acc ++ [z9]))) := SameX.upd
      refine ⟨haD, hlt, hN _ _ ⟨?_, upd_same, by rw [List.length_append, hl2]; rfl, ?_⟩⟩
      · intro b' o' e'
        rw [upd_ne (ne_of_none e' hD)]; exact sa b' o' (hs b' o' e')
      · rw [take_snoc ed]
        exact Paired.app (Paired.mapP pd fun _ _ r => (r.same sa).sameX haD hX) (.cons (hz9.sameX haD hX) .nil)
    intro D2 acc2 Hb hD2 hP2
    obtain ⟨s9b, hbD, hla, pacc⟩ := hP2
    rw [lus, List.take_length] at pacc
    have s0b : Same H Hb := s08.trans (s9.trans s9b)
    obtain ⟨tv, etv, at_, ut, rfl, hnat, hut, put⟩ := Paired.getR pt hds
    have hat : atI vt (i4 : Int) = some (.ref at_) := atI_nat etv
    have putb : Paired (IsT Hb) ut ds := Paired.mapP put fun _ _ r => r.same s0b
    have hlrb := s0b _ _ hlr
    have hutb := s0b _ _ hut
    repeat' (first | ((with_reducible refine' wp_ixL ?ha ?hv ?_); (case ha => exact sq_of (by walk_at "ats")); (case hv => first | assumption | exact rfl)) | walk_at "st")
    refine wp_neF (F := IsT Hb) (sq_of hbD) (sq_of hutb) pacc putb (fun x y i j hx hy => (EqV.told hx hy).mono (by decide)) ?_
    repeat' (first | (with_reducible refine wp_methE ?_) | ((with_reducible refine' use_me ?ha ?hok ?hl ?_); (case ha => walk_at "ats"); (case hok => exact rfl); (case hl => exact rfl)) | (with_reducible refine wp_raise ?_) | ((with_reducible refine' use_md ?ha ?hok ?hl ?_); (case ha => walk_at "ats"); (case hok => exact rfl); (case hl => exact rfl)) | walk_at "st")
    · rename_i hi0
      have hi0' : i4 = 0 := by omega
      subst hi0'
      refine ⟨b, _, M, d, p, r, ks, ps, rs, rfl, B.same s0b, fun i5 st ei5 hst => ?_, fun hg => absurd (⟨by omega, by omega⟩ : Good ks.length 0) hg⟩
      obtain rfl : i5 = 0 := by omega
      rw [L.p0] at hst
      cases hst
      dsimp only [optV]
      repeat' (first | (with_reducible refine wp_notNi ?_) | (with_reducible refine wp_notNn ?_) | (with_reducible refine wp_isNn ?_) | walk_at "st")
      exact k _ s0b
    · rename_i hi0
      have hpos : 0 < i4 := by omega
      refine ⟨b, _, M, d, p, r, ks, ps, rs, rfl, B.same s0b, fun i5 st ei5 hst => ?_, fun hg => absurd (⟨by omega, by omega⟩ : Good ks.length (i4 : Int)) hg⟩
      obtain rfl : i5 = i4 := by omega
      obtain ⟨m, hm⟩ := L.pj i5 hpos hi
      rw [hm] at hst
      cases hst
      have hat2 : atI (ps.map optV) (i5 : Int) = some (.int m) := opts_at hm
      have hlpb := s0b _ _ hlp
      dsimp only [optV]
      repeat' (first | ((with_reducible refine' wp_ixL ?ha ?hv ?_); (case ha => exact sq_of (by walk_at "ats")); (case hv => first | assumption | exact rfl)) | (with_reducible refine use_is ?_) | (with_reducible refine wp_methE ?_) | ((with_reducible refine' use_me ?ha ?hok ?hl ?_); (case ha => walk_at "ats"); (case hok => exact rfl); (case hl => exact rfl)) | (with_reducible refine wp_raise ?_) | ((with_reducible refine' use_md ?ha ?hok ?hl ?_); (case ha => walk_at "ats"); (case hok => exact rfl); (case hl => exact rfl)) | walk_at "st")
      refine ⟨b, _, M, d, p, r, ks, ps, rs, rfl, B.same s0b, fun i6 kk ei6 hkk v Hc sbc hv => ?_, fun hg => absurd (⟨by omega, by omega⟩ : Good ks.length (i5 : Int)) hg⟩
      obtain rfl : i6 = i5 := by omega
      obtain ⟨o, hlast⟩ := L.last i6 ds kk hpos hds hkk
      refine fun q hq => ?_
      have s1 : Same Hc (upd Hc q (.dT [])) := Same.upd hq
      have hqd : upd Hc q (HO.dT []) q = some (.dT []) := upd_same
      generalize upd Hc q (HO.dT []) = Hd at *
      have s0d : Same H Hd := s0b.trans (sbc.trans s1)
      repeat' (first | walk_at "st")
      rename_i zt He sde hzt
      have s0e : Same H He := s0d.trans sde
      have hlre := s0e _ _ hlr
      have hute := s0e _ _ hut
      obtain ⟨tl, etl, rtl⟩ := last_T (Paired.mapP put fun _ _ r => r.same s0e) hlast
      obtain ⟨a9, x9, y9, rfl, ha9, _⟩ := id rtl
      repeat' (first | ((with_reducible refine' wp_ixL ?ha ?hv ?_); (case ha => exact sq_of (by walk_at "ats")); (case hv => first | assumption | exact rfl)) | walk_at "st")
      obtain ⟨bt, rfl, hbt⟩ := hzt
      refine ⟨sde _ _ hqd, bt, kk, rfl, hbt, rfl, ?_⟩
      have hqe := sde _ _ hqd
      have hvq : IsDoc (upd He q (.dT [([], .int kk)])) v kk := by
        obtain ⟨av, rfl, hav⟩ := hv
        refine ⟨av, rfl, ?_⟩
        rw [upd_ne (ne_of_none hav hq)]
        exact sde _ _ (s1 _ _ hav)
      refine wp_eqDoc hvq ⟨q, rfl, upd_same⟩ ?_
      rw [decide_eq_true rfl]
      refine k _ (same_new s0e (none_same (s0b.trans sbc) hq))

structure LI (c : Cl) (e : Ek) (H : Hp) (b d p r ln lp lr : Addr) (ks : List Int) (ps : List (Option Nat)) (rs : List (List DD)) (vt : List V) : Prop where
  B : Bg c e [d, p, r, ln, lp, lr] H b d p r ks ps rs
  L : Lk ks ps rs
  hln : H ln = some (.lst (ks.map V.int))
  hlp : H lp = some (.lst (ps.map optV))
  hlr : H lr = some (.lst vt)
  pt : Paired (RowU [d, p, r, ln, lp, lr] H) vt rs
  nd : ln ≠ d ∧ ln ≠ p ∧ ln ≠ r ∧ lp ≠ d ∧ lp ≠ p ∧ lp ≠ r ∧ lr ≠ d ∧ lr ≠ p ∧ lr ≠ r ∧ ln ≠ lp ∧ ln ≠ lr ∧ lp ≠ lr
  pos : 0 < ks.length
theorem LI.same {c : Cl} {e : Ek} {H H' : Hp} {b d p r ln lp lr : Addr} {ks : List Int} {ps : List (Option Nat)} {rs : List (List DD)} {vt : List V} (I : LI c e H b d p r ln lp lr ks ps rs vt) (s : Same H H') : LI c e H' b d p r ln lp lr ks ps rs vt :=
  ⟨I.B.same s, I.L, s _ _ I.hln, s _ _ I.hlp, s _ _ I.hlr, Paired.mapP I.pt fun _ _ z => z.fr I.B.al s.fr, I.nd, I.pos⟩
theorem _root_.L2.Chain.sets {k k' : Int} {ds : List DD} (h : Chain k ds k') : ∀ d ∈ ds, ∃ o n, d = .set [] o n := by
  induction h with
  | nil k => intro d hd; exact nomatch hd
  | cons h t ih =>
    intro d hd
    rcases List.mem_cons.mp hd with rfl | hd
    · exact ⟨_, _, rfl⟩
    · exact ih d hd
theorem Lk.snoc {ks : List Int} {ps : List (Option Nat)} {rs : List (List DD)} {k k' : Int} {ds : List DD} {i : Nat} (L : Lk ks ps rs) (lp : ps.length = ks.length) (lr : rs.length = ks.length) (pos : 0 < ks.length) (hc : Chain k ds k') (hne : ds ≠ []) (hdl : ds.length ≤ 1000) : Lk (ks ++ [k']) (ps ++ [some i]) (rs ++ [ds]) where
  p0 := by rw [List.getElem?_append_left (by omega)]; exact L.p0
  pj := fun j h0 hj => by
    rw [List.length_append, List.length_singleton] at hj
    by_cases hl : j < ks.length
    · obtain ⟨m, hm⟩ := L.pj j h0 hl
      exact ⟨m, by rw [List.getElem?_append_left (by omega)]; exact hm⟩
    · have e : j = ps.length := by omega
      exact ⟨i, by rw [e, List.getElem?_append_right (Nat.le_refl _), Nat.sub_self]; rfl⟩
  last := fun j ds' k2 h0 h1 h2 => by
    by_cases hl : j < ks.length
    · rw [List.getElem?_append_left (by omega)] at h1 h2
      exact L.last j ds' k2 h0 h1 h2
    · have hj := (List.getElem?_eq_some_iff.mp h2).1
      rw [List.length_append, List.length_singleton] at hj
      have e : j = ks.length := by omega
      subst e
      rw [List.getElem?_append_right (Nat.le_refl _), Nat.sub_self] at h2
      rw [List.getElem?_append_right (by omega), lr, Nat.sub_self] at h1
      have e1 : ds = ds' := by simpa using h1
      have e2 : k' = k2 := by simpa using h2
      subst e1 e2
      exact hc.last hne
  short := fun ds' h => by
    rcases List.mem_append.mp h with h | h
    · exact L.short ds' h
    · rw [List.mem_singleton.mp h]; exact hdl
  sets := fun ds' h => by
    rcases List.mem_append.mp h with h | h
    · exact L.sets ds' h
    · rw [List.mem_singleton.mp h]; exact hc.sets
theorem emod_nat {z : Int} {n : Nat} (h : 0 < n) : ∃ j : Nat, z % (n : Int) = j ∧ j < n := by
  have h0 := Int.emod_nonneg z (show (n : Int) ≠ 0 by omega)
  have h1 := Int.emod_lt_of_pos z (show (0 : Int) < n by omega)
  exact ⟨(z % (n : Int)).toNat, by omega, by omega⟩
theorem ints_at {ks : List Int} {i : Nat} {k : Int} (h : ks[i]? = some k) : atI (ks.map V.int) (i : Int) = some (.int k) := atI_nat (by rw [List.getElem?_map, h]; rfl)
theorem sclaw : FnScope ["_law_script", "_law_numbers", "_law_bough", "_law_parents", "_law_rows", "_law_cell", "_law_load", "_law_at_here", "_law_told", "_law_row_here"] ["_law_script"] (defScope slaw) := ⟨rfl, rfl, rfl, by decide +kernel, rfl, by decide +kernel, by decide +kernel⟩
theorem oklaw {f : Addr} {fd : FuncData} (F : Fun K "law" "law" slaw f fd) (T : Txt K mg c e) (F_law_at : FnAll P w K mg base "_law_at" 1 ["_law_script", "_law_k"] (spAt K)) (F_law_number : FnAll P w K mg base "_law_number" 1 ["_law_load"] (spNumber)) (MBough : MkAll P w K mg base "Bough" e.bough 1 ["self", "doc"] (spBInit e)) (MSet : MkAll P w K mg base "Set" c.set 1 ["self", "path", "old", "new"] (spInit c.set ["path", "old", "new"])) (F_law_row : FnAll P w K mg base "_law_row" 2 ["_law_number_here", "_law_load"] (spRow)) (F_law_refused : FnAll P w K mg base "_law_refused" 7 ["_law_bough", "_law_load", "_law_many", "_law_row_here"] (spRef c e)) (Mb_grow : ∀ C, C = e.bough → MethAllE P w K mg base C "grow" 5 ["self", "stand", "row"] (spGrow c e)) (F_law_is : FnAll P w K mg base "_law_is" 1 ["_law_found", "_law_due"] (spIs)) (F_law_look : FnAll P w K mg base "_law_look" 4 ["_law_bough", "_law_parents", "_law_rows", "_law_stand"] (spLook c e)) : FnOk P w K mg base CX0 8 f fd ["_law_script"] (spLaw K) := by
  refine F.ok (k := 7) sclaw (fun vs H Q E h => ?_) (fun cdv A outer s H vs Q E hr h => ?_)
  · obtain ⟨a, ns, rfl, _⟩ := h
    rfl
  · obtain ⟨a, ns, rfl, hS, hlen, k⟩ := h
    have hu := hu16 hr
    have nd := sclaw.nd
    refine ⟨_, (pss_cons (ps_set (i := 1) nd rfl (Or.inl rfl) (pe_lst (pa_cons (pe_callF F_law_number hr (pa_cons (pe_callF F_law_at hr (pa_cons (pv 0) (pa_cons pe_int pa_nil))) pa_nil)) pa_nil)))
      (pss_cons (ps_set (i := 2) nd rfl (Or.inl rfl) (pe_makeF MBough hr (pa_cons (pe_doc1 hu (pe_tup pa_nil) (pe_ix ix_list (pv 1) pe_int (fun _ _ => rfl))) pa_nil)))
      (pss_cons (ps_set (i := 3) nd rfl (Or.inl rfl) (pe_lst (pa_cons pe_non pa_nil)))
      (pss_cons (ps_set (i := 4) nd rfl (Or.inl rfl) (pe_lst (pa_cons (pe_lst pa_nil) pa_nil)))
      (pss_cons (ps_for PassesOwn.never rfl (pi_list (pe_slice sl_list (pv 0) (po_some pe_int) (po_some pe_int))) (pg_name (i := 5) nd rfl (Or.inl rfl)) (pss_cons (ps_set (i := 6) nd rfl (Or.inl rfl) (pe_op op_fdiv (pv 5) pe_int))
      (pss_cons (ps_set (i := 7) nd rfl (Or.inl rfl) (pe_op op_mod (pv 6) (pe_callB call_lenQ (by rfl) T.b_len PySem.boot_len (pa_cons (pv 1) pa_nil))))
      (pss_cons (ps_set (i := 8) nd rfl (Or.inl rfl) (pe_callF F_law_row hr (pa_cons (pe_ix ix_list (pv 1) (pv 7) (fun _ _ => rfl)) (pa_cons (pe_op op_fdiv (pv 6) (pe_callB call_lenQ (by rfl) T.b_len PySem.boot_len (pa_cons (pv 1) pa_nil))) pa_nil))))
      (pss_cons (ps_setComp (i := 9) nd rfl (Or.inl rfl) rfl (compScope0 rfl (by decide) (by decide +kernel) rfl) rfl (pi_list (pv 8)) (fun _ _ _ _ => pif_nil) (fun _ _ _ _ => (pe_makeF MSet hr (pa_cons (pe_ix (r := rIxT K) ix_tup (pv 0) pe_int (fun _ _ => rfl)) (pa_cons (pe_ix (r := rIxT K) ix_tup (pv 0) pe_int (fun _ _ => rfl)) (pa_cons (pe_ix (r := rIxT K) ix_tup (pv 0) pe_int (fun _ _ => rfl)) pa_nil))))))
      (pss_cons (ps_if (PW.pt (pw_and (pt_cmpR op_lt (pe_op op_mod (pv 5) pe_int) pe_int (nomark _)) (pw_and1 (pt_not (pt_val (pe_callF F_law_refused hr (pa_cons (pv 2) (pa_cons (pe_op op_fdiv (pv 6) pe_int) (pa_cons (pe_callB call_lenQ (by rfl) T.b_len PySem.boot_len (pa_cons (pv 1) pa_nil)) (pa_cons (pv 9) pa_nil)))))))))) (pss_one (ps_ret pe_bl)) pss_nil)
      (pss_cons (ps_if (pt_not (pt_val (pe_callF F_law_is hr (pa_cons (pe_methE Mb_grow hr passN (pv 2) (pa_cons (pv 7) (pa_cons (pv 9) pa_nil))) (pa_cons (pe_callB call_lenQ (by rfl) T.b_len PySem.boot_len (pa_cons (pv 1) pa_nil)) pa_nil))))) (pss_one (ps_ret pe_bl)) pss_nil)
      (pss_cons (ps_expr (pe_bm PySem.F.plainAttrs_list PySem.F.slot_list_append PySem.F.type_list_append mt_append (pv 1) (pa_cons (pe_ix (r := rIxT K) ix_tup (pe_ix ix_list (pv 8) (pe_un un_neg pe_int) (fun _ _ => rfl)) pe_int (fun _ _ => rfl)) pa_nil)))
      (pss_cons (ps_expr (pe_bm PySem.F.plainAttrs_list PySem.F.slot_list_append PySem.F.type_list_append mt_append (pv 3) (pa_cons (pv 7) pa_nil)))
      (pss_cons (ps_expr (pe_bm PySem.F.plainAttrs_list PySem.F.slot_list_append PySem.F.type_list_append mt_append (pv 4) (pa_cons (pv 8) pa_nil)))
      (pss_cons (ps_if (pt_not (pt_val (pe_callF F_law_look hr (pa_cons (pv 2) (pa_cons (pv 3) (pa_cons (pv 4) (pa_cons (pe_op op_sub (pe_callB call_lenQ (by rfl) T.b_len PySem.boot_len (pa_cons (pv 3) pa_nil)) pe_int) pa_nil))))))) (pss_one (ps_ret pe_bl)) pss_nil)
      (pss_one (ps_if (pt_not (pt_val (pe_callF F_law_look hr (pa_cons (pv 2) (pa_cons (pv 3) (pa_cons (pv 4) (pa_cons (pe_op op_mod (pe_op op_fdiv (pv 6) pe_int) (pe_callB call_lenQ (by rfl) T.b_len PySem.boot_len (pa_cons (pv 3) pa_nil))) pa_nil))))))) (pss_one (ps_ret pe_bl)) pss_nil)))))))))))))
      (pss_one (ps_ret (pe_callF F_law_look hr (pa_cons (pv 2) (pa_cons (pv 3) (pa_cons (pv 4) (pa_cons pe_int pa_nil)))))))))))), ?_⟩
    have est : start ["_law_script", "_law_numbers", "_law_bough", "_law_parents", "_law_rows", "_law_cell", "_law_load", "_law_at_here", "_law_told", "_law_row_here"] [.ref a] = [some (.ref a), none, none, none, none, none, none, none, none, none] := rfl
    rw [est]
    clear est
    repeat' (first | walk_at "st")
    refine ⟨a, ns, rfl, hS, fun m0 => ?_⟩
    repeat' (first | ((with_reducible refine use_number ?_); intro _) | walk_at "st")
    rename_i n0
    refine wp_lstF (by show 1 ≤ 1000; decide) fun ln H1 s1 h1 _ => ?_
    repeat' (first | walk_at "st")
    refine fun q hq => ?_
    have s2 : Same H1 (upd H1 q (.dT [])) := Same.upd hq
    have hqd : upd H1 q (HO.dT []) q = some (.dT []) := upd_same
    generalize upd H1 q (HO.dT []) = H2 at *
    repeat' (first | walk_at "st")
    rename_i zt H2b s2b hzt
    have h2ln := (s2.trans s2b) _ _ h1
    repeat' (first | ((with_reducible refine' wp_ixL ?ha ?hv ?_); (case ha => exact sq_of (by walk_at "ats")); (case hv => first | assumption | exact rfl)) | walk_at "st")
    obtain ⟨bt, rfl, hbt⟩ := hzt
    refine ⟨s2b _ _ hqd, bt, n0, rfl, hbt, rfl, ?_⟩
    have s3 : Same H1 (upd H2b q (.dT [([], .int n0)])) := same_new (s2.trans s2b) hq
    have h3q : upd H2b q (HO.dT [([], .int n0)]) q = some (.dT [([], .int n0)]) := upd_same
    generalize upd H2b q (HO.dT [([], .int n0)]) = H3 at *
    clear h2ln hqd hbt s2b s2
    have h3ln := s3 _ _ h1
    repeat' (first | walk_at "st")
    refine fun x bx hx hbx hne => ?_
    have hxb : upd (upd H3 bx (.own x)) x (HO.ins e.bough bx []) x = some (.ins e.bough bx []) := upd_same
    have s4 : Same H3 (upd (upd H3 bx (.own x)) x (.ins e.bough bx [])) := same_new (Same.upd hbx) hx
    generalize upd (upd H3 bx (.own x)) x (HO.ins e.bough bx []) = H4 at *
    refine ⟨x, bx, .ref q, n0, rfl, hxb, ⟨q, rfl, s4 _ _ h3q⟩, fun H5 d p r q2 ag v hk5 hx5 hd5 hv5 hp5 hr5 hq5 fd4 fp4 fr4 fq4 dp dr pr qd qp qr => ⟨rfl, ?_⟩⟩
    have s35 : Same H3 H5 := fun b o hb => hk5 b o (ne_of_none hb hx) (s4 _ _ hb)
    have h5ln := s35 _ _ h3ln
    have f3d := none_same s4 fd4
    have f3p := none_same s4 fp4
    have f3r := none_same s4 fr4
    have f3q := none_same s4 fq4
    have n1 : ln ≠ d := ne_of_none h3ln f3d
    have n2 : ln ≠ p := ne_of_none h3ln f3p
    have n3 : ln ≠ r := ne_of_none h3ln f3r
    have qn : q2 ≠ ln := (ne_of_none h3ln f3q).symm
    repeat' (first | walk_at "st")
    refine wp_lstF (by show 1 ≤ 1000; decide) fun lp H6 s6 h6 flp => ?_
    have n4 : lp ≠ d := (ne_of_none hd5 flp).symm
    have n5 : lp ≠ p := (ne_of_none hp5 flp).symm
    have n6 : lp ≠ r := (ne_of_none hr5 flp).symm
    have na1 : ln ≠ lp := ne_of_none h5ln flp
    have ql : q2 ≠ lp := ne_of_none hq5 flp
    repeat' (first | walk_at "st")
    refine wp_lstF (by show 0 ≤ 1000; decide) fun q0 H7 s7 h7 fq0 => ?_
    repeat' (first | walk_at "st")
    refine wp_lstF (by show 1 ≤ 1000; decide) fun lr H8 s8 h8 flr => ?_
    have s57 := s6.trans s7
    have n7 : lr ≠ d := (ne_of_none (s57 _ _ hd5) flr).symm
    have n8 : lr ≠ p := (ne_of_none (s57 _ _ hp5) flr).symm
    have n9 : lr ≠ r := (ne_of_none (s57 _ _ hr5) flr).symm
    have na2 : ln ≠ lr := ne_of_none (s57 _ _ h5ln) flr
    have na3 : lp ≠ lr := ne_of_none (s7 _ _ h6) flr
    have qr2 : q2 ≠ lr := ne_of_none (s57 _ _ hq5) flr
    have s58 := s57.trans s8
    have h8lp := (s7.trans s8) _ _ h6
    have al8 : AllL [d, p, r, ln, lp, lr] H8 := by
      intro m hm
      simp only [List.mem_cons, List.not_mem_nil, or_false] at hm
      rcases hm with rfl | rfl | rfl | rfl | rfl | rfl
      · exact ⟨_, s58 _ _ hd5⟩
      · exact ⟨_, s58 _ _ hp5⟩
      · exact ⟨_, s58 _ _ hr5⟩
      · exact ⟨_, s58 _ _ h5ln⟩
      · exact ⟨_, h8lp⟩
      · exact ⟨_, h8⟩
    have hq2M : q2 ∉ [d, p, r, ln, lp, lr] := by
      simp only [List.mem_cons, List.not_mem_nil, or_false, not_or]
      exact ⟨qd, qp, qr, qn, ql, qr2⟩
    have hq0M : q0 ∉ [d, p, r, ln, lp, lr] := by
      simp only [List.mem_cons, List.not_mem_nil, or_false, not_or]
      exact ⟨(ne_of_none (s6 _ _ hd5) fq0).symm, (ne_of_none (s6 _ _ hp5) fq0).symm, (ne_of_none (s6 _ _ hr5) fq0).symm, (ne_of_none (s6 _ _ h5ln) fq0).symm, (ne_of_none h6 fq0).symm, ne_of_none h7 flr⟩
    have mln : ln ∈ [d, p, r, ln, lp, lr] := by simp
    have mlp : lp ∈ [d, p, r, ln, lp, lr] := by simp
    have mlr : lr ∈ [d, p, r, ln, lp, lr] := by simp
    have I8 : LI c e H8 x d p r ln lp lr [n0] [none] [[]] [.ref q0] :=
      ⟨⟨⟨bx, ag, s58 _ _ hx5⟩, al8, dp, dr, pr, by simp, by simp, by simp, ⟨_, s58 _ _ hd5, .cons (hv5.same s58) .nil⟩, s58 _ _ hp5, ⟨_, s58 _ _ hr5, .cons ⟨q2, [], rfl, hq2M, s58 _ _ hq5, .nil⟩ .nil⟩, rfl, rfl,
        (fun j m hj => by
          cases j with
          | zero => simp at hj
          | succ j => simp at hj), by show 1 ≤ 1000; decide⟩,
       ⟨rfl, (fun j h0 hj => by
          have hj' : j < 1 := hj
          omega), (fun j ds k h0 h1 h2 => by
          have hj' := (List.getElem?_eq_some_iff.mp h2).1
          have hj2 : j < 1 := hj'
          omega), (fun ds h => by rw [List.mem_singleton.mp h]; exact Nat.zero_le _), (fun ds h d hd => by rw [List.mem_singleton.mp h] at hd; exact nomatch hd)⟩,
       s58 _ _ h5ln, h8lp, h8, .cons ⟨q0, [], rfl, hq0M, s8 _ _ h7, .nil⟩ .nil, ⟨n1, n2, n3, n4, n5, n6, n7, n8, n9, na1, na2, na3⟩, by show 0 < 1; decide⟩
    have hS8 : SqL K H8 a (ns.map V.int) := (s1.trans (s3.trans (s35.trans s58))).seq hS
    clear hq2M hq0M qd qp qr qn ql qr2 al8 h8lp s58 s57 flr h8 s8 fq0 h7 s7 flp h6 s6 f3d f3p f3r f3q h5ln s35 hk5 hx5 hd5 hv5 hp5 hr5 hq5 fd4 fp4 fr4 fq4 hxb s4 hx hbx hne h3ln h3q s3 hq h1 s1
    repeat' (first | walk_at "st")
    refine wp_slL hS8 fun m1 H9 s9 h9m hm1 => ?_
    have hin : ∀ v ∈ cutV (ns.map V.int) (some 1) (some 101), ∃ z, v = V.int z := fun v hv => cut_ints hv
    have hcl := cutV_length (ns.map V.int) (some 1) (some 101)
    rw [List.length_map] at hcl
    have hmM : m1 ∉ [d, p, r, ln, lp, lr] := I8.B.al.fresh hm1
    have I9 := I8.same s9
    generalize cutV (ns.map V.int) (some 1) (some 101) = cs at *
    clear I8 hm1 s9 hS8
    refine ⟨m1, rfl, ⟨_, sq_of h9m⟩, ?_⟩
    refine loop_list (xs := cs) (fun i σ' H' => Fr [d, p, r, ln, lp, lr] H9 H' ∧ ∃ ks ps rs vt o5 o6 o7 o8 o9, LI c e H' x d p r ln lp lr ks ps rs vt ∧ ks.length ≤ i + 1 ∧ σ' = [some (.ref a), some (.ref ln), some (.ref x), some (.ref lp), some (.ref lr), o5, o6, o7, o8, o9])
      ⟨Fr.refl, [n0], [none], [[]], [.ref q0], _, _, _, _, _, I9, Nat.le_refl _, rfl⟩ (fun i σ' H' _ h => sq_of (h.1 _ _ hmM h9m)) ?_ ?_
    · rintro i v _ H hi ⟨F, ks, ps, rs, vt, o5, o6, o7, o8, o9, I, hkl, rfl⟩
      obtain ⟨z, rfl⟩ := hin v (List.mem_of_getElem? hi)
      have hi63 : i < 63 := by have := (List.getElem?_eq_some_iff.mp hi).1; omega
      have hkm : (ks.map V.int).length = ks.length := List.length_map _
      have hpm : (ps.map optV).length = ks.length := by rw [List.length_map, I.B.lp]
      have hvt : vt.length = ks.length := by rw [Paired.length I.pt, I.B.lr]
      have hpos := I.pos
      have hln := I.hln
      repeat' (first | ((with_reducible refine' wp_lenL ?ha ?_); (case ha => exact sq_of (by walk_at "ats"))) | walk_at "st")
      obtain ⟨i0, ei0, hi0⟩ := emod_nat (z := z / 6) (n := (ks.map V.int).length) (by omega)
      rw [ei0]
      have hkk : ks[i0]? = some (ks[i0]'(by omega)) := List.getElem?_eq_getElem _
      generalize ks[i0]'(by omega) = kk at hkk
      have hat0 := ints_at hkk
      repeat' (first | ((with_reducible refine' wp_lenL ?ha ?_); (case ha => exact sq_of (by walk_at "ats"))) | ((with_reducible refine' wp_ixL ?ha ?hv ?_); (case ha => exact sq_of (by walk_at "ats")); (case hv => first | assumption | exact rfl)) | walk_at "st")
      refine ⟨_, _, rfl, fun at_ ut ds k' H1 s1 fat h1 put hch hne hdl => ?_⟩
      have hatM := I.B.al.fresh fat
      have lut := Paired.length put
      repeat' (first | (with_reducible refine wp_comp0 ?_) | walk_at "st")
      refine ⟨at_, rfl, ⟨_, sq_of h1⟩, ?_⟩
      refine comp_list (xs := ut) (by omega) (fun D j acc H' => Same H1 H' ∧ H' D = some (.lst acc) ∧ acc.length = j ∧ Paired (IsD c H') acc (ds.take j)) (fun D hD => ⟨Same.upd hD, upd_same, rfl, .nil⟩)
        (fun D j acc H' hD hj h => ⟨h.2.1, Nat.le_of_eq h.2.2.1, sq_of (h.1 _ _ h1)⟩) ?_ ?_
      · intro D j y acc H' N hD hj hlt hN hP
        obtain ⟨hs, hd, hl2, pd⟩ := hP
        obtain ⟨d0, ed, rd⟩ := Paired.getL put hj
        obtain ⟨o, n, rfl⟩ := hch.sets d0 (List.mem_of_getElem? ed)
        obtain ⟨a9, x9, y9, rfl, ha9, hp9⟩ := rd.same hs
        have hp9 : IsP H' x9 [] := hp9
        have ha9 : H' a9 = some (.tup [.str "set", x9, .int o, .int n]) := ha9
        show tYes _ _ _
        unfold tYes
        dsimp only
        rw [if_pos rfl]
        repeat' (first | walk_at "st")
        rename_i z9 Ha sa hz9
        have haD := sa _ _ hd
        have hX : SameX D Ha (upd Ha D (.lst (acc ++ [z9]))) := SameX.upd
        refine ⟨haD, hlt, hN _ _ ⟨?_, upd_same, by rw [List.length_append, hl2]; rfl, ?_⟩⟩
        · intro b' o' e'
          rw [upd_ne (ne_of_none e' hD)]; exact sa b' o' (hs b' o' e')
        · rw [take_snoc ed]
          exact Paired.app (Paired.mapP pd fun _ _ r => (r.same sa).sameX haD hX) (.cons (hz9.sameX haD hX) .nil)
      intro ar accr H2 har hPr
      obtain ⟨s12, h2r, _, pr2⟩ := hPr
      rw [lut, List.take_length] at pr2
      have s02 : Same H H2 := s1.trans s12
      have harM : ar ∉ [d, p, r, ln, lp, lr] := (I.B.al.same s1).fresh har
      have lacc := Paired.length pr2
      have hacc : accr ≠ [] := fun q => hne (List.length_eq_zero_iff.mp (by rw [← lacc, q]; rfl))
      obtain ⟨bx', ag', hb⟩ := id I.B.ob
      repeat' (first | ((with_reducible refine' wp_lenL ?ha ?_); (case ha => exact sq_of (by walk_at "ats"))) | (with_reducible refine wp_methE ?_) | ((with_reducible refine' use_me ?ha ?hok ?hl ?_); (case ha => walk_at "ats"); (case hok => exact rfl); (case hl => exact rfl)) | (with_reducible refine wp_raise ?_) | ((with_reducible refine' use_md ?ha ?hok ?hl ?_); (case ha => walk_at "ats"); (case hok => exact rfl); (case hl => exact rfl)) | walk_at "st")
      · refine ⟨x, z / 6 / 2, ar, accr, ds, [d, p, r, ln, lp, lr], d, p, r, ks, ps, rs, by rw [hkm], I.B.same s02, I.pos, h2r, pr2, fun H3 s23 => ?_⟩
        have s03 : Same H H3 := s02.trans s23
        have s03r := s23
        have sH1H3 : Same H1 H3 := s12.trans s23
        repeat' (first | ((with_reducible refine' wp_lenL ?ha ?_); (case ha => exact sq_of (by walk_at "ats"))) | (with_reducible refine wp_methE ?_) | ((with_reducible refine' use_me ?ha ?hok ?hl ?_); (case ha => walk_at "ats"); (case hok => exact rfl); (case hl => exact rfl)) | (with_reducible refine wp_raise ?_) | ((with_reducible refine' use_md ?ha ?hok ?hl ?_); (case ha => walk_at "ats"); (case hok => exact rfl); (case hl => exact rfl)) | walk_at "st")
        refine ⟨x, _, ar, accr, ds, [d, p, r, ln, lp, lr], d, p, r, ks, ps, rs, rfl, I.B.same s03, s03r _ _ h2r, Paired.mapP pr2 fun _ _ z => z.same s03r, fun hg => absurd (⟨by omega, by omega⟩ : Good ks.length (i0 : Int)) hg, fun _ hz => absurd hz hacc, fun _ _ => ⟨harM, by omega, by omega, i0, kk, k', rfl, hkk, hch, fun Hg fg og B2 => ?_⟩⟩
        have hgln : Hg ln = some (.lst (ks.map V.int)) := by rw [og ln mln n1 n2 n3]; exact s03 _ _ I.hln
        have hglp : Hg lp = some (.lst (ps.map optV)) := by rw [og lp mlp n4 n5 n6]; exact s03 _ _ I.hlp
        have hglr : Hg lr = some (.lst vt) := by rw [og lr mlr n7 n8 n9]; exact s03 _ _ I.hlr
        have fng : Fr [d, p, r, ln, lp, lr] H1 Hg := (sH1H3).fr.trans fg
        have hgt : Hg at_ = some (.lst ut) := fng _ _ hatM h1
        have al1 := I.B.al.same s1
        have putg : Paired (IsT Hg) ut ds := Paired.mapP put fun _ _ z => z.fr al1 fng
        obtain ⟨o9, hlast⟩ := hch.last hne
        obtain ⟨tl, etl, rtl⟩ := last_T putg hlast
        obtain ⟨a9, x9, y9, rfl, ha9, _⟩ := id rtl
        repeat' (first | (with_reducible refine use_is ?_) | ((with_reducible refine' wp_lenL ?ha ?_); (case ha => exact sq_of (by walk_at "ats"))) | (with_reducible refine wp_bm ?_) | (with_reducible refine wp_bm0 ?_) | walk_at "st")
        refine ⟨tyL hgln, ?_⟩
        repeat' (first | ((with_reducible refine' wp_ixL ?ha ?hv ?_); (case ha => exact sq_of (by walk_at "ats")); (case hv => first | assumption | exact rfl)) | walk_at "st")
        refine ⟨ln, _, _, rfl, rfl, hgln, (by rw [sizeLine_eq]; omega), ?_⟩
        have fa : Fr [d, p, r, ln, lp, lr] Hg (upd Hg ln (.lst (ks.map V.int ++ [.int k']))) := Fr.upd mln
        have na : ∀ m, m ≠ ln → upd Hg ln (.lst (ks.map V.int ++ [.int k'])) m = Hg m := fun m hm => upd_ne hm
        have haln : upd Hg ln (HO.lst (ks.map V.int ++ [.int k'])) ln = some (.lst (ks.map V.int ++ [.int k'])) := upd_same
        have ala : AllL [d, p, r, ln, lp, lr] (upd Hg ln (.lst (ks.map V.int ++ [.int k']))) := B2.al.upd
        generalize upd Hg ln (.lst (ks.map V.int ++ [.int k'])) = Ha at *
        have halp : Ha lp = some (.lst (ps.map optV)) := by rw [na lp na1.symm]; exact hglp
        repeat' (first | (with_reducible refine wp_bm ?_) | (with_reducible refine wp_bm0 ?_) | walk_at "st")
        refine ⟨tyL halp, ?_⟩
        repeat' (first | walk_at "st")
        refine ⟨lp, _, _, rfl, rfl, halp, (by rw [sizeLine_eq]; omega), ?_⟩
        have fb : Fr [d, p, r, ln, lp, lr] Ha (upd Ha lp (.lst (ps.map optV ++ [.int i0]))) := Fr.upd mlp
        have nb : ∀ m, m ≠ lp → upd Ha lp (.lst (ps.map optV ++ [.int i0])) m = Ha m := fun m hm => upd_ne hm
        have hblp : upd Ha lp (HO.lst (ps.map optV ++ [.int i0])) lp = some (.lst (ps.map optV ++ [.int i0])) := upd_same
        have alb : AllL [d, p, r, ln, lp, lr] (upd Ha lp (.lst (ps.map optV ++ [.int i0]))) := ala.upd
        generalize upd Ha lp (.lst (ps.map optV ++ [.int i0])) = Hb at *
        have hblr : Hb lr = some (.lst vt) := by rw [nb lr na3.symm, na lr na2.symm]; exact hglr
        repeat' (first | (with_reducible refine wp_bm ?_) | (with_reducible refine wp_bm0 ?_) | walk_at "st")
        refine ⟨tyL hblr, ?_⟩
        repeat' (first | walk_at "st")
        refine ⟨lr, _, _, rfl, rfl, hblr, (by rw [sizeLine_eq]; omega), ?_⟩
        have fc : Fr [d, p, r, ln, lp, lr] Hb (upd Hb lr (.lst (vt ++ [.ref at_]))) := Fr.upd mlr
        have nc : ∀ m, m ≠ lr → upd Hb lr (.lst (vt ++ [.ref at_])) m = Hb m := fun m hm => upd_ne hm
        have hclr : upd Hb lr (HO.lst (vt ++ [.ref at_])) lr = some (.lst (vt ++ [.ref at_])) := upd_same
        have alc : AllL [d, p, r, ln, lp, lr] (upd Hb lr (.lst (vt ++ [.ref at_]))) := alb.upd
        generalize upd Hb lr (.lst (vt ++ [.ref at_])) = Hc at *
        have fgc : Fr [d, p, r, ln, lp, lr] Hg Hc := fa.trans (fb.trans fc)
        have f1c : Fr [d, p, r, ln, lp, lr] H1 Hc := fng.trans fgc
        have f0c : Fr [d, p, r, ln, lp, lr] H Hc := s1.fr.trans f1c
        have hclp : Hc lp = some (.lst (ps.map optV ++ [.int i0])) := by rw [nc lp na3]; exact hblp
        have hcln : Hc ln = some (.lst (ks.map V.int ++ [.int k'])) := by rw [nc ln na2, nb ln na1]; exact haln
        have e_ln : (ks ++ [k']).map V.int = ks.map V.int ++ [.int k'] := by rw [List.map_append]; rfl
        have e_lp : (ps ++ [some i0]).map optV = ps.map optV ++ [.int i0] := by rw [List.map_append]; rfl
        have lnew : (ks ++ [k']).length = ks.length + 1 := by rw [List.length_append, List.length_singleton]
        have Ic : LI c e Hc x d p r ln lp lr (ks ++ [k']) (ps ++ [some i0]) (rs ++ [ds]) (vt ++ [.ref at_]) :=
          ⟨B2.fr fgc alc (by rw [nc d n7.symm, nb d n4.symm, na d n1.symm]) (by rw [nc p n8.symm, nb p n5.symm, na p n2.symm]) (by rw [nc r n9.symm, nb r n6.symm, na r n3.symm]),
           I.L.snoc I.B.lp I.B.lr I.pos hch hne (by omega), by rw [e_ln]; exact hcln, by rw [e_lp]; exact hclp, hclr,
           Paired.app (Paired.mapP I.pt fun _ _ z => z.fr I.B.al f0c) (.cons ⟨at_, ut, rfl, hatM, f1c _ _ hatM h1, Paired.mapP put fun _ _ z => z.fr al1 f1c⟩ .nil), I.nd, by omega⟩
        repeat' (first | ((with_reducible refine' wp_lenL ?ha ?_); (case ha => exact sq_of (by walk_at "ats"))) | walk_at "st")
        refine ⟨x, lp, lr, ks.length, [d, p, r, ln, lp, lr], d, p, r, _, _, _, _, ?_, Ic.B, Ic.L, Ic.hlp, Ic.hlr, Ic.pt, by omega, fun Hd sd => ?_⟩
        · have e9 : (((ps.map optV ++ [V.int i0]).length : Nat) : Int) - 1 = (ks.length : Int) := by rw [List.length_append, List.length_singleton]; omega
          rw [e9]
        have hdlp := sd _ _ hclp
        have lp9 : (ps.map optV ++ [V.int i0]).length = ks.length + 1 := by rw [List.length_append, List.length_singleton]; omega
        repeat' (first | ((with_reducible refine' wp_lenL ?ha ?_); (case ha => exact sq_of (by walk_at "ats"))) | walk_at "st")
        obtain ⟨j9, ej9, hj9⟩ := emod_nat (z := z / 6 / 3) (n := (ps.map optV ++ [V.int i0]).length) (by omega)
        rw [ej9]
        have Id := Ic.same sd
        refine ⟨x, lp, lr, j9, [d, p, r, ln, lp, lr], d, p, r, _, _, _, _, rfl, Id.B, Id.L, Id.hlp, Id.hlr, Id.pt, by omega, fun He se => ?_⟩
        repeat' (first | walk_at "st")
        exact ⟨F.trans (f0c.trans (sd.trans se).fr), _, _, _, _, _, _, _, _, _, Id.same se, by omega, rfl⟩
      · have s02r : Same H2 H2 := Same.refl _
        have sH1H2 := s12
        refine ⟨x, _, ar, accr, ds, [d, p, r, ln, lp, lr], d, p, r, ks, ps, rs, rfl, I.B.same s02, s02r _ _ h2r, Paired.mapP pr2 fun _ _ z => z.same s02r, fun hg => absurd (⟨by omega, by omega⟩ : Good ks.length (i0 : Int)) hg, fun _ hz => absurd hz hacc, fun _ _ => ⟨harM, by omega, by omega, i0, kk, k', rfl, hkk, hch, fun Hg fg og B2 => ?_⟩⟩
        have hgln : Hg ln = some (.lst (ks.map V.int)) := by rw [og ln mln n1 n2 n3]; exact s02 _ _ I.hln
        have hglp : Hg lp = some (.lst (ps.map optV)) := by rw [og lp mlp n4 n5 n6]; exact s02 _ _ I.hlp
        have hglr : Hg lr = some (.lst vt) := by rw [og lr mlr n7 n8 n9]; exact s02 _ _ I.hlr
        have fng : Fr [d, p, r, ln, lp, lr] H1 Hg := (sH1H2).fr.trans fg
        have hgt : Hg at_ = some (.lst ut) := fng _ _ hatM h1
        have al1 := I.B.al.same s1
        have putg : Paired (IsT Hg) ut ds := Paired.mapP put fun _ _ z => z.fr al1 fng
        obtain ⟨o9, hlast⟩ := hch.last hne
        obtain ⟨tl, etl, rtl⟩ := last_T putg hlast
        obtain ⟨a9, x9, y9, rfl, ha9, _⟩ := id rtl
        repeat' (first | (with_reducible refine use_is ?_) | ((with_reducible refine' wp_lenL ?ha ?_); (case ha => exact sq_of (by walk_at "ats"))) | (with_reducible refine wp_bm ?_) | (with_reducible refine wp_bm0 ?_) | walk_at "st")
        refine ⟨tyL hgln, ?_⟩
        repeat' (first | ((with_reducible refine' wp_ixL ?ha ?hv ?_); (case ha => exact sq_of (by walk_at "ats")); (case hv => first | assumption | exact rfl)) | walk_at "st")
        refine ⟨ln, _, _, rfl, rfl, hgln, (by rw [sizeLine_eq]; omega), ?_⟩
        have fa : Fr [d, p, r, ln, lp, lr] Hg (upd Hg ln (.lst (ks.map V.int ++ [.int k']))) := Fr.upd mln
        have na : ∀ m, m ≠ ln → upd Hg ln (.lst (ks.map V.int ++ [.int k'])) m = Hg m := fun m hm => upd_ne hm
        have haln : upd Hg ln (HO.lst (ks.map V.int ++ [.int k'])) ln = some (.lst (ks.map V.int ++ [.int k'])) := upd_same
        have ala : AllL [d, p, r, ln, lp, lr] (upd Hg ln (.lst (ks.map V.int ++ [.int k']))) := B2.al.upd
        generalize upd Hg ln (.lst (ks.map V.int ++ [.int k'])) = Ha at *
        have halp : Ha lp = some (.lst (ps.map optV)) := by rw [na lp na1.symm]; exact hglp
        repeat' (first | (with_reducible refine wp_bm ?_) | (with_reducible refine wp_bm0 ?_) | walk_at "st")
        refine ⟨tyL halp, ?_⟩
        repeat' (first | walk_at "st")
        refine ⟨lp, _, _, rfl, rfl, halp, (by rw [sizeLine_eq]; omega), ?_⟩
        have fb : Fr [d, p, r, ln, lp, lr] Ha (upd Ha lp (.lst (ps.map optV ++ [.int i0]))) := Fr.upd mlp
        have nb : ∀ m, m ≠ lp → upd Ha lp (.lst (ps.map optV ++ [.int i0])) m = Ha m := fun m hm => upd_ne hm
        have hblp : upd Ha lp (HO.lst (ps.map optV ++ [.int i0])) lp = some (.lst (ps.map optV ++ [.int i0])) := upd_same
        have alb : AllL [d, p, r, ln, lp, lr] (upd Ha lp (.lst (ps.map optV ++ [.int i0]))) := ala.upd
        generalize upd Ha lp (.lst (ps.map optV ++ [.int i0])) = Hb at *
        have hblr : Hb lr = some (.lst vt) := by rw [nb lr na3.symm, na lr na2.symm]; exact hglr
        repeat' (first | (with_reducible refine wp_bm ?_) | (with_reducible refine wp_bm0 ?_) | walk_at "st")
        refine ⟨tyL hblr, ?_⟩
        repeat' (first | walk_at "st")
        refine ⟨lr, _, _, rfl, rfl, hblr, (by rw [sizeLine_eq]; omega), ?_⟩
        have fc : Fr [d, p, r, ln, lp, lr] Hb (upd Hb lr (.lst (vt ++ [.ref at_]))) := Fr.upd mlr
        have nc : ∀ m, m ≠ lr → upd Hb lr (.lst (vt ++ [.ref at_])) m = Hb m := fun m hm => upd_ne hm
        have hclr : upd Hb lr (HO.lst (vt ++ [.ref at_])) lr = some (.lst (vt ++ [.ref at_])) := upd_same
        have alc : AllL [d, p, r, ln, lp, lr] (upd Hb lr (.lst (vt ++ [.ref at_]))) := alb.upd
        generalize upd Hb lr (.lst (vt ++ [.ref at_])) = Hc at *
        have fgc : Fr [d, p, r, ln, lp, lr] Hg Hc := fa.trans (fb.trans fc)
        have f1c : Fr [d, p, r, ln, lp, lr] H1 Hc := fng.trans fgc
        have f0c : Fr [d, p, r, ln, lp, lr] H Hc := s1.fr.trans f1c
        have hclp : Hc lp = some (.lst (ps.map optV ++ [.int i0])) := by rw [nc lp na3]; exact hblp
        have hcln : Hc ln = some (.lst (ks.map V.int ++ [.int k'])) := by rw [nc ln na2, nb ln na1]; exact haln
        have e_ln : (ks ++ [k']).map V.int = ks.map V.int ++ [.int k'] := by rw [List.map_append]; rfl
        have e_lp : (ps ++ [some i0]).map optV = ps.map optV ++ [.int i0] := by rw [List.map_append]; rfl
        have lnew : (ks ++ [k']).length = ks.length + 1 := by rw [List.length_append, List.length_singleton]
        have Ic : LI c e Hc x d p r ln lp lr (ks ++ [k']) (ps ++ [some i0]) (rs ++ [ds]) (vt ++ [.ref at_]) :=
          ⟨B2.fr fgc alc (by rw [nc d n7.symm, nb d n4.symm, na d n1.symm]) (by rw [nc p n8.symm, nb p n5.symm, na p n2.symm]) (by rw [nc r n9.symm, nb r n6.symm, na r n3.symm]),
           I.L.snoc I.B.lp I.B.lr I.pos hch hne (by omega), by rw [e_ln]; exact hcln, by rw [e_lp]; exact hclp, hclr,
           Paired.app (Paired.mapP I.pt fun _ _ z => z.fr I.B.al f0c) (.cons ⟨at_, ut, rfl, hatM, f1c _ _ hatM h1, Paired.mapP put fun _ _ z => z.fr al1 f1c⟩ .nil), I.nd, by omega⟩
        repeat' (first | ((with_reducible refine' wp_lenL ?ha ?_); (case ha => exact sq_of (by walk_at "ats"))) | walk_at "st")
        refine ⟨x, lp, lr, ks.length, [d, p, r, ln, lp, lr], d, p, r, _, _, _, _, ?_, Ic.B, Ic.L, Ic.hlp, Ic.hlr, Ic.pt, by omega, fun Hd sd => ?_⟩
        · have e9 : (((ps.map optV ++ [V.int i0]).length : Nat) : Int) - 1 = (ks.length : Int) := by rw [List.length_append, List.length_singleton]; omega
          rw [e9]
        have hdlp := sd _ _ hclp
        have lp9 : (ps.map optV ++ [V.int i0]).length = ks.length + 1 := by rw [List.length_append, List.length_singleton]; omega
        repeat' (first | ((with_reducible refine' wp_lenL ?ha ?_); (case ha => exact sq_of (by walk_at "ats"))) | walk_at "st")
        obtain ⟨j9, ej9, hj9⟩ := emod_nat (z := z / 6 / 3) (n := (ps.map optV ++ [V.int i0]).length) (by omega)
        rw [ej9]
        have Id := Ic.same sd
        refine ⟨x, lp, lr, j9, [d, p, r, ln, lp, lr], d, p, r, _, _, _, _, rfl, Id.B, Id.L, Id.hlp, Id.hlr, Id.pt, by omega, fun He se => ?_⟩
        repeat' (first | walk_at "st")
        exact ⟨F.trans (f0c.trans (sd.trans se).fr), _, _, _, _, _, _, _, _, _, Id.same se, by omega, rfl⟩
    · rintro _ H ⟨F, ks, ps, rs, vt, o5, o6, o7, o8, o9, I, hkl, rfl⟩
      repeat' (first | walk_at "st")
      refine ⟨x, lp, lr, 0, [d, p, r, ln, lp, lr], d, p, r, ks, ps, rs, vt, rfl, I.B, I.L, I.hlp, I.hlr, I.pt, I.pos, fun H' _ => k _⟩
end
theorem all_mk {l : PySem.W.OpenLaw} {w : World} {K : PySem.W.Frag} {h : Heap} {mg : Str → Option Value} {fa f0 f1 f2 f3 f4 f5 f6 f7 f8 f9 f10 f11 f_Bough___init__ f_Bough_many f_Bough_grow f_Bough_doc f_Bough_parent f_Bough_row f_Bough_line f_Bough_must_have f_Set___init__ f_Set_fits f_Set_made f_Set_told f_Set_done CSet CBough CBoughError CClash CEmpty CHangs CNoDeed CNoRoom CNoStand CNoText CNoWord CTwice CUnfit : Addr} (X : K.In h) (G : h.Ns mainGlobals mg) (hfa : mg "law" = some (.ref fa))
    {od0 an0 od1 an1 od2 an2 od3 an3 od4 an4 od5 an5 od6 an6 od7 an7 od8 an8 od9 an9 od10 an10 od11 an11 od_Bough___init__ an_Bough___init__ od_Bough_many an_Bough_many od_Bough_grow an_Bough_grow od_Bough_doc an_Bough_doc od_Bough_parent an_Bough_parent od_Bough_row an_Bough_row od_Bough_line an_Bough_line od_Bough_must_have an_Bough_must_have od_Set___init__ an_Set___init__ od_Set_fits an_Set_fits od_Set_made an_Set_made od_Set_told an_Set_told od_Set_done an_Set_done : Option Addr} {sl0 sl1 sl2 sl3 sl4 sl5 sl6 sl7 sl8 sl9 sl10 sl11 sl_Bough___init__ sl_Bough_many sl_Bough_grow sl_Bough_doc sl_Bough_parent sl_Bough_row sl_Bough_line sl_Bough_must_have sl_Set___init__ sl_Set_fits sl_Set_made sl_Set_told sl_Set_done : Array (Option Value)} {oc0 kV0 dc0 pm0 cd0 ct0 oc1 kV1 dc1 pm1 cd1 ct1 oc2 kV2 dc2 pm2 cd2 ct2 oc3 kV3 dc3 pm3 cd3 ct3 oc4 kV4 dc4 pm4 cd4 ct4 oc5 kV5 dc5 pm5 cd5 ct5 oc6 kV6 dc6 pm6 cd6 ct6 oc7 kV7 dc7 pm7 cd7 ct7 oc8 kV8 dc8 pm8 cd8 ct8 oc9 kV9 dc9 pm9 cd9 ct9 oc10 kV10 dc10 pm10 cd10 ct10 oc11 kV11 dc11 pm11 cd11 ct11 oc_Bough___init__ kV_Bough___init__ dc_Bough___init__ pm_Bough___init__ cd_Bough___init__ ct_Bough___init__ oc_Bough_many kV_Bough_many dc_Bough_many pm_Bough_many cd_Bough_many ct_Bough_many oc_Bough_grow kV_Bough_grow dc_Bough_grow pm_Bough_grow cd_Bough_grow ct_Bough_grow oc_Bough_doc kV_Bough_doc dc_Bough_doc pm_Bough_doc cd_Bough_doc ct_Bough_doc oc_Bough_parent kV_Bough_parent dc_Bough_parent pm_Bough_parent cd_Bough_parent ct_Bough_parent oc_Bough_row kV_Bough_row dc_Bough_row pm_Bough_row cd_Bough_row ct_Bough_row oc_Bough_line kV_Bough_line dc_Bough_line pm_Bough_line cd_Bough_line ct_Bough_line oc_Bough_must_have kV_Bough_must_have dc_Bough_must_have pm_Bough_must_have cd_Bough_must_have ct_Bough_must_have oc_Set___init__ kV_Set___init__ dc_Set___init__ pm_Set___init__ cd_Set___init__ ct_Set___init__ oc_Set_fits kV_Set_fits dc_Set_fits pm_Set_fits cd_Set_fits ct_Set_fits oc_Set_made kV_Set_made dc_Set_made pm_Set_made cd_Set_made ct_Set_made oc_Set_told kV_Set_told dc_Set_told pm_Set_told cd_Set_told ct_Set_told oc_Set_done kV_Set_done dc_Set_done pm_Set_done cd_Set_done ct_Set_done : Value} {cxNoStand cxEmpty : ClassData}
    (aCSet : PySem.W.nsIn K mainGlobals "Set" = some (some (.ref CSet)))
    (aCBough : PySem.W.nsIn K mainGlobals "Bough" = some (some (.ref CBough)))
    (aCBoughError : PySem.W.nsIn K mainGlobals "BoughError" = some (some (.ref CBoughError)))
    (aCClash : PySem.W.nsIn K mainGlobals "Clash" = some (some (.ref CClash)))
    (aCEmpty : PySem.W.nsIn K mainGlobals "Empty" = some (some (.ref CEmpty)))
    (aCHangs : PySem.W.nsIn K mainGlobals "Hangs" = some (some (.ref CHangs)))
    (aCNoDeed : PySem.W.nsIn K mainGlobals "NoDeed" = some (some (.ref CNoDeed)))
    (aCNoRoom : PySem.W.nsIn K mainGlobals "NoRoom" = some (some (.ref CNoRoom)))
    (aCNoStand : PySem.W.nsIn K mainGlobals "NoStand" = some (some (.ref CNoStand)))
    (aCNoText : PySem.W.nsIn K mainGlobals "NoText" = some (some (.ref CNoText)))
    (aCNoWord : PySem.W.nsIn K mainGlobals "NoWord" = some (some (.ref CNoWord)))
    (aCTwice : PySem.W.nsIn K mainGlobals "Twice" = some (some (.ref CTwice)))
    (aCUnfit : PySem.W.nsIn K mainGlobals "Unfit" = some (some (.ref CUnfit)))
    (a0 : PySem.W.nsIn K mainGlobals "is_whole" = some (some (.ref f0)))
    (l0 : K.lookup f0 = some ⟨oc0, od0, .func (PySem.W.fnOf "is_whole" "is_whole" (defArgs sis_whole) (defBody sis_whole) (defScope sis_whole) .none kV0 dc0 pm0 an0 cd0 ct0), sl0⟩)
    (c0 : PySem.W.codeIn K cd0 "is_whole" = true)
    (k0 : PySem.W.keepIn K (.ref f0) = true)
    (a1 : PySem.W.nsIn K mainGlobals "row_done" = some (some (.ref f1)))
    (l1 : K.lookup f1 = some ⟨oc1, od1, .func (PySem.W.fnOf "row_done" "row_done" (defArgs srow_done) (defBody srow_done) (defScope srow_done) .none kV1 dc1 pm1 an1 cd1 ct1), sl1⟩)
    (c1 : PySem.W.codeIn K cd1 "row_done" = true)
    (k1 : PySem.W.keepIn K (.ref f1) = true)
    (a2 : PySem.W.nsIn K mainGlobals "_law_at" = some (some (.ref f2)))
    (l2 : K.lookup f2 = some ⟨oc2, od2, .func (PySem.W.fnOf "_law_at" "_law_at" (defArgs s_law_at) (defBody s_law_at) (defScope s_law_at) .none kV2 dc2 pm2 an2 cd2 ct2), sl2⟩)
    (c2 : PySem.W.codeIn K cd2 "_law_at" = true)
    (k2 : PySem.W.keepIn K (.ref f2) = true)
    (a3 : PySem.W.nsIn K mainGlobals "_law_is" = some (some (.ref f3)))
    (l3 : K.lookup f3 = some ⟨oc3, od3, .func (PySem.W.fnOf "_law_is" "_law_is" (defArgs s_law_is) (defBody s_law_is) (defScope s_law_is) .none kV3 dc3 pm3 an3 cd3 ct3), sl3⟩)
    (c3 : PySem.W.codeIn K cd3 "_law_is" = true)
    (k3 : PySem.W.keepIn K (.ref f3) = true)
    (a4 : PySem.W.nsIn K mainGlobals "_law_number" = some (some (.ref f4)))
    (l4 : K.lookup f4 = some ⟨oc4, od4, .func (PySem.W.fnOf "_law_number" "_law_number" (defArgs s_law_number) (defBody s_law_number) (defScope s_law_number) .none kV4 dc4 pm4 an4 cd4 ct4), sl4⟩)
    (c4 : PySem.W.codeIn K cd4 "_law_number" = true)
    (k4 : PySem.W.keepIn K (.ref f4) = true)
    (a5 : PySem.W.nsIn K mainGlobals "_law_kind" = some (some (.ref f5)))
    (l5 : K.lookup f5 = some ⟨oc5, od5, .func (PySem.W.fnOf "_law_kind" "_law_kind" (defArgs s_law_kind) (defBody s_law_kind) (defScope s_law_kind) .none kV5 dc5 pm5 an5 cd5 ct5), sl5⟩)
    (c5 : PySem.W.codeIn K cd5 "_law_kind" = true)
    (k5 : PySem.W.keepIn K (.ref f5) = true)
    (a6 : PySem.W.nsIn K mainGlobals "_law_asked" = some (some (.ref f6)))
    (l6 : K.lookup f6 = some ⟨oc6, od6, .func (PySem.W.fnOf "_law_asked" "_law_asked" (defArgs s_law_asked) (defBody s_law_asked) (defScope s_law_asked) .none kV6 dc6 pm6 an6 cd6 ct6), sl6⟩)
    (c6 : PySem.W.codeIn K cd6 "_law_asked" = true)
    (k6 : PySem.W.keepIn K (.ref f6) = true)
    (a7 : PySem.W.nsIn K mainGlobals "_law_refused" = some (some (.ref f7)))
    (l7 : K.lookup f7 = some ⟨oc7, od7, .func (PySem.W.fnOf "_law_refused" "_law_refused" (defArgs s_law_refused) (defBody s_law_refused) (defScope s_law_refused) .none kV7 dc7 pm7 an7 cd7 ct7), sl7⟩)
    (c7 : PySem.W.codeIn K cd7 "_law_refused" = true)
    (k7 : PySem.W.keepIn K (.ref f7) = true)
    (a8 : PySem.W.nsIn K mainGlobals "_law_row" = some (some (.ref f8)))
    (l8 : K.lookup f8 = some ⟨oc8, od8, .func (PySem.W.fnOf "_law_row" "_law_row" (defArgs s_law_row) (defBody s_law_row) (defScope s_law_row) .none kV8 dc8 pm8 an8 cd8 ct8), sl8⟩)
    (c8 : PySem.W.codeIn K cd8 "_law_row" = true)
    (k8 : PySem.W.keepIn K (.ref f8) = true)
    (a9 : PySem.W.nsIn K mainGlobals "_law_line" = some (some (.ref f9)))
    (l9 : K.lookup f9 = some ⟨oc9, od9, .func (PySem.W.fnOf "_law_line" "_law_line" (defArgs s_law_line) (defBody s_law_line) (defScope s_law_line) .none kV9 dc9 pm9 an9 cd9 ct9), sl9⟩)
    (c9 : PySem.W.codeIn K cd9 "_law_line" = true)
    (k9 : PySem.W.keepIn K (.ref f9) = true)
    (a10 : PySem.W.nsIn K mainGlobals "_law_look" = some (some (.ref f10)))
    (l10 : K.lookup f10 = some ⟨oc10, od10, .func (PySem.W.fnOf "_law_look" "_law_look" (defArgs s_law_look) (defBody s_law_look) (defScope s_law_look) .none kV10 dc10 pm10 an10 cd10 ct10), sl10⟩)
    (c10 : PySem.W.codeIn K cd10 "_law_look" = true)
    (k10 : PySem.W.keepIn K (.ref f10) = true)
    (a11 : PySem.W.nsIn K mainGlobals "law" = some (some (.ref f11)))
    (l11 : K.lookup f11 = some ⟨oc11, od11, .func (PySem.W.fnOf "law" "law" (defArgs slaw) (defBody slaw) (defScope slaw) .none kV11 dc11 pm11 an11 cd11 ct11), sl11⟩)
    (c11 : PySem.W.codeIn K cd11 "law" = true)
    (k11 : PySem.W.keepIn K (.ref f11) = true)
    (a_Bough___init__ : PySem.W.findIn K (.ref CBough) "__init__" = some (some (.ref f_Bough___init__)))
    (i_Bough___init__ : PySem.W.isFn K (.ref f_Bough___init__) = true)
    (l_Bough___init__ : K.lookup f_Bough___init__ = some ⟨oc_Bough___init__, od_Bough___init__, .func (PySem.W.fnOf "__init__" "Bough.__init__" (defArgs sBough___init__) (defBody sBough___init__) (defScope sBough___init__) .none kV_Bough___init__ dc_Bough___init__ pm_Bough___init__ an_Bough___init__ cd_Bough___init__ ct_Bough___init__), sl_Bough___init__⟩)
    (c_Bough___init__ : PySem.W.codeIn K cd_Bough___init__ "Bough.__init__" = true)
    (k_Bough___init__ : PySem.W.keepIn K (.ref f_Bough___init__) = true)
    (a_Bough_many : PySem.W.findIn K (.ref CBough) "many" = some (some (.ref f_Bough_many)))
    (i_Bough_many : PySem.W.isFn K (.ref f_Bough_many) = true)
    (l_Bough_many : K.lookup f_Bough_many = some ⟨oc_Bough_many, od_Bough_many, .func (PySem.W.fnOf "many" "Bough.many" (defArgs sBough_many) (defBody sBough_many) (defScope sBough_many) .none kV_Bough_many dc_Bough_many pm_Bough_many an_Bough_many cd_Bough_many ct_Bough_many), sl_Bough_many⟩)
    (c_Bough_many : PySem.W.codeIn K cd_Bough_many "Bough.many" = true)
    (k_Bough_many : PySem.W.keepIn K (.ref f_Bough_many) = true)
    (a_Bough_grow : PySem.W.findIn K (.ref CBough) "grow" = some (some (.ref f_Bough_grow)))
    (i_Bough_grow : PySem.W.isFn K (.ref f_Bough_grow) = true)
    (l_Bough_grow : K.lookup f_Bough_grow = some ⟨oc_Bough_grow, od_Bough_grow, .func (PySem.W.fnOf "grow" "Bough.grow" (defArgs sBough_grow) (defBody sBough_grow) (defScope sBough_grow) .none kV_Bough_grow dc_Bough_grow pm_Bough_grow an_Bough_grow cd_Bough_grow ct_Bough_grow), sl_Bough_grow⟩)
    (c_Bough_grow : PySem.W.codeIn K cd_Bough_grow "Bough.grow" = true)
    (k_Bough_grow : PySem.W.keepIn K (.ref f_Bough_grow) = true)
    (a_Bough_doc : PySem.W.findIn K (.ref CBough) "doc" = some (some (.ref f_Bough_doc)))
    (i_Bough_doc : PySem.W.isFn K (.ref f_Bough_doc) = true)
    (l_Bough_doc : K.lookup f_Bough_doc = some ⟨oc_Bough_doc, od_Bough_doc, .func (PySem.W.fnOf "doc" "Bough.doc" (defArgs sBough_doc) (defBody sBough_doc) (defScope sBough_doc) .none kV_Bough_doc dc_Bough_doc pm_Bough_doc an_Bough_doc cd_Bough_doc ct_Bough_doc), sl_Bough_doc⟩)
    (c_Bough_doc : PySem.W.codeIn K cd_Bough_doc "Bough.doc" = true)
    (k_Bough_doc : PySem.W.keepIn K (.ref f_Bough_doc) = true)
    (a_Bough_parent : PySem.W.findIn K (.ref CBough) "parent" = some (some (.ref f_Bough_parent)))
    (i_Bough_parent : PySem.W.isFn K (.ref f_Bough_parent) = true)
    (l_Bough_parent : K.lookup f_Bough_parent = some ⟨oc_Bough_parent, od_Bough_parent, .func (PySem.W.fnOf "parent" "Bough.parent" (defArgs sBough_parent) (defBody sBough_parent) (defScope sBough_parent) .none kV_Bough_parent dc_Bough_parent pm_Bough_parent an_Bough_parent cd_Bough_parent ct_Bough_parent), sl_Bough_parent⟩)
    (c_Bough_parent : PySem.W.codeIn K cd_Bough_parent "Bough.parent" = true)
    (k_Bough_parent : PySem.W.keepIn K (.ref f_Bough_parent) = true)
    (a_Bough_row : PySem.W.findIn K (.ref CBough) "row" = some (some (.ref f_Bough_row)))
    (i_Bough_row : PySem.W.isFn K (.ref f_Bough_row) = true)
    (l_Bough_row : K.lookup f_Bough_row = some ⟨oc_Bough_row, od_Bough_row, .func (PySem.W.fnOf "row" "Bough.row" (defArgs sBough_row) (defBody sBough_row) (defScope sBough_row) .none kV_Bough_row dc_Bough_row pm_Bough_row an_Bough_row cd_Bough_row ct_Bough_row), sl_Bough_row⟩)
    (c_Bough_row : PySem.W.codeIn K cd_Bough_row "Bough.row" = true)
    (k_Bough_row : PySem.W.keepIn K (.ref f_Bough_row) = true)
    (a_Bough_line : PySem.W.findIn K (.ref CBough) "line" = some (some (.ref f_Bough_line)))
    (i_Bough_line : PySem.W.isFn K (.ref f_Bough_line) = true)
    (l_Bough_line : K.lookup f_Bough_line = some ⟨oc_Bough_line, od_Bough_line, .func (PySem.W.fnOf "line" "Bough.line" (defArgs sBough_line) (defBody sBough_line) (defScope sBough_line) .none kV_Bough_line dc_Bough_line pm_Bough_line an_Bough_line cd_Bough_line ct_Bough_line), sl_Bough_line⟩)
    (c_Bough_line : PySem.W.codeIn K cd_Bough_line "Bough.line" = true)
    (k_Bough_line : PySem.W.keepIn K (.ref f_Bough_line) = true)
    (a_Bough_must_have : PySem.W.findIn K (.ref CBough) "must_have" = some (some (.ref f_Bough_must_have)))
    (i_Bough_must_have : PySem.W.isFn K (.ref f_Bough_must_have) = true)
    (l_Bough_must_have : K.lookup f_Bough_must_have = some ⟨oc_Bough_must_have, od_Bough_must_have, .func (PySem.W.fnOf "must_have" "Bough.must_have" (defArgs sBough_must_have) (defBody sBough_must_have) (defScope sBough_must_have) .none kV_Bough_must_have dc_Bough_must_have pm_Bough_must_have an_Bough_must_have cd_Bough_must_have ct_Bough_must_have), sl_Bough_must_have⟩)
    (c_Bough_must_have : PySem.W.codeIn K cd_Bough_must_have "Bough.must_have" = true)
    (k_Bough_must_have : PySem.W.keepIn K (.ref f_Bough_must_have) = true)
    (a_Set___init__ : PySem.W.findIn K (.ref CSet) "__init__" = some (some (.ref f_Set___init__)))
    (i_Set___init__ : PySem.W.isFn K (.ref f_Set___init__) = true)
    (l_Set___init__ : K.lookup f_Set___init__ = some ⟨oc_Set___init__, od_Set___init__, .func (PySem.W.fnOf "__init__" "Set.__init__" (defArgs sSet___init__) (defBody sSet___init__) (defScope sSet___init__) .none kV_Set___init__ dc_Set___init__ pm_Set___init__ an_Set___init__ cd_Set___init__ ct_Set___init__), sl_Set___init__⟩)
    (c_Set___init__ : PySem.W.codeIn K cd_Set___init__ "Set.__init__" = true)
    (k_Set___init__ : PySem.W.keepIn K (.ref f_Set___init__) = true)
    (a_Set_fits : PySem.W.findIn K (.ref CSet) "fits" = some (some (.ref f_Set_fits)))
    (i_Set_fits : PySem.W.isFn K (.ref f_Set_fits) = true)
    (l_Set_fits : K.lookup f_Set_fits = some ⟨oc_Set_fits, od_Set_fits, .func (PySem.W.fnOf "fits" "Set.fits" (defArgs sSet_fits) (defBody sSet_fits) (defScope sSet_fits) .none kV_Set_fits dc_Set_fits pm_Set_fits an_Set_fits cd_Set_fits ct_Set_fits), sl_Set_fits⟩)
    (c_Set_fits : PySem.W.codeIn K cd_Set_fits "Set.fits" = true)
    (k_Set_fits : PySem.W.keepIn K (.ref f_Set_fits) = true)
    (a_Set_made : PySem.W.findIn K (.ref CSet) "made" = some (some (.ref f_Set_made)))
    (i_Set_made : PySem.W.isFn K (.ref f_Set_made) = true)
    (l_Set_made : K.lookup f_Set_made = some ⟨oc_Set_made, od_Set_made, .func (PySem.W.fnOf "made" "Set.made" (defArgs sSet_made) (defBody sSet_made) (defScope sSet_made) .none kV_Set_made dc_Set_made pm_Set_made an_Set_made cd_Set_made ct_Set_made), sl_Set_made⟩)
    (c_Set_made : PySem.W.codeIn K cd_Set_made "Set.made" = true)
    (k_Set_made : PySem.W.keepIn K (.ref f_Set_made) = true)
    (a_Set_told : PySem.W.findIn K (.ref CSet) "told" = some (some (.ref f_Set_told)))
    (i_Set_told : PySem.W.isFn K (.ref f_Set_told) = true)
    (l_Set_told : K.lookup f_Set_told = some ⟨oc_Set_told, od_Set_told, .func (PySem.W.fnOf "told" "Set.told" (defArgs sSet_told) (defBody sSet_told) (defScope sSet_told) .none kV_Set_told dc_Set_told pm_Set_told an_Set_told cd_Set_told ct_Set_told), sl_Set_told⟩)
    (c_Set_told : PySem.W.codeIn K cd_Set_told "Set.told" = true)
    (k_Set_told : PySem.W.keepIn K (.ref f_Set_told) = true)
    (a_Set_done : PySem.W.findIn K (.ref CSet) "done" = some (some (.ref f_Set_done)))
    (i_Set_done : PySem.W.isFn K (.ref f_Set_done) = true)
    (l_Set_done : K.lookup f_Set_done = some ⟨oc_Set_done, od_Set_done, .func (PySem.W.fnOf "done" "Deed.done" (defArgs sDeed_done) (defBody sDeed_done) (defScope sDeed_done) .none kV_Set_done dc_Set_done pm_Set_done an_Set_done cd_Set_done ct_Set_done), sl_Set_done⟩)
    (c_Set_done : PySem.W.codeIn K cd_Set_done "Deed.done" = true)
    (k_Set_done : PySem.W.keepIn K (.ref f_Set_done) = true)
    (pgSet : PySem.W.plainGet K CSet Str.empty = true)
    (hdSet : PySem.W.hasDictIn K CSet = true)
    (poSet : PySem.W.plainOver K CSet = true)
    (saSet : PySem.W.findIn K (.ref CSet) "__setattr__" = some (some (.builtin "object.__setattr__")))
    (mkSet : PySem.W.makesIn K CSet = true)
    (kcSet : PySem.W.keepIn K (.ref CSet) = true)
    (haSet : PySem.W.findIn K (.ref CSet) "__class__" = some (some (.builtin "object.__class__")))
    (hmSet : PySem.W.mroIn K CSet (.type "object") = some true)
    (pgBough : PySem.W.plainGet K CBough Str.empty = true)
    (hdBough : PySem.W.hasDictIn K CBough = true)
    (poBough : PySem.W.plainOver K CBough = true)
    (saBough : PySem.W.findIn K (.ref CBough) "__setattr__" = some (some (.builtin "object.__setattr__")))
    (mkBough : PySem.W.makesIn K CBough = true)
    (kcBough : PySem.W.keepIn K (.ref CBough) = true)
    (haBough : PySem.W.findIn K (.ref CBough) "__class__" = some (some (.builtin "object.__class__")))
    (hmBough : PySem.W.mroIn K CBough (.type "object") = some true)
    (hn : PySem.W.specialIn K (.builtin "object.__class__") "__get__" = some (some (.builtin "getset_descriptor.__get__")))
    (tk : PySem.W.takesIn K (.builtin "object.__class__") = some true)
    (n_sp : PySem.W.findIn K (.ref CSet) "path" = some none)
    (n_so : PySem.W.findIn K (.ref CSet) "old" = some none)
    (n_sn : PySem.W.findIn K (.ref CSet) "new" = some none)
    (n_bd : PySem.W.findIn K (.ref CBough) "docs" = some none)
    (n_bp : PySem.W.findIn K (.ref CBough) "parents" = some none)
    (n_br : PySem.W.findIn K (.ref CBough) "rows" = some none)
    (n_bg : PySem.W.findIn K (.ref CBough) "given" = some none)
    (z_len : PySem.W.nsIn K mainGlobals "len" = some none)
    (z_range : PySem.W.nsIn K mainGlobals "range" = some none)
    (z_isinstance : PySem.W.nsIn K mainGlobals "isinstance" = some none)
    (z_list : PySem.W.nsIn K mainGlobals "list" = some none)
    (z_dict : PySem.W.nsIn K mainGlobals "dict" = some none)
    (z_int : PySem.W.nsIn K mainGlobals "int" = some none)
    (z_bool : PySem.W.nsIn K mainGlobals "bool" = some none)
    (z_enumerate : PySem.W.nsIn K mainGlobals "enumerate" = some none)
    (z_reversed : PySem.W.nsIn K mainGlobals "reversed" = some none)
    (z_ValueError : PySem.W.nsIn K mainGlobals "ValueError" = some none)
    (xcNoStand : PySem.W.excIn K CNoStand bmV "ValueError.__new__" = true)
    (xgaNoStand : PySem.W.findIn K (.ref CNoStand) "__getattribute__" = some (some (.builtin "BaseException.__getattribute__")))
    (xgtNoStand : PySem.W.findIn K (.ref CNoStand) "__getattr__" = some none)
    (xclNoStand : PySem.W.findIn K (.ref CNoStand) "__class__" = some (some (.builtin "object.__class__")))
    (xobNoStand : PySem.W.mroIn K CNoStand (.type "object") = some true)
    (xbeNoStand : PySem.W.mroIn K CNoStand (.type "BaseException") = some true)
    (xciNoStand : PySem.W.clsIn K CNoStand = some cxNoStand)
    (exNoStand : PySem.W.exmOne K (.ref CNoStand) (.ref CBoughError) = some true)
    (kvNoStand : PySem.W.kitOne K (.ref CNoStand) (.type "ValueError") = some true)
    (qNoStand_Clash : PySem.W.kitOne K (.ref CNoStand) (.ref CClash) = some false)
    (qNoStand_Empty : PySem.W.kitOne K (.ref CNoStand) (.ref CEmpty) = some false)
    (qNoStand_Hangs : PySem.W.kitOne K (.ref CNoStand) (.ref CHangs) = some false)
    (qNoStand_NoDeed : PySem.W.kitOne K (.ref CNoStand) (.ref CNoDeed) = some false)
    (qNoStand_NoRoom : PySem.W.kitOne K (.ref CNoStand) (.ref CNoRoom) = some false)
    (qNoStand_NoStand : PySem.W.kitOne K (.ref CNoStand) (.ref CNoStand) = some true)
    (qNoStand_NoText : PySem.W.kitOne K (.ref CNoStand) (.ref CNoText) = some false)
    (qNoStand_NoWord : PySem.W.kitOne K (.ref CNoStand) (.ref CNoWord) = some false)
    (qNoStand_Twice : PySem.W.kitOne K (.ref CNoStand) (.ref CTwice) = some false)
    (qNoStand_Unfit : PySem.W.kitOne K (.ref CNoStand) (.ref CUnfit) = some false)
    (xcEmpty : PySem.W.excIn K CEmpty bmV "ValueError.__new__" = true)
    (xgaEmpty : PySem.W.findIn K (.ref CEmpty) "__getattribute__" = some (some (.builtin "BaseException.__getattribute__")))
    (xgtEmpty : PySem.W.findIn K (.ref CEmpty) "__getattr__" = some none)
    (xclEmpty : PySem.W.findIn K (.ref CEmpty) "__class__" = some (some (.builtin "object.__class__")))
    (xobEmpty : PySem.W.mroIn K CEmpty (.type "object") = some true)
    (xbeEmpty : PySem.W.mroIn K CEmpty (.type "BaseException") = some true)
    (xciEmpty : PySem.W.clsIn K CEmpty = some cxEmpty)
    (exEmpty : PySem.W.exmOne K (.ref CEmpty) (.ref CBoughError) = some true)
    (kvEmpty : PySem.W.kitOne K (.ref CEmpty) (.type "ValueError") = some true)
    (qEmpty_Clash : PySem.W.kitOne K (.ref CEmpty) (.ref CClash) = some false)
    (qEmpty_Empty : PySem.W.kitOne K (.ref CEmpty) (.ref CEmpty) = some true)
    (qEmpty_Hangs : PySem.W.kitOne K (.ref CEmpty) (.ref CHangs) = some false)
    (qEmpty_NoDeed : PySem.W.kitOne K (.ref CEmpty) (.ref CNoDeed) = some false)
    (qEmpty_NoRoom : PySem.W.kitOne K (.ref CEmpty) (.ref CNoRoom) = some false)
    (qEmpty_NoStand : PySem.W.kitOne K (.ref CEmpty) (.ref CNoStand) = some false)
    (qEmpty_NoText : PySem.W.kitOne K (.ref CEmpty) (.ref CNoText) = some false)
    (qEmpty_NoWord : PySem.W.kitOne K (.ref CEmpty) (.ref CNoWord) = some false)
    (qEmpty_Twice : PySem.W.kitOne K (.ref CEmpty) (.ref CTwice) = some false)
    (qEmpty_Unfit : PySem.W.kitOne K (.ref CEmpty) (.ref CUnfit) = some false)
    : ∃ fd : FuncData, (∀ (s : Shared) (v : Value), BindsTo s fd ⟨[v], []⟩ [("_law_script", v)]) ∧ ∀ base : Heap, K.In base → base.Ns mainGlobals mg → FnOk l.prog w K mg base CX0 8 fa fd ["_law_script"] (spLaw K) := by
  have e := hfa.symm.trans (PySem.W.mg_of X G a11)
  cases e
  let c : Cl := ⟨CSet, CSet, CSet, CSet, CSet⟩
  let e : Ek := ⟨CBough, CBoughError, CClash, CEmpty, CHangs, CNoDeed, CNoRoom, CNoStand, CNoText, CNoWord, CTwice, CUnfit⟩
  have cfSet : CF K CSet := ⟨⟨pgSet, hdSet, poSet, saSet⟩, haSet, hn, tk, hmSet⟩
  have cfBough : CF K CBough := ⟨⟨pgBough, hdBough, poBough, saBough⟩, haBough, hn, tk, hmBough⟩
  have T : Txt K mg c e := {b_len := PySem.W.mg_none_of X G z_len, b_range := PySem.W.mg_none_of X G z_range, b_isinstance := PySem.W.mg_none_of X G z_isinstance, b_list := PySem.W.mg_none_of X G z_list, b_dict := PySem.W.mg_none_of X G z_dict, b_int := PySem.W.mg_none_of X G z_int, b_bool := PySem.W.mg_none_of X G z_bool, b_enumerate := PySem.W.mg_none_of X G z_enumerate, b_reversed := PySem.W.mg_none_of X G z_reversed, b_ValueError := PySem.W.mg_none_of X G z_ValueError, mSet := PySem.W.mg_of X G aCSet, mBough := PySem.W.mg_of X G aCBough, mBoughError := PySem.W.mg_of X G aCBoughError, mClash := PySem.W.mg_of X G aCClash, mEmpty := PySem.W.mg_of X G aCEmpty, mHangs := PySem.W.mg_of X G aCHangs, mNoDeed := PySem.W.mg_of X G aCNoDeed, mNoRoom := PySem.W.mg_of X G aCNoRoom, mNoStand := PySem.W.mg_of X G aCNoStand, mNoText := PySem.W.mg_of X G aCNoText, mNoWord := PySem.W.mg_of X G aCNoWord, mTwice := PySem.W.mg_of X G aCTwice, mUnfit := PySem.W.mg_of X G aCUnfit, cfSet := cfSet, cfBough := cfBough, n_sp := n_sp, n_so := n_so, n_sn := n_sn, n_bd := n_bd, n_bp := n_bp, n_br := n_br, n_bg := n_bg, xcNoStand := xcNoStand, xfNoStand := ⟨xgaNoStand, xgtNoStand, xclNoStand, xobNoStand, xbeNoStand, by show (PySem.W.clsIn K CNoStand).isSome = true; rw [xciNoStand]; rfl⟩, exNoStand := exNoStand, kvNoStand := kvNoStand, kNoStand_Clash := qNoStand_Clash, kNoStand_Empty := qNoStand_Empty, kNoStand_Hangs := qNoStand_Hangs, kNoStand_NoDeed := qNoStand_NoDeed, kNoStand_NoRoom := qNoStand_NoRoom, kNoStand_NoStand := qNoStand_NoStand, kNoStand_NoText := qNoStand_NoText, kNoStand_NoWord := qNoStand_NoWord, kNoStand_Twice := qNoStand_Twice, kNoStand_Unfit := qNoStand_Unfit, xcEmpty := xcEmpty, xfEmpty := ⟨xgaEmpty, xgtEmpty, xclEmpty, xobEmpty, xbeEmpty, by show (PySem.W.clsIn K CEmpty).isSome = true; rw [xciEmpty]; rfl⟩, exEmpty := exEmpty, kvEmpty := kvEmpty, kEmpty_Clash := qEmpty_Clash, kEmpty_Empty := qEmpty_Empty, kEmpty_Hangs := qEmpty_Hangs, kEmpty_NoDeed := qEmpty_NoDeed, kEmpty_NoRoom := qEmpty_NoRoom, kEmpty_NoStand := qEmpty_NoStand, kEmpty_NoText := qEmpty_NoText, kEmpty_NoWord := qEmpty_NoWord, kEmpty_Twice := qEmpty_Twice, kEmpty_Unfit := qEmpty_Unfit}
  have U0 := fun_mk (st := sis_whole) l0 c0 k0
  have B0 := U0.binds (ps := ["thing"]) fun _ _ _ _ _ _ => len1 (fun _ => rfl)
  have Nis_whole : Fn K mg "is_whole" sis_whole ["thing"] := ⟨_, _, U0, PySem.W.mg_of X G a0, B0⟩
  have U1 := fun_mk (st := srow_done) l1 c1 k1
  have B1 := U1.binds (ps := ["doc", "row"]) fun _ _ _ _ _ _ => len2 (fun _ _ => rfl)
  have Nrow_done : Fn K mg "row_done" srow_done ["doc", "row"] := ⟨_, _, U1, PySem.W.mg_of X G a1, B1⟩
  have U2 := fun_mk (st := s_law_at) l2 c2 k2
  have B2 := U2.binds (ps := ["_law_script", "_law_k"]) fun _ _ _ _ _ _ => len2 (fun _ _ => rfl)
  have N_law_at : Fn K mg "_law_at" s_law_at ["_law_script", "_law_k"] := ⟨_, _, U2, PySem.W.mg_of X G a2, B2⟩
  have U3 := fun_mk (st := s_law_is) l3 c3 k3
  have B3 := U3.binds (ps := ["_law_found", "_law_due"]) fun _ _ _ _ _ _ => len2 (fun _ _ => rfl)
  have N_law_is : Fn K mg "_law_is" s_law_is ["_law_found", "_law_due"] := ⟨_, _, U3, PySem.W.mg_of X G a3, B3⟩
  have U4 := fun_mk (st := s_law_number) l4 c4 k4
  have B4 := U4.binds (ps := ["_law_load"]) fun _ _ _ _ _ _ => len1 (fun _ => rfl)
  have N_law_number : Fn K mg "_law_number" s_law_number ["_law_load"] := ⟨_, _, U4, PySem.W.mg_of X G a4, B4⟩
  have U5 := fun_mk (st := s_law_kind) l5 c5 k5
  have B5 := U5.binds (ps := ["_law_e"]) fun _ _ _ _ _ _ => len1 (fun _ => rfl)
  have N_law_kind : Fn K mg "_law_kind" s_law_kind ["_law_e"] := ⟨_, _, U5, PySem.W.mg_of X G a5, B5⟩
  have U6 := fun_mk (st := s_law_asked) l6 c6 k6
  have B6 := U6.binds (ps := ["_law_bough", "_law_door", "_law_stand", "_law_row_here"]) fun _ _ _ _ _ _ => len4 (fun _ _ _ _ => rfl)
  have N_law_asked : Fn K mg "_law_asked" s_law_asked ["_law_bough", "_law_door", "_law_stand", "_law_row_here"] := ⟨_, _, U6, PySem.W.mg_of X G a6, B6⟩
  have U7 := fun_mk (st := s_law_refused) l7 c7 k7
  have B7 := U7.binds (ps := ["_law_bough", "_law_load", "_law_many", "_law_row_here"]) fun _ _ _ _ _ _ => len4 (fun _ _ _ _ => rfl)
  have N_law_refused : Fn K mg "_law_refused" s_law_refused ["_law_bough", "_law_load", "_law_many", "_law_row_here"] := ⟨_, _, U7, PySem.W.mg_of X G a7, B7⟩
  have U8 := fun_mk (st := s_law_row) l8 c8 k8
  have B8 := U8.binds (ps := ["_law_number_here", "_law_load"]) fun _ _ _ _ _ _ => len2 (fun _ _ => rfl)
  have N_law_row : Fn K mg "_law_row" s_law_row ["_law_number_here", "_law_load"] := ⟨_, _, U8, PySem.W.mg_of X G a8, B8⟩
  have U9 := fun_mk (st := s_law_line) l9 c9 k9
  have B9 := U9.binds (ps := ["_law_parents", "_law_stand"]) fun _ _ _ _ _ _ => len2 (fun _ _ => rfl)
  have N_law_line : Fn K mg "_law_line" s_law_line ["_law_parents", "_law_stand"] := ⟨_, _, U9, PySem.W.mg_of X G a9, B9⟩
  have U10 := fun_mk (st := s_law_look) l10 c10 k10
  have B10 := U10.binds (ps := ["_law_bough", "_law_parents", "_law_rows", "_law_stand"]) fun _ _ _ _ _ _ => len4 (fun _ _ _ _ => rfl)
  have N_law_look : Fn K mg "_law_look" s_law_look ["_law_bough", "_law_parents", "_law_rows", "_law_stand"] := ⟨_, _, U10, PySem.W.mg_of X G a10, B10⟩
  have U11 := fun_mk (st := slaw) l11 c11 k11
  have B11 := U11.binds (ps := ["_law_script"]) fun _ _ _ _ _ _ => len1 (fun _ => rfl)
  have Nlaw : Fn K mg "law" slaw ["_law_script"] := ⟨_, _, U11, PySem.W.mg_of X G a11, B11⟩
  have U_Bough___init__ := fun_mk (st := sBough___init__) l_Bough___init__ c_Bough___init__ k_Bough___init__
  have B_Bough___init__ := U_Bough___init__.binds (ps := ["self", "doc"]) fun _ _ _ _ _ _ => len2 (fun _ _ => rfl)
  have N_Bough___init__ : Mt K CBough "__init__" "Bough.__init__" sBough___init__ ["self", "doc"] := ⟨_, _, U_Bough___init__, a_Bough___init__, i_Bough___init__, B_Bough___init__⟩
  have U_Bough_many := fun_mk (st := sBough_many) l_Bough_many c_Bough_many k_Bough_many
  have B_Bough_many := U_Bough_many.binds (ps := ["self"]) fun _ _ _ _ _ _ => len1 (fun _ => rfl)
  have N_Bough_many : Mt K CBough "many" "Bough.many" sBough_many ["self"] := ⟨_, _, U_Bough_many, a_Bough_many, i_Bough_many, B_Bough_many⟩
  have U_Bough_grow := fun_mk (st := sBough_grow) l_Bough_grow c_Bough_grow k_Bough_grow
  have B_Bough_grow := U_Bough_grow.binds (ps := ["self", "stand", "row"]) fun _ _ _ _ _ _ => len3 (fun _ _ _ => rfl)
  have N_Bough_grow : Mt K CBough "grow" "Bough.grow" sBough_grow ["self", "stand", "row"] := ⟨_, _, U_Bough_grow, a_Bough_grow, i_Bough_grow, B_Bough_grow⟩
  have U_Bough_doc := fun_mk (st := sBough_doc) l_Bough_doc c_Bough_doc k_Bough_doc
  have B_Bough_doc := U_Bough_doc.binds (ps := ["self", "stand"]) fun _ _ _ _ _ _ => len2 (fun _ _ => rfl)
  have N_Bough_doc : Mt K CBough "doc" "Bough.doc" sBough_doc ["self", "stand"] := ⟨_, _, U_Bough_doc, a_Bough_doc, i_Bough_doc, B_Bough_doc⟩
  have U_Bough_parent := fun_mk (st := sBough_parent) l_Bough_parent c_Bough_parent k_Bough_parent
  have B_Bough_parent := U_Bough_parent.binds (ps := ["self", "stand"]) fun _ _ _ _ _ _ => len2 (fun _ _ => rfl)
  have N_Bough_parent : Mt K CBough "parent" "Bough.parent" sBough_parent ["self", "stand"] := ⟨_, _, U_Bough_parent, a_Bough_parent, i_Bough_parent, B_Bough_parent⟩
  have U_Bough_row := fun_mk (st := sBough_row) l_Bough_row c_Bough_row k_Bough_row
  have B_Bough_row := U_Bough_row.binds (ps := ["self", "stand"]) fun _ _ _ _ _ _ => len2 (fun _ _ => rfl)
  have N_Bough_row : Mt K CBough "row" "Bough.row" sBough_row ["self", "stand"] := ⟨_, _, U_Bough_row, a_Bough_row, i_Bough_row, B_Bough_row⟩
  have U_Bough_line := fun_mk (st := sBough_line) l_Bough_line c_Bough_line k_Bough_line
  have B_Bough_line := U_Bough_line.binds (ps := ["self", "stand"]) fun _ _ _ _ _ _ => len2 (fun _ _ => rfl)
  have N_Bough_line : Mt K CBough "line" "Bough.line" sBough_line ["self", "stand"] := ⟨_, _, U_Bough_line, a_Bough_line, i_Bough_line, B_Bough_line⟩
  have U_Bough_must_have := fun_mk (st := sBough_must_have) l_Bough_must_have c_Bough_must_have k_Bough_must_have
  have B_Bough_must_have := U_Bough_must_have.binds (ps := ["self", "stand"]) fun _ _ _ _ _ _ => len2 (fun _ _ => rfl)
  have N_Bough_must_have : Mt K CBough "must_have" "Bough.must_have" sBough_must_have ["self", "stand"] := ⟨_, _, U_Bough_must_have, a_Bough_must_have, i_Bough_must_have, B_Bough_must_have⟩
  have U_Set___init__ := fun_mk (st := sSet___init__) l_Set___init__ c_Set___init__ k_Set___init__
  have B_Set___init__ := U_Set___init__.binds (ps := ["self", "path", "old", "new"]) fun _ _ _ _ _ _ => len4 (fun _ _ _ _ => rfl)
  have N_Set___init__ : Mt K CSet "__init__" "Set.__init__" sSet___init__ ["self", "path", "old", "new"] := ⟨_, _, U_Set___init__, a_Set___init__, i_Set___init__, B_Set___init__⟩
  have U_Set_fits := fun_mk (st := sSet_fits) l_Set_fits c_Set_fits k_Set_fits
  have B_Set_fits := U_Set_fits.binds (ps := ["self", "doc"]) fun _ _ _ _ _ _ => len2 (fun _ _ => rfl)
  have N_Set_fits : Mt K CSet "fits" "Set.fits" sSet_fits ["self", "doc"] := ⟨_, _, U_Set_fits, a_Set_fits, i_Set_fits, B_Set_fits⟩
  have U_Set_made := fun_mk (st := sSet_made) l_Set_made c_Set_made k_Set_made
  have B_Set_made := U_Set_made.binds (ps := ["self", "doc"]) fun _ _ _ _ _ _ => len2 (fun _ _ => rfl)
  have N_Set_made : Mt K CSet "made" "Set.made" sSet_made ["self", "doc"] := ⟨_, _, U_Set_made, a_Set_made, i_Set_made, B_Set_made⟩
  have U_Set_told := fun_mk (st := sSet_told) l_Set_told c_Set_told k_Set_told
  have B_Set_told := U_Set_told.binds (ps := ["self"]) fun _ _ _ _ _ _ => len1 (fun _ => rfl)
  have N_Set_told : Mt K CSet "told" "Set.told" sSet_told ["self"] := ⟨_, _, U_Set_told, a_Set_told, i_Set_told, B_Set_told⟩
  have U_Set_done := fun_mk (st := sDeed_done) l_Set_done c_Set_done k_Set_done
  have B_Set_done := U_Set_done.binds (ps := ["self", "doc"]) fun _ _ _ _ _ _ => len2 (fun _ _ => rfl)
  have N_Set_done : Mt K CSet "done" "Deed.done" sDeed_done ["self", "doc"] := ⟨_, _, U_Set_done, a_Set_done, i_Set_done, B_Set_done⟩
  refine ⟨PySem.W.fnOf "law" "law" (defArgs slaw) (defBody slaw) (defScope slaw) .none kV11 dc11 pm11 an11 cd11 ct11, fun s v => .of_eq rfl, fun base _ _ => ?_⟩
  have o_whole := okis_whole (P := l.prog) (w := w) (base := base) (c := c) (e := e) Nis_whole T 
  have o_sinit := okSet___init__ (P := l.prog) (w := w) (base := base) (c := c) (e := e) N_Set___init__ T 
  have o_told := okSet_told (P := l.prog) (w := w) (base := base) (c := c) (e := e) N_Set_told T 
  have o_fits := okSet_fits (P := l.prog) (w := w) (base := base) (c := c) (e := e) N_Set_fits T o_whole
  have o_made := okSet_made (P := l.prog) (w := w) (base := base) (c := c) (e := e) N_Set_made T 
  have o_done := okDeed_done (P := l.prog) (w := w) (base := base) (c := c) (e := e) N_Set_done T (fun C hC => by subst hC; exact o_fits) (fun C hC => by subst hC; exact o_made)
  have o_rowd := okrow_done (P := l.prog) (w := w) (base := base) (c := c) (e := e) Nrow_done T (fun C hC => by subst hC; exact o_done)
  have o_at := ok_law_at (P := l.prog) (w := w) (base := base) (c := c) (e := e) N_law_at T 
  have o_is := ok_law_is (P := l.prog) (w := w) (base := base) (c := c) (e := e) N_law_is T 
  have o_num := ok_law_number (P := l.prog) (w := w) (base := base) (c := c) (e := e) N_law_number T 
  have o_kind := ok_law_kind (P := l.prog) (w := w) (base := base) (c := c) (e := e) N_law_kind T 
  have o_row := ok_law_row (P := l.prog) (w := w) (base := base) (c := c) (e := e) N_law_row T o_num
  have o_line := ok_law_line (P := l.prog) (w := w) (base := base) (c := c) (e := e) N_law_line T 
  have o_many := okBough_many (P := l.prog) (w := w) (base := base) (c := c) (e := e) N_Bough_many T 
  have o_must := okBough_must_have (P := l.prog) (w := w) (base := base) (c := c) (e := e) N_Bough_must_have T o_whole
  have o_bdoc := okBough_doc (P := l.prog) (w := w) (base := base) (c := c) (e := e) N_Bough_doc T (fun C hC => by subst hC; exact o_must)
  have o_bparent := okBough_parent (P := l.prog) (w := w) (base := base) (c := c) (e := e) N_Bough_parent T (fun C hC => by subst hC; exact o_must)
  have o_brow := okBough_row (P := l.prog) (w := w) (base := base) (c := c) (e := e) N_Bough_row T (fun C hC => by subst hC; exact o_must)
  have o_bline := okBough_line (P := l.prog) (w := w) (base := base) (c := c) (e := e) N_Bough_line T (fun C hC => by subst hC; exact o_must)
  have o_binit := okBough___init__ (P := l.prog) (w := w) (base := base) (c := c) (e := e) N_Bough___init__ T 
  have o_grow := okBough_grow (P := l.prog) (w := w) (base := base) (c := c) (e := e) N_Bough_grow T (fun C hC => by subst hC; exact o_must) o_rowd
  have o_asked := ok_law_asked (P := l.prog) (w := w) (base := base) (c := c) (e := e) N_law_asked T (fun C hC => by subst hC; exact o_grow) (fun C hC => by subst hC; exact o_bdoc) (fun C hC => by subst hC; exact o_bparent) (fun C hC => by subst hC; exact o_brow) (fun C hC => by subst hC; exact o_bline) o_kind
  have o_ref := ok_law_refused (P := l.prog) (w := w) (base := base) (c := c) (e := e) N_law_refused T o_asked
  have o_look := ok_law_look (P := l.prog) (w := w) (base := base) (c := c) (e := e) N_law_look T (fun C hC => by subst hC; exact o_bline) (fun C hC => by subst hC; exact o_brow) (fun C hC => by subst hC; exact o_bparent) (fun C hC => by subst hC; exact o_bdoc) (fun C hC => by subst hC; exact o_many) (fun C hC => by subst hC; exact o_told) o_line o_is
  have MBough : MkAll l.prog w K mg base "Bough" e.bough 1 ["self", "doc"] (spBInit e) := MethAll.make o_binit mkBough kcBough (PySem.W.mg_of X G aCBough)
  have MSet : MkAll l.prog w K mg base "Set" c.set 1 ["self", "path", "old", "new"] (spInit c.set ["path", "old", "new"]) := MethAll.make o_sinit mkSet kcSet (PySem.W.mg_of X G aCSet)
  exact oklaw (c := c) (e := e) U11 T o_at o_num MBough MSet o_row o_ref (fun C hC => by subst hC; exact o_grow) o_is o_look
theorem walk {l : PySem.W.OpenLaw} {q : Program} {loose : List Str} {XP : (Str → Option Value) → Heap → Prop} {YP : World → Heap → Prop} {d : DefRec} {K : Params → PySem.W.Frag} (hn : l.most = some 63) (hdf : d.params.defaults = [])
    (hY : ∀ (w : World) (h : Heap), YP w h → (K w.params).In h)
    (F : ∀ (w : World) (mg : Str → Option Value) (fa : Addr) (h : Heap), (K w.params).In h → h.Ns mainGlobals mg → mg d.name = some (.ref fa) →
      ∃ fd : FuncData, (∀ (s : Shared) (u : Value), BindsTo s fd ⟨[u], []⟩ [("_law_script", u)]) ∧ ∀ base : Heap, (K w.params).In base → base.Ns mainGlobals mg → FnOk l.prog w (K w.params) mg base CX0 8 fa fd ["_law_script"] (spLaw (K w.params))) :
    PySem.W.WalkO q loose XP YP l.row.toRowW d [] (fun f vs => PySem.call f vs) :=
  L2.walk_of (n := 63) (k := 8) (x := "_law_script") (CX := fun _ => CX0) (sp := fun w => spLaw (K w.params)) hn (by decide) hdf ⟨rfl, by decide, by decide⟩ hY F (fun _ _ a ns hl _ hS => ⟨a, ns, rfl, hS, hl, fun _ => rfl⟩) fun _ _ _ _ _ z => z
end My
namespace PySem.W.Fast
noncomputable def tw3649712842950200183 : Program := PySem.Challenge.pw_boughback_k31_stands_and_lines
theorem te3649712842950200183 : PySem.Challenge.pw_boughback_k31_stands_and_lines = tw3649712842950200183 := rfl
noncomputable def vw (p : Program) : Program := { p with main := { p.main with body := [0, 2, 4, 5, 6, 7, 8, 9, 10, 11, 12, 13, 14, 16, 18, 20, 21, 23, 24, 25, 26, 27, 28, 29, 30, 31, 32].map fun i => p.main.body.getD i (.Pass ⟨0, 0, 0, 0⟩) } }
noncomputable def tw4162648208801871865 : Program := vw PySem.Challenge.pw_boughback_k31_stands_and_lines
theorem te4162648208801871865 : vw PySem.Challenge.pw_boughback_k31_stands_and_lines = tw4162648208801871865 := rfl
end PySem.W.Fast
namespace PySem.W.Fast
noncomputable def st (a n : Nat) : List Stmt := (List.range n).map fun i => PySem.Challenge.pw_boughback_k31_stands_and_lines.main.body.getD (a + i) (.Pass ⟨0, 0, 0, 0⟩)
noncomputable def tw2945193321073259523 : List Stmt := st 0 5
theorem te2945193321073259523 : st 0 5 = tw2945193321073259523 := rfl
noncomputable def tw8263058177518102874 : List Stmt := st 5 1
theorem te8263058177518102874 : st 5 1 = tw8263058177518102874 := rfl
noncomputable def tw16382428309376069838 : List Stmt := st 6 1
theorem te16382428309376069838 : st 6 1 = tw16382428309376069838 := rfl
noncomputable def tw16115000288850745700 : List Stmt := st 7 1
theorem te16115000288850745700 : st 7 1 = tw16115000288850745700 := rfl
noncomputable def tw9944558732185433568 : List Stmt := st 8 1
theorem te9944558732185433568 : st 8 1 = tw9944558732185433568 := rfl
noncomputable def tw14612664672119692475 : List Stmt := st 9 1
theorem te14612664672119692475 : st 9 1 = tw14612664672119692475 := rfl
noncomputable def tw14559738318708547284 : List Stmt := st 10 1
theorem te14559738318708547284 : st 10 1 = tw14559738318708547284 := rfl
noncomputable def tw10679209552181868609 : List Stmt := st 11 1
theorem te10679209552181868609 : st 11 1 = tw10679209552181868609 := rfl
noncomputable def tw17280133465034070307 : List Stmt := st 12 1
theorem te17280133465034070307 : st 12 1 = tw17280133465034070307 := rfl
noncomputable def tw1539405187392852161 : List Stmt := st 13 1
theorem te1539405187392852161 : st 13 1 = tw1539405187392852161 := rfl
noncomputable def tw4674671588028484496 : List Stmt := st 14 4
theorem te4674671588028484496 : st 14 4 = tw4674671588028484496 := rfl
noncomputable def tw15087183604339565995 : List Stmt := st 18 1
theorem te15087183604339565995 : st 18 1 = tw15087183604339565995 := rfl
noncomputable def tw9636846705793241807 : List Stmt := st 19 2
theorem te9636846705793241807 : st 19 2 = tw9636846705793241807 := rfl
noncomputable def tw14494491348076333702 : List Stmt := st 21 2
theorem te14494491348076333702 : st 21 2 = tw14494491348076333702 := rfl
noncomputable def tw14110593327901073874 : List Stmt := st 23 10
theorem te14110593327901073874 : st 23 10 = tw14110593327901073874 := rfl
end PySem.W.Fast
set_option maxHeartbeats 0
namespace Sh
open PySem PySem.W PyProof.Rows
open_shared T for PySem.Challenge.pw_boughback_k31_stands_and_lines leaving 0
end Sh
theorem Sh.hc {P : PySem.Params} {a b : PySem.Params → PySem.Obj} {l m : List PySem.Obj} (h : a = b) (k : l = m) : a P :: l = b P :: m := by rw [h, k]
namespace PySem
noncomputable def W.Fast.hp : Params → Heap := fun P => ⟨⟨[W.boot_o_0 P, W.boot_o_1 P, W.boot_o_2 P, Sh.T.o_507 P, W.boot_o_4 P, W.boot_o_5 P, W.boot_o_6 P, W.boot_o_7 P, W.boot_o_8 P, W.boot_o_9 P, W.boot_o_10 P, Sh.T.o_1 P, Sh.T.o_508 P, Sh.T.o_3 P, Sh.T.o_4 P, Sh.T.o_7 P, Sh.T.o_8 P, Sh.T.o_9 P, Sh.T.o_10 P, Sh.T.o_11 P, Sh.T.o_12 P, Sh.T.o_13 P, Sh.T.o_14 P, Sh.T.o_15 P, Sh.T.o_16 P, Sh.T.o_17 P, Sh.T.o_18 P, Sh.T.o_19 P, Sh.T.o_20 P, Sh.T.o_21 P, Sh.T.o_22 P, Sh.T.o_23 P, Sh.T.o_24 P, Sh.T.o_25 P, Sh.T.o_26 P, Sh.T.o_27 P, Sh.T.o_28 P, Sh.T.o_29 P, Sh.T.o_209 P, Sh.T.o_31 P, Sh.T.o_32 P, Sh.T.o_33 P, Sh.T.o_38 P, Sh.T.o_39 P, Sh.T.o_40 P, Sh.T.o_41 P, Sh.T.o_42 P, Sh.T.o_43 P, Sh.T.o_44 P, Sh.T.o_45 P, Sh.T.o_46 P, Sh.T.o_47 P, Sh.T.o_48 P, Sh.T.o_49 P, Sh.T.o_50 P, Sh.T.o_51 P, Sh.T.o_52 P, Sh.T.o_53 P, Sh.T.o_54 P, Sh.T.o_55 P, Sh.T.o_56 P, Sh.T.o_61 P, Sh.T.o_62 P, Sh.T.o_63 P, Sh.T.o_64 P, Sh.T.o_65 P, Sh.T.o_66 P, Sh.T.o_67 P, Sh.T.o_68 P, Sh.T.o_69 P, Sh.T.o_70 P, Sh.T.o_71 P, Sh.T.o_72 P, Sh.T.o_73 P, Sh.T.o_74 P, Sh.T.o_75 P, Sh.T.o_76 P, Sh.T.o_77 P, Sh.T.o_78 P, Sh.T.o_79 P, Sh.T.o_84 P, Sh.T.o_85 P, Sh.T.o_86 P, Sh.T.o_87 P, Sh.T.o_88 P, Sh.T.o_89 P, Sh.T.o_90 P, Sh.T.o_91 P, Sh.T.o_92 P, Sh.T.o_93 P, Sh.T.o_94 P, Sh.T.o_95 P, Sh.T.o_96 P, Sh.T.o_97 P, Sh.T.o_98 P, Sh.T.o_99 P, Sh.T.o_100 P, Sh.T.o_101 P, Sh.T.o_102 P, Sh.T.o_107 P, Sh.T.o_108 P, Sh.T.o_109 P, Sh.T.o_110 P, Sh.T.o_111 P, Sh.T.o_112 P, Sh.T.o_113 P, Sh.T.o_114 P, Sh.T.o_115 P, Sh.T.o_116 P, Sh.T.o_117 P, Sh.T.o_118 P, Sh.T.o_119 P, Sh.T.o_120 P, Sh.T.o_121 P, Sh.T.o_122 P, Sh.T.o_123 P, Sh.T.o_124 P, Sh.T.o_125 P, Sh.T.o_130 P, Sh.T.o_131 P, Sh.T.o_132 P, Sh.T.o_133 P, Sh.T.o_134 P, Sh.T.o_135 P, Sh.T.o_136 P, Sh.T.o_137 P, Sh.T.o_138 P, Sh.T.o_139 P, Sh.T.o_140 P, Sh.T.o_141 P, Sh.T.o_146 P, Sh.T.o_147 P, Sh.T.o_148 P, Sh.T.o_149 P, Sh.T.o_150 P, Sh.T.o_151 P, Sh.T.o_152 P, Sh.T.o_153 P, Sh.T.o_154 P, Sh.T.o_155 P, Sh.T.o_156 P, Sh.T.o_157 P, Sh.T.o_162 P, Sh.T.o_163 P, Sh.T.o_164 P, Sh.T.o_165 P, Sh.T.o_166 P, Sh.T.o_167 P, Sh.T.o_168 P, Sh.T.o_169 P, Sh.T.o_170 P, Sh.T.o_171 P, Sh.T.o_172 P, Sh.T.o_173 P, Sh.T.o_178 P, Sh.T.o_179 P, Sh.T.o_180 P, Sh.T.o_181 P, Sh.T.o_182 P, Sh.T.o_183 P, Sh.T.o_184 P, Sh.T.o_185 P, Sh.T.o_186 P, Sh.T.o_187 P, Sh.T.o_188 P, Sh.T.o_189 P, Sh.T.o_194 P, Sh.T.o_195 P, Sh.T.o_196 P, Sh.T.o_197 P, Sh.T.o_198 P, Sh.T.o_199 P, Sh.T.o_200 P, Sh.T.o_201 P, Sh.T.o_202 P, Sh.T.o_203 P, Sh.T.o_204 P, Sh.T.o_205 P, Sh.T.o_210 P, Sh.T.o_211 P, Sh.T.o_212 P, Sh.T.o_213 P, Sh.T.o_214 P, Sh.T.o_215 P, Sh.T.o_216 P, Sh.T.o_217 P, Sh.T.o_218 P, Sh.T.o_219 P, Sh.T.o_220 P, Sh.T.o_221 P, Sh.T.o_222 P, Sh.T.o_223 P, Sh.T.o_224 P, Sh.T.o_225 P, Sh.T.o_226 P, Sh.T.o_227 P, Sh.T.o_228 P, Sh.T.o_232 P, Sh.T.o_233 P, Sh.T.o_234 P, Sh.T.o_235 P, Sh.T.o_236 P, Sh.T.o_237 P, Sh.T.o_238 P, Sh.T.o_239 P, Sh.T.o_240 P, Sh.T.o_241 P, Sh.T.o_242 P, Sh.T.o_243 P, Sh.T.o_244 P, Sh.T.o_245 P, Sh.T.o_246 P, Sh.T.o_247 P, Sh.T.o_248 P, Sh.T.o_249 P, Sh.T.o_250 P, Sh.T.o_251 P, Sh.T.o_252 P, Sh.T.o_253 P, Sh.T.o_254 P, Sh.T.o_255 P, Sh.T.o_256 P, Sh.T.o_257 P, Sh.T.o_258 P, Sh.T.o_259 P, Sh.T.o_260 P, Sh.T.o_261 P, Sh.T.o_262 P, Sh.T.o_263 P, Sh.T.o_264 P, Sh.T.o_265 P, Sh.T.o_266 P, Sh.T.o_267 P, Sh.T.o_268 P, Sh.T.o_269 P, Sh.T.o_270 P, Sh.T.o_271 P, Sh.T.o_272 P, Sh.T.o_273 P, Sh.T.o_274 P, Sh.T.o_275 P, Sh.T.o_276 P, Sh.T.o_277 P, Sh.T.o_278 P, Sh.T.o_279 P, Sh.T.o_280 P, Sh.T.o_281 P, Sh.T.o_282 P, Sh.T.o_283 P, Sh.T.o_284 P, Sh.T.o_285 P, Sh.T.o_286 P, Sh.T.o_287 P, Sh.T.o_288 P, Sh.T.o_289 P, Sh.T.o_290 P, Sh.T.o_291 P, Sh.T.o_292 P, Sh.T.o_293 P, Sh.T.o_294 P, Sh.T.o_295 P, Sh.T.o_296 P, Sh.T.o_297 P, Sh.T.o_298 P, Sh.T.o_299 P, Sh.T.o_300 P, Sh.T.o_301 P, Sh.T.o_302 P, Sh.T.o_303 P, Sh.T.o_304 P, Sh.T.o_305 P, Sh.T.o_306 P, Sh.T.o_307 P, Sh.T.o_308 P, Sh.T.o_309 P, Sh.T.o_310 P, Sh.T.o_311 P, Sh.T.o_312 P, Sh.T.o_313 P, Sh.T.o_314 P, Sh.T.o_315 P, Sh.T.o_316 P, Sh.T.o_317 P, Sh.T.o_318 P, Sh.T.o_319 P, Sh.T.o_320 P, Sh.T.o_321 P, Sh.T.o_322 P, Sh.T.o_323 P, Sh.T.o_324 P, Sh.T.o_325 P, Sh.T.o_326 P, Sh.T.o_327 P, Sh.T.o_328 P, Sh.T.o_329 P, Sh.T.o_330 P, Sh.T.o_331 P, Sh.T.o_332 P, Sh.T.o_333 P, Sh.T.o_334 P, Sh.T.o_335 P, Sh.T.o_336 P, Sh.T.o_337 P, Sh.T.o_338 P, Sh.T.o_339 P, Sh.T.o_340 P, Sh.T.o_341 P, Sh.T.o_342 P, Sh.T.o_343 P, Sh.T.o_434 P, Sh.T.o_435 P, Sh.T.o_436 P, Sh.T.o_437 P, Sh.T.o_438 P, Sh.T.o_439 P, Sh.T.o_440 P, Sh.T.o_441 P, Sh.T.o_442 P, Sh.T.o_443 P, Sh.T.o_444 P, Sh.T.o_445 P, Sh.T.o_446 P, Sh.T.o_447 P, Sh.T.o_448 P, Sh.T.o_449 P, Sh.T.o_458 P, Sh.T.o_451 P, Sh.T.o_452 P, Sh.T.o_453 P, Sh.T.o_454 P, Sh.T.o_459 P, Sh.T.o_460 P, Sh.T.o_461 P, Sh.T.o_462 P, Sh.T.o_463 P, Sh.T.o_464 P, Sh.T.o_465 P, Sh.T.o_466 P, Sh.T.o_467 P, Sh.T.o_468 P, Sh.T.o_469 P, Sh.T.o_470 P, Sh.T.o_471 P, Sh.T.o_472 P, Sh.T.o_473 P, Sh.T.o_474 P, Sh.T.o_475 P, Sh.T.o_476 P, Sh.T.o_477 P, Sh.T.o_478 P, Sh.T.o_479 P, Sh.T.o_480 P, Sh.T.o_481 P, Sh.T.o_482 P, Sh.T.o_483 P, Sh.T.o_484 P, Sh.T.o_485 P, Sh.T.o_486 P, Sh.T.o_487 P, Sh.T.o_488 P, Sh.T.o_489 P, Sh.T.o_490 P, Sh.T.o_491 P, Sh.T.o_492 P, Sh.T.o_493 P, Sh.T.o_494 P, Sh.T.o_495 P, Sh.T.o_496 P, Sh.T.o_497 P, Sh.T.o_498 P, Sh.T.o_499 P, Sh.T.o_500 P, Sh.T.o_501 P, Sh.T.o_502 P, Sh.T.o_503 P, Sh.T.o_504 P, Sh.T.o_505 P, Sh.T.o_509 P, Sh.T.o_510 P, Sh.T.o_511 P, Sh.T.o_512 P, Sh.T.o_513 P, Sh.T.o_514 P, Sh.T.o_515 P, Sh.T.o_516 P, Sh.T.o_517 P, Sh.T.o_518 P, Sh.T.o_519 P, Sh.T.o_520 P, Sh.T.o_521 P, Sh.T.o_522 P, Sh.T.o_523 P, Sh.T.o_524 P, Sh.T.o_525 P, Sh.T.o_526 P, Sh.T.o_527 P, Sh.T.o_528 P, Sh.T.o_529 P, Sh.T.o_530 P, Sh.T.o_531 P, Sh.T.o_532 P, Sh.T.o_533 P, Sh.T.o_534 P, Sh.T.o_535 P, Sh.T.o_536 P, Sh.T.o_537 P, Sh.T.o_538 P, Sh.T.o_539 P, Sh.T.o_540 P, Sh.T.o_541 P, Sh.T.o_542 P, Sh.T.o_543 P, Sh.T.o_544 P, Sh.T.o_545 P, Sh.T.o_546 P, Sh.T.o_547 P, Sh.T.o_548 P, Sh.T.o_549 P, Sh.T.o_550 P, Sh.T.o_551 P, Sh.T.o_552 P, Sh.T.o_553 P, Sh.T.o_554 P, Sh.T.o_555 P, Sh.T.o_556 P, Sh.T.o_557 P, Sh.T.o_558 P, Sh.T.o_559 P, Sh.T.o_560 P, Sh.T.o_561 P, Sh.T.o_562 P, Sh.T.o_563 P, Sh.T.o_564 P, Sh.T.o_565 P, Sh.T.o_566 P, Sh.T.o_567 P, Sh.T.o_568 P, Sh.T.o_569 P, Sh.T.o_570 P, Sh.T.o_571 P, Sh.T.o_572 P, Sh.T.o_573 P, Sh.T.o_574 P]⟩, {}⟩
namespace W.Fast
open Sh
noncomputable def tw17504476800365737594 : Params → Heap := fun P => ⟨⟨[W.boot_o_0 P, W.boot_o_1 P, W.boot_o_2 P, tw8805820656668584905 P, W.boot_o_4 P, W.boot_o_5 P, W.boot_o_6 P, W.boot_o_7 P, W.boot_o_8 P, W.boot_o_9 P, W.boot_o_10 P, tw3676578616533728092 P, Sh.T.o_508 P, tw17633199693415792588 P, tw12432220343148976017 P, tw11052394710854079219 P, Sh.T.o_8 P, tw15148068734836946304 P, tw2657696349467217392 P, tw964602190874113358 P, tw4990257721782403080 P, tw12684364458278248100 P, tw3206212082808472805 P, Sh.T.o_15 P, tw749871446853309885 P, tw10151882783476440694 P, tw13175770890081746665 P, tw15214621839445661637 P, tw829294158727630371 P, tw5267957666985894455 P, tw4302931833770624391 P, tw10336947530163139737 P, tw7262661338910125694 P, Sh.T.o_25 P, tw16811030816697120213 P, tw9385370859680163978 P, tw13960970944563728824 P, tw16604351953932914692 P, tw13355977162282775176 P, tw11308974283428753297 P, tw2272013408088501820 P, tw16753567770570834576 P, tw17852738036455594961 P, tw8489238128837162477 P, tw17796465208892718101 P, tw149869151409614585 P, Sh.T.o_42 P, tw15626303997159167359 P, tw12027373928583047600 P, tw5124609961665212499 P, Sh.T.o_46 P, tw682516176882901357 P, tw11452131723470765598 P, tw6003624903938541960 P, tw816093751286895730 P, tw1041029432160927076 P, tw8600622302992476273 P, tw5368399802432885976 P, tw6622364135346862855 P, tw14374683545561001412 P, tw8020677772493839443 P, tw3062040935004890092 P, tw11700072521349165390 P, tw4926298863513744070 P, tw10719610888566529287 P, Sh.T.o_65 P, tw16126119747636486897 P, tw12757655827161841400 P, tw5601666508834307162 P, Sh.T.o_69 P, tw5409590658282283232 P, tw13612554292599401793 P, tw6930627484810614371 P, tw2626913937216831726 P, tw4090474338474298217 P, tw17499274663665429383 P, tw17364734317866403741 P, tw6961160965133725138 P, tw12195388390832566828 P, tw15020433519405067399 P, tw13642991554608816964 P, tw1385638142939884189 P, tw17823836547970837144 P, tw18107353753865785385 P, Sh.T.o_88 P, tw17099442354993623367 P, tw14610504590769552176 P, tw13717403072206598640 P, Sh.T.o_92 P, tw17645677254554687096 P, tw18165121343610256921 P, tw10685371719821283271 P, tw1675419266266964677 P, tw17925863151753673481 P, tw15658301561318932344 P, tw12110741261275704956 P, tw16222170030324358797 P, tw12714673328707827610 P, tw10888323238356652688 P, tw11310603561473438528 P, tw1424885274655602977 P, tw5876805506368758899 P, tw16544286091103005728 P, Sh.T.o_111 P, tw6405581801574622127 P, tw9167610744007727704 P, tw8515833324088548968 P, Sh.T.o_115 P, tw10273615350273305107 P, tw2846065559901158778 P, tw2358719156210810820 P, tw16824128101691602425 P, tw9476687402167856112 P, tw8672976419392349089 P, tw14562601897380330729 P, tw7107270900418126903 P, tw18033181922276026697 P, tw544827506760742036 P, tw5960371558506036705 P, tw8317668730650030563 P, tw12229894625455759452 P, tw1802350222560282074 P, Sh.T.o_134 P, tw14442934989527743420 P, tw17440660800097078113 P, tw6915794438850055746 P, tw9828844671322720702 P, tw6449729241245725006 P, tw14969754862214369081 P, tw11920533944909848859 P, tw9051571198329370468 P, tw17066267353003407764 P, tw10000088372809941088 P, tw17979043652028748276 P, Sh.T.o_150 P, tw3559998823712034641 P, tw10690863150531106804 P, tw7197869224877347545 P, tw8691701139916914414 P, tw11726221141887570434 P, tw9356914858858519465 P, tw1050829041583654469 P, tw10811602271202785655 P, tw5104159615248764274 P, tw11104339915682785157 P, tw13347733510042212326 P, Sh.T.o_166 P, tw11902873425492616751 P, tw8518474375482057717 P, tw3780208112946250995 P, tw9047383325413874494 P, tw6086189231151817367 P, tw12290537695069596634 P, tw17391931822514980639 P, tw3024733934581961727 P, tw9644992593939459149 P, tw13906960098184420222 P, tw17527899928347560602 P, Sh.T.o_182 P, tw3663419905130731517 P, tw13799563461505260909 P, tw12898352737872524736 P, tw4038197080105065238 P, tw803619665029810093 P, tw11361347074819914512 P, tw9923053296114917367 P, tw10753772610244474636 P, tw18063462924462398971 P, tw13890678939625739383 P, tw3544833760547084084 P, Sh.T.o_198 P, tw18001786708518064420 P, tw11177312362010628237 P, tw15386172769119431241 P, tw11861201276868520333 P, tw11794134687744712843 P, tw17921155027113478851 P, tw11120519071954449058 P, tw8072148975369583545 P, tw5232786790300503052 P, tw16800110170966731125 P, tw3546323349323014947 P, Sh.T.o_214 P, tw1856608326534171742 P, tw11210456305251722262 P, tw1435337156218506863 P, tw11040044090829736337 P, tw16191212690043786647 P, tw13939665366015407411 P, tw9391109047251724902 P, tw10943247424149273657 P, Sh.T.o_223 P, tw18118749569546918904 P, tw290284111613521078 P, tw16158488506048861101 P, tw14645996751643331931 P, tw8916979779194414387 P, tw4751231641852854152 P, tw10368519808431140699 P, tw13537760946815899130 P, tw12832439760520291003 P, Sh.T.o_236 P, tw12121369558002414237 P, tw834346815729116609 P, tw10977242911867333729 P, Sh.T.o_240 P, tw6455511947383144768 P, tw6838259060165043635 P, tw1036405202060090691 P, tw14705661308031035192 P, tw17704866664694859808 P, tw3964322416456574544 P, Sh.T.o_247 P, tw8827377564911240513 P, tw7855138464363391526 P, tw119525401005569002 P, tw3471869596570508608 P, tw1640537896669225354 P, tw12515581879891117506 P, Sh.T.o_254 P, tw6022313135758984097 P, tw904666988350954343 P, tw9061591839377850957 P, tw10500956335919021633 P, tw14217681536112596942 P, tw13935909568439657538 P, Sh.T.o_261 P, tw9845865802636661930 P, tw13614785414846404022 P, tw14840747347377098054 P, tw9915559651779262913 P, tw9083238815822707354 P, tw17891500717229072787 P, Sh.T.o_268 P, tw14584649530709580704 P, tw11178959860212994360 P, tw10879354692081225100 P, tw14831065422997183894 P, tw1842132627333139792 P, tw11788511575990054067 P, Sh.T.o_275 P, tw7020507199261973475 P, tw6834105101884022945 P, tw14189626945926339723 P, tw17728388389453609703 P, tw12562121482434310192 P, tw6452113681498974940 P, Sh.T.o_282 P, tw897386854742929095 P, tw5380412150714177224 P, tw15864449455720276455 P, tw12656094819909766083 P, tw1626920784238618349 P, tw2204455139386284120 P, Sh.T.o_289 P, tw8418530472170572818 P, tw14155101503219493941 P, tw18169884796847069343 P, tw14482594875075947952 P, tw2052526392457024097 P, tw12757944639868150251 P, Sh.T.o_296 P, tw16600139718314622846 P, tw12142407376624377494 P, tw12229693747975360488 P, tw11827512970755103526 P, tw9621325730727100987 P, tw3400978963834247164 P, Sh.T.o_303 P, tw6261521842214984122 P, tw12371259351283475314 P, tw14373268150941762100 P, tw13449363333316082496 P, tw4676525322127708505 P, tw6975193803462072129 P, Sh.T.o_310 P, tw17053750253658301403 P, tw2278064764195801055 P, tw42681862302554783 P, tw16239969760735061601 P, tw1533570790712529909 P, tw8767833281909128591 P, Sh.T.o_317 P, tw17313088083988966370 P, tw14967032068881185984 P, tw11634553730372250168 P, tw14864386740985924056 P, tw11696883652200176775 P, tw7437090193976964584 P, Sh.T.o_324 P, tw11190594799713432907 P, tw6840970237338390056 P, tw7709565527427675198 P, tw12615776196852021673 P, tw4098021801940294666 P, tw11229180827662072092 P, Sh.T.o_331 P, tw2550681646303817667 P, tw9734013088298640632 P, tw6551124319144041346 P, tw7979174416411911597 P, tw15825671936468652643 P, tw8826228761773167189 P, tw8686765360696919148 P, tw1051560918764250156 P, tw2176461200044494321 P, tw2848800628441198272 P, tw15349514958811838483 P, tw1510624545665046514 P, tw14425391403330022894 P, tw10064942553366006727 P, tw13653844730260439617 P, tw17315543159401594013 P, Sh.T.o_438 P, tw6291275779441703361 P, tw7991483110861077605 P, tw1309118039207621075 P, Sh.T.o_442 P, tw11313258899087946986 P, tw4552500329929899370 P, tw10373372067462365086 P, tw3888023667645049512 P, tw3367926455756346632 P, tw1378985684408989262 P, tw14382314238493775703 P, tw16307739249943519281 P, tw10270242356724356430 P, tw1934082070618998482 P, tw16726263271594680678 P, tw14449716637941758242 P, tw4059922904352690192 P, tw14846478644902595621 P, tw7942788028887399007 P, tw1149472994809305140 P, Sh.T.o_463 P, tw219517694856200482 P, tw4236836849798745783 P, tw2523774448417346362 P, Sh.T.o_467 P, tw18327304532437815723 P, tw3414547523878863836 P, tw11468634014470850396 P, tw1789537433580472636 P, tw13173116393473900276 P, tw5602763333588835796 P, Sh.T.o_474 P, tw6258287063717590720 P, tw10385120287620458603 P, tw14418399370574358721 P, tw13737250054977531257 P, tw11746794598907529746 P, tw790695132728507877 P, Sh.T.o_481 P, tw9965162134863804038 P, tw15213374483630790844 P, tw3936822539408677798 P, tw14828434552376125601 P, tw3815737599264149519 P, tw18114934056367668978 P, Sh.T.o_488 P, tw16045264922490268953 P, tw14489534882559643715 P, tw1918378049265008972 P, tw2741150356128413864 P, tw12999076002726084812 P, tw16173946588601618396 P, Sh.T.o_495 P, tw6634807117764575466 P, tw3952202437636571760 P, tw14929605237781400382 P, tw11940835435260519964 P, tw2780126331005765945 P, tw2546581260591452364 P, tw5127448446244942032 P, tw6050199516408780683 P, tw5941557681511255058 P, tw9843675398947639121 P, tw14630117941911804408 P, Sh.T.o_510 P, tw8902921388258962930 P, tw4141114314264529269 P, tw6612116430565568556 P, tw10932884824247346168 P, tw5497528490998673711 P, tw14356024068432351639 P, Sh.T.o_517 P, tw8908673015656884745 P, tw10529876113088020324 P, tw18169389390645168345 P, tw723511306869565426 P, tw2721999631674671798 P, tw4516577804942547582 P, Sh.T.o_524 P, tw6739018023622521672 P, tw13756639077160454470 P, tw3511954019055605781 P, tw11839448770015072751 P, tw2918669206114530878 P, tw5440436753118791575 P, Sh.T.o_531 P, tw915739581711861607 P, tw13597003727445609657 P, tw13368373594478166804 P, tw10826930687411364717 P, tw6250744634831082729 P, tw12783253415433783219 P, Sh.T.o_538 P, tw1427472905271566519 P, tw7923710310451635598 P, tw8778676628531585687 P, tw18251880788576148555 P, tw9536464139448738797 P, tw9775590190719157578 P, Sh.T.o_545 P, tw10309470979740781395 P, tw8930251060845854877 P, tw17819398316964147897 P, tw13098462999785126777 P, tw6931609240465544402 P, tw7973977375100384056 P, Sh.T.o_552 P, tw5890385583695508874 P, tw8655369478076359340 P, tw17555540058520726026 P, tw9129279518975293622 P, tw3174858501882703209 P, tw9503768374260650208 P, Sh.T.o_559 P, tw3702923271628160264 P, tw8393188463060440838 P, tw12923652030348232467 P, tw16644646831382817903 P, tw5499417930206961074 P, tw15641488080786753856 P, Sh.T.o_566 P, tw9229560683545268171 P, tw8949333048365197769 P, tw10444352862821492917 P, tw14638576687430975726 P, Sh.T.o_571 P, tw5476615517695113834 P, tw15349828839288786542 P, tw13072732731995699053 P]⟩, {}⟩
theorem te17504476800365737594 : hp = tw17504476800365737594 := funext fun P => congrArg (fun l => Heap.mk (Array.mk l) {}) (hc rfl (hc rfl (hc rfl (hc te8805820656668584905 (hc rfl (hc rfl (hc rfl (hc rfl (hc rfl (hc rfl (hc rfl (hc te3676578616533728092 (hc rfl (hc te17633199693415792588 (hc te12432220343148976017 (hc te11052394710854079219 (hc rfl (hc te15148068734836946304 (hc te2657696349467217392 (hc te964602190874113358 (hc te4990257721782403080 (hc te12684364458278248100 (hc te3206212082808472805 (hc rfl (hc te749871446853309885 (hc te10151882783476440694 (hc te13175770890081746665 (hc te15214621839445661637 (hc te829294158727630371 (hc te5267957666985894455 (hc te4302931833770624391 (hc te10336947530163139737 (hc te7262661338910125694 (hc rfl (hc te16811030816697120213 (hc te9385370859680163978 (hc te13960970944563728824 (hc te16604351953932914692 (hc te13355977162282775176 (hc te11308974283428753297 (hc te2272013408088501820 (hc te16753567770570834576 (hc te17852738036455594961 (hc te8489238128837162477 (hc te17796465208892718101 (hc te149869151409614585 (hc rfl (hc te15626303997159167359 (hc te12027373928583047600 (hc te5124609961665212499 (hc rfl (hc te682516176882901357 (hc te11452131723470765598 (hc te6003624903938541960 (hc te816093751286895730 (hc te1041029432160927076 (hc te8600622302992476273 (hc te5368399802432885976 (hc te6622364135346862855 (hc te14374683545561001412 (hc te8020677772493839443 (hc te3062040935004890092 (hc te11700072521349165390 (hc te4926298863513744070 (hc te10719610888566529287 (hc rfl (hc te16126119747636486897 (hc te12757655827161841400 (hc te5601666508834307162 (hc rfl (hc te5409590658282283232 (hc te13612554292599401793 (hc te6930627484810614371 (hc te2626913937216831726 (hc te4090474338474298217 (hc te17499274663665429383 (hc te17364734317866403741 (hc te6961160965133725138 (hc te12195388390832566828 (hc te15020433519405067399 (hc te13642991554608816964 (hc te1385638142939884189 (hc te17823836547970837144 (hc te18107353753865785385 (hc rfl (hc te17099442354993623367 (hc te14610504590769552176 (hc te13717403072206598640 (hc rfl (hc te17645677254554687096 (hc te18165121343610256921 (hc te10685371719821283271 (hc te1675419266266964677 (hc te17925863151753673481 (hc te15658301561318932344 (hc te12110741261275704956 (hc te16222170030324358797 (hc te12714673328707827610 (hc te10888323238356652688 (hc te11310603561473438528 (hc te1424885274655602977 (hc te5876805506368758899 (hc te16544286091103005728 (hc rfl (hc te6405581801574622127 (hc te9167610744007727704 (hc te8515833324088548968 (hc rfl (hc te10273615350273305107 (hc te2846065559901158778 (hc te2358719156210810820 (hc te16824128101691602425 (hc te9476687402167856112 (hc te8672976419392349089 (hc te14562601897380330729 (hc te7107270900418126903 (hc te18033181922276026697 (hc te544827506760742036 (hc te5960371558506036705 (hc te8317668730650030563 (hc te12229894625455759452 (hc te1802350222560282074 (hc rfl (hc te14442934989527743420 (hc te17440660800097078113 (hc te6915794438850055746 (hc te9828844671322720702 (hc te6449729241245725006 (hc te14969754862214369081 (hc te11920533944909848859 (hc te9051571198329370468 (hc te17066267353003407764 (hc te10000088372809941088 (hc te17979043652028748276 (hc rfl (hc te3559998823712034641 (hc te10690863150531106804 (hc te7197869224877347545 (hc te8691701139916914414 (hc te11726221141887570434 (hc te9356914858858519465 (hc te1050829041583654469 (hc te10811602271202785655 (hc te5104159615248764274 (hc te11104339915682785157 (hc te13347733510042212326 (hc rfl (hc te11902873425492616751 (hc te8518474375482057717 (hc te3780208112946250995 (hc te9047383325413874494 (hc te6086189231151817367 (hc te12290537695069596634 (hc te17391931822514980639 (hc te3024733934581961727 (hc te9644992593939459149 (hc te13906960098184420222 (hc te17527899928347560602 (hc rfl (hc te3663419905130731517 (hc te13799563461505260909 (hc te12898352737872524736 (hc te4038197080105065238 (hc te803619665029810093 (hc te11361347074819914512 (hc te9923053296114917367 (hc te10753772610244474636 (hc te18063462924462398971 (hc te13890678939625739383 (hc te3544833760547084084 (hc rfl (hc te18001786708518064420 (hc te11177312362010628237 (hc te15386172769119431241 (hc te11861201276868520333 (hc te11794134687744712843 (hc te17921155027113478851 (hc te11120519071954449058 (hc te8072148975369583545 (hc te5232786790300503052 (hc te16800110170966731125 (hc te3546323349323014947 (hc rfl (hc te1856608326534171742 (hc te11210456305251722262 (hc te1435337156218506863 (hc te11040044090829736337 (hc te16191212690043786647 (hc te13939665366015407411 (hc te9391109047251724902 (hc te10943247424149273657 (hc rfl (hc te18118749569546918904 (hc te290284111613521078 (hc te16158488506048861101 (hc te14645996751643331931 (hc te8916979779194414387 (hc te4751231641852854152 (hc te10368519808431140699 (hc te13537760946815899130 (hc te12832439760520291003 (hc rfl (hc te12121369558002414237 (hc te834346815729116609 (hc te10977242911867333729 (hc rfl (hc te6455511947383144768 (hc te6838259060165043635 (hc te1036405202060090691 (hc te14705661308031035192 (hc te17704866664694859808 (hc te3964322416456574544 (hc rfl (hc te8827377564911240513 (hc te7855138464363391526 (hc te119525401005569002 (hc te3471869596570508608 (hc te1640537896669225354 (hc te12515581879891117506 (hc rfl (hc te6022313135758984097 (hc te904666988350954343 (hc te9061591839377850957 (hc te10500956335919021633 (hc te14217681536112596942 (hc te13935909568439657538 (hc rfl (hc te9845865802636661930 (hc te13614785414846404022 (hc te14840747347377098054 (hc te9915559651779262913 (hc te9083238815822707354 (hc te17891500717229072787 (hc rfl (hc te14584649530709580704 (hc te11178959860212994360 (hc te10879354692081225100 (hc te14831065422997183894 (hc te1842132627333139792 (hc te11788511575990054067 (hc rfl (hc te7020507199261973475 (hc te6834105101884022945 (hc te14189626945926339723 (hc te17728388389453609703 (hc te12562121482434310192 (hc te6452113681498974940 (hc rfl (hc te897386854742929095 (hc te5380412150714177224 (hc te15864449455720276455 (hc te12656094819909766083 (hc te1626920784238618349 (hc te2204455139386284120 (hc rfl (hc te8418530472170572818 (hc te14155101503219493941 (hc te18169884796847069343 (hc te14482594875075947952 (hc te2052526392457024097 (hc te12757944639868150251 (hc rfl (hc te16600139718314622846 (hc te12142407376624377494 (hc te12229693747975360488 (hc te11827512970755103526 (hc te9621325730727100987 (hc te3400978963834247164 (hc rfl (hc te6261521842214984122 (hc te12371259351283475314 (hc te14373268150941762100 (hc te13449363333316082496 (hc te4676525322127708505 (hc te6975193803462072129 (hc rfl (hc te17053750253658301403 (hc te2278064764195801055 (hc te42681862302554783 (hc te16239969760735061601 (hc te1533570790712529909 (hc te8767833281909128591 (hc rfl (hc te17313088083988966370 (hc te14967032068881185984 (hc te11634553730372250168 (hc te14864386740985924056 (hc te11696883652200176775 (hc te7437090193976964584 (hc rfl (hc te11190594799713432907 (hc te6840970237338390056 (hc te7709565527427675198 (hc te12615776196852021673 (hc te4098021801940294666 (hc te11229180827662072092 (hc rfl (hc te2550681646303817667 (hc te9734013088298640632 (hc te6551124319144041346 (hc te7979174416411911597 (hc te15825671936468652643 (hc te8826228761773167189 (hc te8686765360696919148 (hc te1051560918764250156 (hc te2176461200044494321 (hc te2848800628441198272 (hc te15349514958811838483 (hc te1510624545665046514 (hc te14425391403330022894 (hc te10064942553366006727 (hc te13653844730260439617 (hc te17315543159401594013 (hc rfl (hc te6291275779441703361 (hc te7991483110861077605 (hc te1309118039207621075 (hc rfl (hc te11313258899087946986 (hc te4552500329929899370 (hc te10373372067462365086 (hc te3888023667645049512 (hc te3367926455756346632 (hc te1378985684408989262 (hc te14382314238493775703 (hc te16307739249943519281 (hc te10270242356724356430 (hc te1934082070618998482 (hc te16726263271594680678 (hc te14449716637941758242 (hc te4059922904352690192 (hc te14846478644902595621 (hc te7942788028887399007 (hc te1149472994809305140 (hc rfl (hc te219517694856200482 (hc te4236836849798745783 (hc te2523774448417346362 (hc rfl (hc te18327304532437815723 (hc te3414547523878863836 (hc te11468634014470850396 (hc te1789537433580472636 (hc te13173116393473900276 (hc te5602763333588835796 (hc rfl (hc te6258287063717590720 (hc te10385120287620458603 (hc te14418399370574358721 (hc te13737250054977531257 (hc te11746794598907529746 (hc te790695132728507877 (hc rfl (hc te9965162134863804038 (hc te15213374483630790844 (hc te3936822539408677798 (hc te14828434552376125601 (hc te3815737599264149519 (hc te18114934056367668978 (hc rfl (hc te16045264922490268953 (hc te14489534882559643715 (hc te1918378049265008972 (hc te2741150356128413864 (hc te12999076002726084812 (hc te16173946588601618396 (hc rfl (hc te6634807117764575466 (hc te3952202437636571760 (hc te14929605237781400382 (hc te11940835435260519964 (hc te2780126331005765945 (hc te2546581260591452364 (hc te5127448446244942032 (hc te6050199516408780683 (hc te5941557681511255058 (hc te9843675398947639121 (hc te14630117941911804408 (hc rfl (hc te8902921388258962930 (hc te4141114314264529269 (hc te6612116430565568556 (hc te10932884824247346168 (hc te5497528490998673711 (hc te14356024068432351639 (hc rfl (hc te8908673015656884745 (hc te10529876113088020324 (hc te18169389390645168345 (hc te723511306869565426 (hc te2721999631674671798 (hc te4516577804942547582 (hc rfl (hc te6739018023622521672 (hc te13756639077160454470 (hc te3511954019055605781 (hc te11839448770015072751 (hc te2918669206114530878 (hc te5440436753118791575 (hc rfl (hc te915739581711861607 (hc te13597003727445609657 (hc te13368373594478166804 (hc te10826930687411364717 (hc te6250744634831082729 (hc te12783253415433783219 (hc rfl (hc te1427472905271566519 (hc te7923710310451635598 (hc te8778676628531585687 (hc te18251880788576148555 (hc te9536464139448738797 (hc te9775590190719157578 (hc rfl (hc te10309470979740781395 (hc te8930251060845854877 (hc te17819398316964147897 (hc te13098462999785126777 (hc te6931609240465544402 (hc te7973977375100384056 (hc rfl (hc te5890385583695508874 (hc te8655369478076359340 (hc te17555540058520726026 (hc te9129279518975293622 (hc te3174858501882703209 (hc te9503768374260650208 (hc rfl (hc te3702923271628160264 (hc te8393188463060440838 (hc te12923652030348232467 (hc te16644646831382817903 (hc te5499417930206961074 (hc te15641488080786753856 (hc rfl (hc te9229560683545268171 (hc te8949333048365197769 (hc te10444352862821492917 (hc te14638576687430975726 (hc rfl (hc te5476615517695113834 (hc te15349828839288786542 (hc te13072732731995699053 rfl)))))))))))))))))))))))))))))))))))))))))))))))))))))))))))))))))))))))))))))))))))))))))))))))))))))))))))))))))))))))))))))))))))))))))))))))))))))))))))))))))))))))))))))))))))))))))))))))))))))))))))))))))))))))))))))))))))))))))))))))))))))))))))))))))))))))))))))))))))))))))))))))))))))))))))))))))))))))))))))))))))))))))))))))))))))))))))))))))))))))))))))))))))))))))))))))))))))))))))))))))))))))))))))))))))))))))))))))))))))))))))
noncomputable def tw13861241602038848692 : Params → W.Frag := fun _ => []
theorem te13861241602038848692 : tw13861241602038848692 = tw13861241602038848692 := rfl
end W.Fast
end PySem
open PySem PySem.W PyProof.Rows
set_option maxRecDepth 100000 in
set_option maxHeartbeats 0 in
theorem PySem.Challenge.cw_boughback_k31_stands_and_lines_holds : PySem.Challenge.rw_boughback_k31_stands_and_lines.Holds := by
  w_on; o_law; k_head; (case hw => w_witness2)
  k_fill
  refine My.walk (l := PySem.Challenge.rw_boughback_k31_stands_and_lines) rfl rfl (fun w h Y => PySem.W.kIn_of Y) ?F
  case F =>
    intro w mg fa h KX G hmg
    refine' My.all_mk KX G hmg ?aCSet ?aCBough ?aCBoughError ?aCClash ?aCEmpty ?aCHangs ?aCNoDeed ?aCNoRoom ?aCNoStand ?aCNoText ?aCNoWord ?aCTwice ?aCUnfit ?a0 ?l0 ?c0 ?k0 ?a1 ?l1 ?c1 ?k1 ?a2 ?l2 ?c2 ?k2 ?a3 ?l3 ?c3 ?k3 ?a4 ?l4 ?c4 ?k4 ?a5 ?l5 ?c5 ?k5 ?a6 ?l6 ?c6 ?k6 ?a7 ?l7 ?c7 ?k7 ?a8 ?l8 ?c8 ?k8 ?a9 ?l9 ?c9 ?k9 ?a10 ?l10 ?c10 ?k10 ?a11 ?l11 ?c11 ?k11 ?a_Bough___init__ ?i_Bough___init__ ?l_Bough___init__ ?c_Bough___init__ ?k_Bough___init__ ?a_Bough_many ?i_Bough_many ?l_Bough_many ?c_Bough_many ?k_Bough_many ?a_Bough_grow ?i_Bough_grow ?l_Bough_grow ?c_Bough_grow ?k_Bough_grow ?a_Bough_doc ?i_Bough_doc ?l_Bough_doc ?c_Bough_doc ?k_Bough_doc ?a_Bough_parent ?i_Bough_parent ?l_Bough_parent ?c_Bough_parent ?k_Bough_parent ?a_Bough_row ?i_Bough_row ?l_Bough_row ?c_Bough_row ?k_Bough_row ?a_Bough_line ?i_Bough_line ?l_Bough_line ?c_Bough_line ?k_Bough_line ?a_Bough_must_have ?i_Bough_must_have ?l_Bough_must_have ?c_Bough_must_have ?k_Bough_must_have ?a_Set___init__ ?i_Set___init__ ?l_Set___init__ ?c_Set___init__ ?k_Set___init__ ?a_Set_fits ?i_Set_fits ?l_Set_fits ?c_Set_fits ?k_Set_fits ?a_Set_made ?i_Set_made ?l_Set_made ?c_Set_made ?k_Set_made ?a_Set_told ?i_Set_told ?l_Set_told ?c_Set_told ?k_Set_told ?a_Set_done ?i_Set_done ?l_Set_done ?c_Set_done ?k_Set_done ?pgSet ?hdSet ?poSet ?saSet ?mkSet ?kcSet ?haSet ?hmSet ?pgBough ?hdBough ?poBough ?saBough ?mkBough ?kcBough ?haBough ?hmBough ?hn ?tk ?n_sp ?n_so ?n_sn ?n_bd ?n_bp ?n_br ?n_bg ?z_len ?z_range ?z_isinstance ?z_list ?z_dict ?z_int ?z_bool ?z_enumerate ?z_reversed ?z_ValueError ?xcNoStand ?xgaNoStand ?xgtNoStand ?xclNoStand ?xobNoStand ?xbeNoStand ?xciNoStand ?exNoStand ?kvNoStand ?qNoStand_Clash ?qNoStand_Empty ?qNoStand_Hangs ?qNoStand_NoDeed ?qNoStand_NoRoom ?qNoStand_NoStand ?qNoStand_NoText ?qNoStand_NoWord ?qNoStand_Twice ?qNoStand_Unfit ?xcEmpty ?xgaEmpty ?xgtEmpty ?xclEmpty ?xobEmpty ?xbeEmpty ?xciEmpty ?exEmpty ?kvEmpty ?qEmpty_Clash ?qEmpty_Empty ?qEmpty_Hangs ?qEmpty_NoDeed ?qEmpty_NoRoom ?qEmpty_NoStand ?qEmpty_NoText ?qEmpty_NoWord ?qEmpty_Twice ?qEmpty_Unfit
    (case aCSet => k_is)
    (case aCBough => k_is)
    (case aCBoughError => k_is)
    (case aCClash => k_is)
    (case aCEmpty => k_is)
    (case aCHangs => k_is)
    (case aCNoDeed => k_is)
    (case aCNoRoom => k_is)
    (case aCNoStand => k_is)
    (case aCNoText => k_is)
    (case aCNoWord => k_is)
    (case aCTwice => k_is)
    (case aCUnfit => k_is)
    (case a0 => k_is)
    (case l0 => k_is)
    (case c0 => k_is)
    (case k0 => k_is)
    (case a1 => k_is)
    (case l1 => k_is)
    (case c1 => k_is)
    (case k1 => k_is)
    (case a2 => k_is)
    (case l2 => k_is)
    (case c2 => k_is)
    (case k2 => k_is)
    (case a3 => k_is)
    (case l3 => k_is)
    (case c3 => k_is)
    (case k3 => k_is)
    (case a4 => k_is)
    (case l4 => k_is)
    (case c4 => k_is)
    (case k4 => k_is)
    (case a5 => k_is)
    (case l5 => k_is)
    (case c5 => k_is)
    (case k5 => k_is)
    (case a6 => k_is)
    (case l6 => k_is)
    (case c6 => k_is)
    (case k6 => k_is)
    (case a7 => k_is)
    (case l7 => k_is)
    (case c7 => k_is)
    (case k7 => k_is)
    (case a8 => k_is)
    (case l8 => k_is)
    (case c8 => k_is)
    (case k8 => k_is)
    (case a9 => k_is)
    (case l9 => k_is)
    (case c9 => k_is)
    (case k9 => k_is)
    (case a10 => k_is)
    (case l10 => k_is)
    (case c10 => k_is)
    (case k10 => k_is)
    (case a11 => k_is)
    (case l11 => k_is)
    (case c11 => k_is)
    (case k11 => k_is)
    (case a_Bough___init__ => k_is)
    (case i_Bough___init__ => k_is)
    (case l_Bough___init__ => k_is)
    (case c_Bough___init__ => k_is)
    (case k_Bough___init__ => k_is)
    (case a_Bough_many => k_is)
    (case i_Bough_many => k_is)
    (case l_Bough_many => k_is)
    (case c_Bough_many => k_is)
    (case k_Bough_many => k_is)
    (case a_Bough_grow => k_is)
    (case i_Bough_grow => k_is)
    (case l_Bough_grow => k_is)
    (case c_Bough_grow => k_is)
    (case k_Bough_grow => k_is)
    (case a_Bough_doc => k_is)
    (case i_Bough_doc => k_is)
    (case l_Bough_doc => k_is)
    (case c_Bough_doc => k_is)
    (case k_Bough_doc => k_is)
    (case a_Bough_parent => k_is)
    (case i_Bough_parent => k_is)
    (case l_Bough_parent => k_is)
    (case c_Bough_parent => k_is)
    (case k_Bough_parent => k_is)
    (case a_Bough_row => k_is)
    (case i_Bough_row => k_is)
    (case l_Bough_row => k_is)
    (case c_Bough_row => k_is)
    (case k_Bough_row => k_is)
    (case a_Bough_line => k_is)
    (case i_Bough_line => k_is)
    (case l_Bough_line => k_is)
    (case c_Bough_line => k_is)
    (case k_Bough_line => k_is)
    (case a_Bough_must_have => k_is)
    (case i_Bough_must_have => k_is)
    (case l_Bough_must_have => k_is)
    (case c_Bough_must_have => k_is)
    (case k_Bough_must_have => k_is)
    (case a_Set___init__ => k_is)
    (case i_Set___init__ => k_is)
    (case l_Set___init__ => k_is)
    (case c_Set___init__ => k_is)
    (case k_Set___init__ => k_is)
    (case a_Set_fits => k_is)
    (case i_Set_fits => k_is)
    (case l_Set_fits => k_is)
    (case c_Set_fits => k_is)
    (case k_Set_fits => k_is)
    (case a_Set_made => k_is)
    (case i_Set_made => k_is)
    (case l_Set_made => k_is)
    (case c_Set_made => k_is)
    (case k_Set_made => k_is)
    (case a_Set_told => k_is)
    (case i_Set_told => k_is)
    (case l_Set_told => k_is)
    (case c_Set_told => k_is)
    (case k_Set_told => k_is)
    (case a_Set_done => k_is)
    (case i_Set_done => k_is)
    (case l_Set_done => k_is)
    (case c_Set_done => k_is)
    (case k_Set_done => k_is)
    (case pgSet => k_is)
    (case hdSet => k_is)
    (case poSet => k_is)
    (case saSet => k_is)
    (case mkSet => k_is)
    (case kcSet => k_is)
    (case haSet => k_is)
    (case hmSet => k_is)
    (case pgBough => k_is)
    (case hdBough => k_is)
    (case poBough => k_is)
    (case saBough => k_is)
    (case mkBough => k_is)
    (case kcBough => k_is)
    (case haBough => k_is)
    (case hmBough => k_is)
    (case hn => k_is)
    (case tk => k_is)
    (case n_sp => k_is)
    (case n_so => k_is)
    (case n_sn => k_is)
    (case n_bd => k_is)
    (case n_bp => k_is)
    (case n_br => k_is)
    (case n_bg => k_is)
    (case z_len => k_is)
    (case z_range => k_is)
    (case z_isinstance => k_is)
    (case z_list => k_is)
    (case z_dict => k_is)
    (case z_int => k_is)
    (case z_bool => k_is)
    (case z_enumerate => k_is)
    (case z_reversed => k_is)
    (case z_ValueError => k_is)
    (case xcNoStand => k_exc)
    (case xgaNoStand => k_is)
    (case xgtNoStand => k_is)
    (case xclNoStand => k_is)
    (case xobNoStand => k_is)
    (case xbeNoStand => k_is)
    (case xciNoStand => k_is)
    (case exNoStand => kts_exm)
    (case kvNoStand => kit_is)
    (case qNoStand_Clash => kit_is)
    (case qNoStand_Empty => kit_is)
    (case qNoStand_Hangs => kit_is)
    (case qNoStand_NoDeed => kit_is)
    (case qNoStand_NoRoom => kit_is)
    (case qNoStand_NoStand => kit_is)
    (case qNoStand_NoText => kit_is)
    (case qNoStand_NoWord => kit_is)
    (case qNoStand_Twice => kit_is)
    (case qNoStand_Unfit => kit_is)
    (case xcEmpty => k_exc)
    (case xgaEmpty => k_is)
    (case xgtEmpty => k_is)
    (case xclEmpty => k_is)
    (case xobEmpty => k_is)
    (case xbeEmpty => k_is)
    (case xciEmpty => k_is)
    (case exEmpty => kts_exm)
    (case kvEmpty => kit_is)
    (case qEmpty_Clash => kit_is)
    (case qEmpty_Empty => kit_is)
    (case qEmpty_Hangs => kit_is)
    (case qEmpty_NoDeed => kit_is)
    (case qEmpty_NoRoom => kit_is)
    (case qEmpty_NoStand => kit_is)
    (case qEmpty_NoText => kit_is)
    (case qEmpty_NoWord => kit_is)
    (case qEmpty_Twice => kit_is)
    (case qEmpty_Unfit => kit_is)

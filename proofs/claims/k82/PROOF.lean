import PyProof.Rows.All
import Wide.All
import OpenK.AllK
import Wide.FinOn
import Lean
import PyProof.EqAt
import PyProof.EqKinds
import PyProof.TupleCall
import PyProof.NeKinds
import PyProof.CompFree
import PyProof.CompMap
import PyProof.StrWalks
import PyProof.ConsumeWalk
import PyProof.ExcBaseAll.ValueError
import PyProof.RulesAs
import PyProof.RulesDel
import PyProof.ExcAttrAll.ValueError
import KE.KEqDict
import KE.KDictOf
import PyProof.Rows.TupDisplay
import PyProof.EnumMake
import KE.KRevIter
import KE.KDictList
import PyProof.Rows.CountFlat
import PyProof.Rows.SeqMore2
import PyProof.StrCalls2
import PyProof.StrCalls3
import PyProof.StrLawsTight
import PyProof.StrLawsJoin
import PyProof.StrLawsOcc
import PyProof.MeetsStr2
import PyProof.Rows.StrJoin2
import PyProof.Rows.StrReprJoin
import PyProof.StrLawsIdx
import KE.RegKTryMore
import PySem.Challenge.RW_boughback_k82_paths_written
set_option Elab.async false
set_option linter.all false
set_option maxRecDepth 100000
/-! THE HAND LAYER, for ints, bools, texts, own classes, LISTS and tuples (index, slices, in, append, pop ..), calls, loops. Paste it whole ahead of your own text; what your proof does not reach may be deleted. -/
namespace L2
open PySem PySem.Spec PyProof.Rows

/-- a key: an int or a str -/
abbrev Key := Sum Int Str
def keyIs : Key → Value → Bool
  | .inl k, v => Value.isInt k v
  | .inr x, v => Value.isStrOf x v
def keyH (w : World) : Key → Int
  | .inl k => hashInt k
  | .inr x => hashStr w x
theorem keyIs_shape : ∀ {k : Key} {v : Value}, keyIs k v = true → (∃ i t, k = Sum.inl i ∧ v = Value.int i t) ∨ (∃ x t, k = Sum.inr x ∧ v = Value.str x t)
  | .inl i, v, h => by
    obtain ⟨t, e⟩ := Value.isInt_shape (k := i) (v := v) h
    exact .inl ⟨i, t, rfl, e⟩
  | .inr x, v, h => by
    obtain ⟨t, e⟩ := Value.isStrOf_shape (x := x) (v := v) h
    exact .inr ⟨x, t, rfl, e⟩
theorem keyIs_int (i : Int) (t : Tok) : keyIs (.inl i) (.int i t) = true := by simp [keyIs, Value.isInt]
theorem keyIs_str (x : Str) (t : Tok) : keyIs (.inr x) (.str x t) = true := by simp [keyIs, Value.isStrOf]
theorem key_ll (a b : Int) : decide ((Sum.inl a : Key) = Sum.inl b) = (a == b) := by
  by_cases e : a = b
  · subst e; simp
  · have h : ¬ (Sum.inl a : Key) = Sum.inl b := fun q => e (Sum.inl.inj q)
    rw [decide_eq_false h]
    exact (beq_eq_false_iff_ne.mpr e).symm
theorem key_rr (a b : Str) : decide ((Sum.inr a : Key) = Sum.inr b) = decide (a = b) := by
  by_cases e : a = b
  · subst e; simp
  · have h : ¬ (Sum.inr a : Key) = Sum.inr b := fun q => e (Sum.inr.inj q)
    rw [decide_eq_false h, decide_eq_false e]
theorem key_lr (a : Int) (b : Str) : decide ((Sum.inl a : Key) = Sum.inr b) = false := decide_eq_false (fun q => nomatch q)
theorem key_rl (a : Str) (b : Int) : decide ((Sum.inr a : Key) = Sum.inl b) = false := decide_eq_false (fun q => nomatch q)

def mixKind (prog : Program) (w : World) : PySem.KeyKind prog w Key where
  is := keyIs
  hash := keyH w
  inj := fun v a b ha hb => by
    rcases keyIs_shape ha with ⟨i, t, rfl, rfl⟩ | ⟨x, t, rfl, rfl⟩
    · rcases keyIs_shape hb with ⟨j, u, rfl, e⟩ | ⟨y, u, rfl, e⟩
      · injection e with e1 _; rw [e1]
      · exact nomatch e
    · rcases keyIs_shape hb with ⟨j, u, rfl, e⟩ | ⟨y, u, rfl, e⟩
      · exact nomatch e
      · injection e with e1 _; rw [e1]
  byValue := fun k v h => by
    rcases keyIs_shape h with ⟨i, t, rfl, rfl⟩ | ⟨x, t, rfl, rfl⟩ <;> rfl
  pyHash := fun hv h => by
    rcases keyIs_shape hv with ⟨i, t, rfl, rfl⟩ | ⟨x, t, rfl, rfl⟩
    · exact wpAny_pyHash_int h
    · exact wpAny_pyHash_str h
  eqBool := fun hu hv h => by
    rcases keyIs_shape hu with ⟨i, t, rfl, rfl⟩ | ⟨x, t, rfl, rfl⟩
    · rcases keyIs_shape hv with ⟨j, u, rfl, rfl⟩ | ⟨y, u, rfl, rfl⟩
      · rw [key_ll] at h; exact wpAny_eqBool_int h
      · rw [key_lr] at h; exact SeqAt.EqAt.int_str i t y u _ _ _ _ h
    · rcases keyIs_shape hv with ⟨j, u, rfl, rfl⟩ | ⟨y, u, rfl, rfl⟩
      · rw [key_rl] at h; exact SeqAt.EqAt.str_int x t j u _ _ _ _ h
      · rw [key_rr] at h; exact wpAny_eqBool_str h
  «strs» := fun k x t v h => by
    rcases keyIs_shape h with ⟨i, u, rfl, e⟩ | ⟨y, u, rfl, e⟩
    · exact nomatch e
    · injection e with e1 _
      subst e1
      cases v <;> rfl

theorem mixKind_is (prog : Program) (w : World) (k : Key) (v : Value) : (mixKind prog w).is k v = keyIs k v := rfl
theorem mixKind_int (prog : Program) (w : World) (i : Int) (t : Tok) : (mixKind prog w).is (.inl i) (.int i t) = true := keyIs_int i t
theorem mixKind_str (prog : Program) (w : World) (x : Str) (t : Tok) : (mixKind prog w).is (.inr x) (.str x t) = true := keyIs_str x t
end L2

namespace L2
open PySem PySem.Spec PyProof.Rows

/-- a value, without the heap -/
inductive V where
  | non | bl (b : Bool) | int (i : Int) | str (x : Str) | byt (b : Array UInt8) | flt (b : UInt64) | ref (a : Addr) | ty (n : String)
  deriving DecidableEq

def RelV : V → Value → Prop
  | .non, u => u = Value.none
  | .bl b, u => u = Value.bool b
  | .int i, u => ∃ t, u = Value.int i t
  | .str x, u => ∃ t, u = Value.str x t
  | .byt b, u => ∃ t, u = Value.bytes b t
  | .flt b, u => ∃ t, u = Value.float b t
  | .ref a, u => u = Value.ref a
  | .ty n, u => u = Value.type n

abbrev Vals : List V → List Value → Prop := Paired RelV
theorem Vals.length {xs : List V} {us : List Value} (r : Vals xs us) : xs.length = us.length := Paired.length r
theorem Vals.get : ∀ {xs : List V} {us : List Value} {i : Nat} {x : V}, Vals xs us → xs[i]? = some x → ∃ u, us[i]? = some u ∧ RelV x u
  | _, _, _, _, .nil, e => by simp at e
  | _, _, 0, _, .cons r _, e => by simp at e; subst e; exact ⟨_, rfl, r⟩
  | _, _, i + 1, x, .cons _ t, e => by
    obtain ⟨u, h1, h2⟩ := Vals.get (i := i) (x := x) t (by simpa using e)
    exact ⟨u, by simpa using h1, h2⟩
theorem Vals.set {x : V} {u : Value} (r : RelV x u) : ∀ {xs : List V} {us : List Value} (i : Nat), Vals xs us → Vals (xs.set i x) (us.set i u)
  | _, _, _, .nil => .nil
  | _, _, 0, .cons _ t => .cons r t
  | _, _, i + 1, .cons q t => .cons q (Vals.set r i t)
theorem Vals.append : ∀ {xs ys : List V} {us ws : List Value}, Vals xs us → Vals ys ws → Vals (xs ++ ys) (us ++ ws)
  | _, _, _, _, .nil, s => s
  | _, _, _, _, .cons r t, s => .cons r (Vals.append t s)
theorem Vals.take : ∀ {xs : List V} {us : List Value} (n : Nat), Vals xs us → Vals (xs.take n) (us.take n)
  | _, _, 0, _ => .nil
  | _, _, _ + 1, .nil => .nil
  | _, _, n + 1, .cons r t => .cons r (Vals.take n t)
theorem Vals.drop : ∀ {xs : List V} {us : List Value} (n : Nat), Vals xs us → Vals (xs.drop n) (us.drop n)
  | _, _, 0, r => r
  | _, _, _ + 1, .nil => .nil
  | _, _, n + 1, .cons _ t => Vals.drop n t
theorem Vals.none_of : ∀ {xs : List V} {us : List Value} {i : Nat}, Vals xs us → xs[i]? = none → us[i]? = none := fun {xs us i} r e => by
  have h1 := r.length
  have h2 : xs.length ≤ i := List.getElem?_eq_none_iff.mp e
  exact List.getElem?_eq_none_iff.mpr (by omega)

def RelO : Option V → Option Value → Prop
  | some v, some u => RelV v u
  | none, none => True
  | _, _ => False
def KV {κ : Type} : List (κ × V) → List (κ × Value) → Prop := Paired fun (p : κ × V) (q : κ × Value) => p.1 = q.1 ∧ RelV p.2 q.2

/-- a key of a dict (00_mix): an int or a text -/
def kV : Key → V
  | .inl i => .int i
  | .inr x => .str x

/-- what stands at a tracked address -/
inductive HO where
  /-- a list -/
  | lst (xs : List V)
  /-- a tuple (never changes) -/
  | tup (xs : List V)
  /-- a dict whose keys are ints and texts; one whose keys are tuples of ints and texts (the empty one is both) -/
  | dK (kvs : List (Key × V)) | dT (kvs : List (List Key × V))
  /-- a set of ints: its members, its size -/
  | set (S : Int → Bool) (n : Nat)
  /-- an instance of the class at C, its dict at dx, its attributes -/
  | ins (C dx : Addr) (fs : List (Str × V))
  /-- the dict of the instance at x -/
  | own (x : Addr)
  /-- the dict of an exception -/
  | xd (fs : List (Str × V))
  /-- a bound method, f of x -/
  | met (f x : Addr)
  /-- a range object lo, lo + 1, .. below hi -/
  | rng (lo hi : Int)
  /-- a thing that is known to the object (the script; a dict while a loop walks it): read, never written while it is so -/
  | frz (o : Obj) (u : HO)
  /-- a code object's table -/
  | tbl (ps : Array Value)
  /-- any other thing, by what is true of its one object (a def of one's own: SetO a S n := HO.ext fun h => ..) -/
  | ext (φ : Heap → Prop)

abbrev Hp := Addr → Option HO
def upd (H : Hp) (a : Addr) (o : HO) : Hp := fun b => if b = a then some o else H b
theorem upd_same {H : Hp} {a : Addr} {o : HO} : upd H a o a = some o := by unfold upd; rw [if_pos rfl]
theorem upd_ne {H : Hp} {a b : Addr} {o : HO} (h : b ≠ a) : upd H a o b = H b := by unfold upd; rw [if_neg h]
theorem upd_upd {H : Hp} {a : Addr} {o u : HO} : upd (upd H a o) a u = upd H a u := by
  funext b; unfold upd; split <;> rfl
/-- two objects of different content stand apart -/
theorem ne_of {H : Hp} {a b : Addr} {o u : HO} (h : H a = some o) (h' : H b = some u) (d : o ≠ u) : a ≠ b := by
  intro e; subst e; rw [h] at h'; exact d (Option.some.inj h')
theorem ne_of_none {H : Hp} {a b : Addr} {o : HO} (h : H a = some o) (h' : H b = none) : a ≠ b := by
  intro e; subst e; rw [h] at h'; cases h'

section
variable (P : Program) (w : World)
def ObjOk (H : Hp) (h : Heap) (a : Addr) : HO → Prop
  | .lst xs => xs.length ≤ sizeLine ∧ ∃ (its : List Value) (n : Nat), Vals xs its ∧ h.get? a = some { cls := .type "list", data := .seq its.toArray n }
  | .tup xs => xs.length ≤ sizeLine ∧ ∃ its : List Value, Vals xs its ∧ IsTup h a its.toArray
  | .dK kvs => kvs.length ≤ sizeLine ∧ (a == sysModules) = false ∧ ∃ vs, KV kvs vs ∧ h.DictOf (mixKind P w) a vs
  | .dT kvs => kvs.length ≤ sizeLine ∧ (a == sysModules) = false ∧ ∃ xs : List (List Key × Addr × Value),
      Paired (fun (p : List Key × V) (q : List Key × Addr × Value) => p.1 = q.1 ∧ H q.2.1 = some (.tup (p.1.map kV)) ∧ RelV p.2 q.2.2) kvs xs ∧
      ∃ o es ep, h.get? a = some o ∧ o.ExactDict ∧ o.data = .dict es ep ∧ es.toList = xs.map (entryOfKey (tupleKind (mixKind P w))) ∧ (xs.map (·.1)).Nodup
  | .set S n => h.SetOf (intKind P w) a S n
  | .ins C dx fs => H dx = some (.own a) ∧ fs.length ≤ 1000 ∧ dx ≠ a ∧ h.get? a = some (PySem.W.instObj C dx) ∧
      ∃ mA, h.Ns1 dx mA ∧ (∀ f, RelO (fs.lookup f) (mA f)) ∧ PySem.Within mA (fs.map (·.1))
  | .own _ => ∃ o, h.get? a = some o
  | .xd fs => ∃ mA, h.Ns1 a mA ∧ ∀ f, RelO (fs.lookup f) (mA f)
  | .rng lo hi => ∃ t u v, h.get? a = some { cls := .type "range", data := .fields #[.int lo t, .int hi u, .int 1 v] }
  | .frz o u => h.get? a = some o ∧ ObjOk H h a u
  | .tbl d => ∃ ps, h.get? a = some { cls := .none, data := .fields ps } ∧ (ps = #[] ∨ ∃ (l k : Value) (q : Str) (t : Tok) (c : Addr), d = #[l, k, .str q t] ∧ ps = #[l, k, .ref c] ∧ H c = some (.own a) ∧ h.CodeRec (.ref c) q)
  | .met f x => h.get? a = some (PySem.W.methodObj (.ref f) (.ref x))
  | .ext φ => φ h ∧ (∃ o, h.get? a = some o) ∧ ∀ h1 h2 : Heap, φ h1 → (∀ o, h1.get? a = some o → h2.get? a = some o) → φ h2
/-- the abstract heap is held -/
def HOk (H : Hp) (h : Heap) : Prop := ∀ a o, H a = some o → ObjOk P w H h a o
end

section
variable {P : Program} {w : World} {H H' : Hp} {h h' : Heap} {a : Addr} {o : HO}
theorem ObjOk.lt (x : ObjOk P w H h a o) : a < h.objs.size := by
  cases o with
  | lst xs => obtain ⟨_, _, _, _, e⟩ := x; exact Heap.lt_size e
  | tup xs => obtain ⟨_, _, _, p⟩ := x; exact p.lt
  | dK kvs => obtain ⟨_, _, _, _, o, _, _, e, _⟩ := x; exact Heap.lt_size e
  | dT kvs => obtain ⟨_, _, _, _, o, _, _, e, _⟩ := x; exact Heap.lt_size e
  | set S n => obtain ⟨o, _, _, _, e, _⟩ := x; exact Heap.lt_size e
  | ins C dx fs => obtain ⟨_, _, _, e, _⟩ := x; exact Heap.lt_size e
  | own y => obtain ⟨_, e⟩ := x; exact Heap.lt_size e
  | xd fs => obtain ⟨_, ⟨_, _, _, e, _⟩, _⟩ := x; exact Heap.lt_size e
  | rng lo hi => obtain ⟨_, _, _, e⟩ := x; exact Heap.lt_size e
  | frz ob u => obtain ⟨e, _⟩ := x; exact Heap.lt_size e
  | tbl ps => obtain ⟨_, e, _⟩ := x; exact Heap.lt_size e
  | met f y => exact Heap.lt_size (show h.get? a = some _ from x)
  | ext φ => obtain ⟨_, ⟨_, e⟩, _⟩ := x; exact Heap.lt_size e
theorem Paired.mapP {α β : Type} {F G : α → β → Prop} : ∀ {l₁ : List α} {l₂ : List β}, Paired F l₁ l₂ → (∀ a b, F a b → G a b) → Paired G l₁ l₂
  | _, _, .nil, _ => .nil
  | _, _, .cons r t, f => .cons (f _ _ r) (Paired.mapP t f)
theorem Paired.imp' {α β : Type} {F G : α → β → Prop} (f : ∀ a b, F a b → G a b) {l₁ : List α} {l₂ : List β} (r : Paired F l₁ l₂) : Paired G l₁ l₂ := Paired.mapP r f
/-- what an object's description leans on: its own object, its own dict, the tuples -/
theorem ObjOk.stay (x : ObjOk P w H h a o) (k : ∀ b u, (b = a ∨ H b = some (.own a)) → h.get? b = some u → h'.get? b = some u)
    (ho : ∀ b, H b = some (.own a) → H' b = some (.own a)) (ht : ∀ b xs, H b = some (.tup xs) → H' b = some (.tup xs)) : ObjOk P w H' h' a o := by
  induction o with
  | lst xs => obtain ⟨z, its, n, r, e⟩ := x; exact ⟨z, its, n, r, k _ _ (.inl rfl) e⟩
  | tup xs => obtain ⟨z, its, r, ob, e, c⟩ := x; exact ⟨z, its, r, ob, k _ _ (.inl rfl) e, c⟩
  | dK kvs => obtain ⟨z, y, vs, r, ob, es, ep, e, c⟩ := x; exact ⟨z, y, vs, r, ob, es, ep, k _ _ (.inl rfl) e, c⟩
  | dT kvs =>
    obtain ⟨z, y, xs, r, ob, es, ep, e, c⟩ := x
    exact ⟨z, y, xs, Paired.mapP r fun p q z => ⟨z.1, ht _ _ z.2.1, z.2.2⟩, ob, es, ep, k _ _ (.inl rfl) e, c⟩
  | set S n => obtain ⟨ob, es, ep, t, e, c⟩ := x; exact ⟨ob, es, ep, t, k _ _ (.inl rfl) e, c⟩
  | ins C dx fs =>
    obtain ⟨d, z, ne, e, mA, ⟨od, es, ep, e2, c⟩, r⟩ := x
    exact ⟨ho _ d, z, ne, k _ _ (.inl rfl) e, mA, ⟨od, es, ep, k _ _ (.inr d) e2, c⟩, r⟩
  | own y => obtain ⟨ob, e⟩ := x; exact ⟨ob, k _ _ (.inl rfl) e⟩
  | xd fs => obtain ⟨mA, ⟨od, es, ep, e, c⟩, r⟩ := x; exact ⟨mA, ⟨od, es, ep, k _ _ (.inl rfl) e, c⟩, r⟩
  | rng lo hi => obtain ⟨t, u, v, e⟩ := x; exact ⟨t, u, v, k _ _ (.inl rfl) e⟩
  | frz ob u ih => obtain ⟨e, q⟩ := x; exact ⟨k _ _ (.inl rfl) e, ih q⟩
  | tbl d =>
    obtain ⟨ps, e, r⟩ := x
    refine ⟨ps, k a _ (.inl rfl) e, ?_⟩
    rcases r with r | ⟨l, k', q, t, c, e1, e2, e3, c2, oc, vs, t2, f1, f2, f3, f4⟩
    · exact .inl r
    · cases f1
      exact .inr ⟨l, k', q, t, c, e1, e2, ho _ e3, c, oc, vs, t2, rfl, k c oc (.inr e3) f2, f3, f4⟩
  | met f y =>
    have e : h.get? a = some (PySem.W.methodObj (.ref f) (.ref y)) := x
    show h'.get? a = some (PySem.W.methodObj (.ref f) (.ref y))
    exact k a _ (.inl rfl) e
  | ext φ => obtain ⟨p, ⟨o, e⟩, st⟩ := x; exact ⟨st _ _ p fun o q => k _ _ (.inl rfl) q, ⟨o, k _ _ (.inl rfl) e⟩, st⟩
theorem HOk.lt (x : HOk P w H h) (e : H a = some o) : a < h.objs.size := (x a o e).lt
theorem HOk.fresh (x : HOk P w H h) (e : h.objs.size ≤ a) : H a = none := by
  cases q : H a with
  | none => rfl
  | some u => exact absurd (Nat.lt_of_lt_of_le (x.lt q) e) (Nat.lt_irrefl _)
/-- every object of the heap is kept -/
theorem HOk.kept (x : HOk P w H h) (k : ∀ b u, h.get? b = some u → h'.get? b = some u) : HOk P w H h' := fun a o e =>
  (x a o e).stay (fun b u _ q => k b u q) (fun _ q => q) fun _ _ q => q
/-- a new object is laid and tracked -/
theorem HOk.laid (x : HOk P w H h) (k : ∀ b u, h.get? b = some u → h'.get? b = some u) (hp : h.objs.size ≤ a) (new : ObjOk P w (upd H a o) h' a o) : HOk P w (upd H a o) h' := fun b u e => by
  have hn := x.fresh hp
  by_cases hb : b = a
  · subst hb; rw [upd_same] at e; cases e; exact new
  · rw [upd_ne hb] at e
    exact (x b u e).stay (fun c v _ q => k c v q) (fun c q => by rw [upd_ne (ne_of_none q hn)]; exact q) fun c xs q => by rw [upd_ne (ne_of_none q hn)]; exact q
end

/-- what may be read as u: it is u, or a known u -/
def Rd (H : Hp) (a : Addr) (u : HO) : Prop := H a = some u ∨ ∃ o, H a = some (.frz o u)
theorem Rd.of {H : Hp} {a : Addr} {u : HO} (h : H a = some u) : Rd H a u := .inl h
theorem Rd.ok {P : Program} {w : World} {H : Hp} {h : Heap} {a : Addr} {u : HO} (r : Rd H a u) (x : HOk P w H h) : ObjOk P w H h a u := by
  rcases r with r | ⟨o, r⟩
  · exact x a u r
  · obtain ⟨_, q⟩ := x a _ r
    exact q
/-- what may be written -/
def Mut : Option HO → Prop
  | some (.lst _) => True
  | some (.dK _) => True
  | some (.dT _) => True
  | some (.set _ _) => True
  | some (.ins _ _ _) => True
  | some (.ext _) => True
  | _ => False
section
variable {P : Program} {w : World} {H : Hp} {h h' : Heap} {x e : Addr} {o' : HO}
/-- the object at e is changed: x itself, or the dict of the instance x -/
theorem HOk.write (ok : HOk P w H h) (mu : Mut (H x)) (he : e = x ∨ H e = some (.own x)) (k : ∀ b u, b ≠ e → h.get? b = some u → h'.get? b = some u) (heo : ∃ u, h'.get? e = some u)
    (new : ObjOk P w (upd H x o') h' x o') : HOk P w (upd H x o') h' := fun b u q => by
  have nown : ∀ c y, H c = some (.own y) → c ≠ x := fun c y r z => by subst z; rw [r] at mu; exact mu
  have ntup : ∀ c xs, H c = some (.tup xs) → c ≠ x := fun c xs r z => by subst z; rw [r] at mu; exact mu
  by_cases hb : b = x
  · subst hb; rw [upd_same] at q; cases q; exact new
  · rw [upd_ne hb] at q
    by_cases hbe : b = e
    · have q' : H b = some (.own x) := by
        rcases he with z | z
        · exact absurd (hbe.trans z) hb
        · rw [hbe]; exact z
      rw [q] at q'; cases q'
      obtain ⟨v, hv⟩ := heo
      exact ⟨v, by rw [hbe]; exact hv⟩
    · refine (ok b u q).stay (fun c v hc r => k c v ?_ r) (fun c r => by rw [upd_ne (nown c b r)]; exact r) fun c xs r => by rw [upd_ne (ntup c xs r)]; exact r
      rcases hc with rfl | hc
      · exact hbe
      · rintro rfl
        rcases he with z | z
        · exact nown c b hc z
        · rw [hc] at z; cases z; exact hb rfl
end

/-! ### kept unless tracked; of the frames at fs (the callers') the slots may change (an exception that passes writes there); of the records at ex (iterators) nothing is said -/
structure Un (fs ex : List Addr) (H H' : Hp) (h h' : Heap) : Prop where
  keep : ∀ b o, h.get? b = some o → H b = none → b ∉ fs → b ∉ ex → h'.get? b = some o
  slot : ∀ b o, h.get? b = some o → H b = none → b ∈ fs → b ∉ ex → ∃ sl, h'.get? b = some { o with slots := sl }
  free : ∀ b o, h.get? b = some o → H b = none → b ∉ ex → H' b = none
  there : ∀ b o, h.get? b = some o → b ∉ ex → ∃ o', h'.get? b = some o'
  tups : ∀ b xs, H b = some (.tup xs) → H' b = some (.tup xs)
  frzs : ∀ b o u, H b = some (.frz o u) → H' b = some (.frz o u)
  tbls : ∀ b ps, H b = some (.tbl ps) → ∃ more, H' b = some (.tbl (ps ++ more))
section
variable {fs fs' ex ex' : List Addr} {H H1 H2 : Hp} {h h1 h2 h' : Heap} {a x e : Addr} {o : HO}
theorem Un.any (u : Un fs ex H H1 h h1) {b : Addr} {ob : Obj} (q : h.get? b = some ob) (n : H b = none) (hx : b ∉ ex) : ∃ sl, h1.get? b = some { ob with slots := sl } := by
  by_cases hb : b ∈ fs
  · exact u.slot b ob q n hb hx
  · exact ⟨ob.slots, u.keep b ob q n hb hx⟩
theorem Un.trans (a : Un fs ex H H1 h h1) (b : Un fs ex H1 H2 h1 h2) : Un fs ex H H2 h h2 where
  keep := fun c ob q n hc hx => b.keep c ob (a.keep c ob q n hc hx) (a.free c ob q n hx) hc hx
  slot := fun c ob q n hc hx => by
    obtain ⟨sl, e1⟩ := a.slot c ob q n hc hx
    obtain ⟨sl', e2⟩ := b.slot c _ e1 (a.free c ob q n hx) hc hx
    exact ⟨sl', e2⟩
  free := fun c ob q n hx => by
    obtain ⟨o', e1⟩ := a.there c ob q hx
    exact b.free c o' e1 (a.free c ob q n hx) hx
  there := fun c ob q hx => by
    obtain ⟨o', e1⟩ := a.there c ob q hx
    exact b.there c o' e1 hx
  tups := fun c xs q => b.tups c xs (a.tups c xs q)
  frzs := fun c ob xs q => b.frzs c ob xs (a.frzs c ob xs q)
  tbls := fun c ps q => by
    obtain ⟨m1, e1⟩ := a.tbls c ps q
    obtain ⟨m2, e2⟩ := b.tbls c _ e1
    exact ⟨m1 ++ m2, by rw [e2, Array.append_assoc]⟩
theorem Un.kept (k : ∀ b u, h.get? b = some u → h'.get? b = some u) : Un fs ex H H h h' :=
  ⟨fun b ob q _ _ _ => k b ob q, fun b ob q _ _ _ => ⟨ob.slots, k b ob q⟩, fun _ _ _ n _ => n, fun b ob q _ => ⟨ob, k b ob q⟩, fun _ _ q => q, fun _ _ _ q => q, fun _ ps q => ⟨#[], by rw [q]; simp⟩⟩
theorem Un.refl : Un fs ex H H h h := Un.kept fun _ _ q => q
theorem Un.laid (k : ∀ b u, h.get? b = some u → h'.get? b = some u) (hp : h.objs.size ≤ a) (hn : H a = none) : Un fs ex H (upd H a o) h h' where
  keep := fun b u q _ _ _ => k b u q
  slot := fun b u q _ _ _ => ⟨u.slots, k b u q⟩
  free := fun b u q n _ => by rw [upd_ne (Nat.ne_of_lt (Nat.lt_of_lt_of_le (Heap.lt_size q) hp))]; exact n
  there := fun b u q _ => ⟨u, k b u q⟩
  tups := fun b xs q => by rw [upd_ne (ne_of_none q hn)]; exact q
  frzs := fun b u xs q => by rw [upd_ne (ne_of_none q hn)]; exact q
  tbls := fun b ps q => ⟨#[], by rw [upd_ne (ne_of_none q hn), q]; simp⟩
theorem Un.write (mu : Mut (H x)) (he : e = x ∨ H e = some (.own x)) (k : ∀ b u, b ≠ e → h.get? b = some u → h'.get? b = some u) (heo : ∃ u, h'.get? e = some u) : Un fs ex H (upd H x o) h h' := by
  have hx : ∀ b, H b = none → b ≠ x := fun b n z => by subst z; rw [n] at mu; exact mu
  have hb : ∀ b, H b = none → b ≠ e := fun b n z => by
    subst z
    rcases he with r | r
    · exact hx b n r
    · rw [n] at r; cases r
  have hm : ∀ b u, H b = some u → ¬ Mut (some u) → b ≠ x := fun b u q nm z => by subst z; rw [q] at mu; exact nm mu
  refine ⟨fun b u q n _ _ => k b u (hb b n) q, fun b u q n _ _ => ⟨u.slots, k b u (hb b n) q⟩, fun b u q n _ => by rw [upd_ne (hx b n)]; exact n, fun b u q _ => ?_,
    fun b xs q => by rw [upd_ne (hm b _ q fun z => z)]; exact q, fun b u xs q => by rw [upd_ne (hm b _ q fun z => z)]; exact q, fun b ps q => ⟨#[], by rw [upd_ne (hm b _ q fun z => z), q]; simp⟩⟩
  by_cases hbe : b = e
  · subst hbe; exact heo
  · exact ⟨u, k b u hbe q⟩
theorem Un.mono (u : Un fs ex H H1 h h1) (hs : ∀ b ∈ fs, b ∈ fs') (hx : ∀ b ∈ ex, b ∈ ex') : Un fs' ex' H H1 h h1 :=
  ⟨fun b ob q n hb he => u.keep b ob q n (fun z => hb (hs b z)) fun z => he (hx b z), fun _ _ q n _ he => u.any q n fun z => he (hx _ z), fun b ob q n he => u.free b ob q n fun z => he (hx b z), fun b ob q he => u.there b ob q fun z => he (hx b z), u.tups, u.frzs, u.tbls⟩
end

/-! ### the heap without what is tracked -/
def trk (h : Heap) (H : Hp) : List Addr := (List.range h.objs.size).filter fun a => (H a).isSome
def hidT (h : Heap) (H : Hp) : Heap := PySem.W.hideAll h (trk h H)
theorem hidT_size (h : Heap) (H : Hp) : (hidT h H).objs.size = h.objs.size := PySem.W.hideAll_size _ _
theorem hidT_get {h : Heap} {H : Hp} {b : Addr} {o : Obj} (e : h.get? b = some o) (n : H b = none) : (hidT h H).get? b = some o :=
  PySem.W.hideAll_get _ e fun hm => by
    have q : (H b).isSome = true := (List.mem_filter.mp hm).2
    rw [n] at q; simp at q
theorem of_hidT {h : Heap} {H : Hp} {b : Addr} {o : Obj} (e : (hidT h H).get? b = some o) : h.get? b = some o ∧ H b = none := by
  have e' : h.get? b = some o := PySem.W.of_hideAll (trk h H) e
  refine ⟨e', ?_⟩
  cases q : H b with
  | none => rfl
  | some x =>
    have hm : b ∈ trk h H := List.mem_filter.mpr ⟨List.mem_range.mpr (Heap.lt_size e'), by simp [q]⟩
    have z : (hidT h H).get? b = none := PySem.W.hideAll_none (trk h H) hm
    rw [z] at e; cases e

/-! ### OpenK's ledger, filled with every new object but one -/
def allNews (g h : Heap) (L : Addr) : List (Addr × Obj) := (List.range h.objs.size).filterMap fun a => if a = L ∨ (g.get? a).isSome = true then none else (h.get? a).map fun o => (a, o)
theorem mem_allNews {g h : Heap} {L a : Addr} {o : Obj} (h1 : a ≠ L) (h2 : g.get? a = none) (h3 : h.get? a = some o) : (a, o) ∈ allNews g h L :=
  List.mem_filterMap.mpr ⟨a, List.mem_range.mpr (Heap.lt_size h3), by simp [h1, h2, h3]⟩
theorem of_mem_allNews {g h : Heap} {L : Addr} {p : Addr × Obj} (hp : p ∈ allNews g h L) : p.1 ≠ L ∧ g.get? p.1 = none ∧ h.get? p.1 = some p.2 := by
  obtain ⟨b, _, e⟩ := List.mem_filterMap.mp hp
  split at e
  · cases e
  · rename_i hn
    cases q : h.get? b with
    | none => rw [q] at e; simp at e
    | some u =>
      rw [q] at e
      simp only [Option.map_some, Option.some.injEq] at e
      subst e
      refine ⟨fun z => hn (.inl z), ?_, q⟩
      show g.get? b = none
      cases r : g.get? b with
      | none => rfl
      | some v => exact (hn (.inr (by simp [r]))).elim
def rest (g h : Heap) (L d : Addr) : List (Addr × Obj) := (allNews g h L).filter fun p => decide (p.1 ≠ d)
theorem rest_ne {g h : Heap} {L d : Addr} : ∀ p ∈ rest g h L d, p.1 ≠ d := fun p hp => of_decide_eq_true (List.mem_filter.mp hp).2
theorem mem_rest {g h : Heap} {L d a : Addr} {o : Obj} (h1 : a ≠ L) (h2 : g.get? a = none) (h3 : h.get? a = some o) (h4 : a ≠ d) : (a, o) ∈ rest g h L d :=
  List.mem_filter.mpr ⟨mem_allNews h1 h2 h3, decide_eq_true h4⟩
theorem news_all {g h : Heap} {L : Addr} : News g L h (allNews g h L) := fun p hp => let ⟨a, b, c⟩ := of_mem_allNews hp; ⟨c, a, b⟩
theorem news_at {g h : Heap} {L d : Addr} {o : Obj} (h1 : d ≠ L) (h2 : g.get? d = none) (h3 : h.get? d = some o) : News g L h ((d, o) :: rest g h L d) := fun p hp => by
  rcases List.mem_cons.mp hp with rfl | hp
  · exact ⟨h3, h1, h2⟩
  · exact news_all p (List.mem_filter.mp hp).1
/-- behind a rule that changed d alone: all else but the frame is kept -/
theorem kept_of_news {g h h' : Heap} {L d : Addr} {m : Str → Option Value} (k : ∀ b o, g.get? b = some o → h.get? b = some o) (F : Fr g L h' m) (N : News g L h' (rest g h L d)) :
    ∀ b o, b ≠ L → b ≠ d → h.get? b = some o → h'.get? b = some o := fun b o h1 h2 e => by
  cases q : g.get? b with
  | some u =>
    have := k b u q
    rw [e] at this; cases this
    exact F.keep b _ q
  | none => exact (N (b, o) (mem_rest h1 q e h2)).1
end L2

namespace L2
open PySem PySem.Spec PyProof.Rows

/-- the module's facts, over the base: the heap at the law's entry without what is tracked there -/
structure Mod (K : PySem.W.Frag) (mg : Str → Option Value) (base : Heap) : Prop where
  kin : K.In base
  glob : base.Ns mainGlobals mg
  blt : ∃ mb, base.Ns builtinsNs mb ∧ ∀ x : Str, x ≠ "__name__" → mb x = bootBuiltins x
  nolimit : base.NoLimit

/-- the context: a def's body (or a comprehension's block) running. base: fixed through the whole law; s₀, H₀: the entry; outer: the frames whose slots others may change (a def's callers); stack: all frames that run;
   ex: iterators that were made ahead of the entry and are walked here (a comprehension's); fn: the names whose cells were made at the entry (a def: all; a comprehension's block: its own); calm: not within an except suite; pn: pins that every state bears; xe: what is wanted of an exception that leaves the code -/
structure Cx where
  prog : Program
  w : World
  K : PySem.W.Frag
  mg : Str → Option Value
  base : Heap
  A : Around
  N : List Str
  s₀ : Shared
  H₀ : Hp
  env : Env
  outer : List Env
  stack : List Env
  ex : List Addr
  fn : Str → Bool
  calm : Bool
  pn : List (Addr × Obj)
  xe : Value → Shared → Prop
/-- the callers' frames -/
def frs (l : List Env) : List Addr := l.filterMap (·.frame)
abbrev Cx.fs (X : Cx) : List Addr := frs X.outer

def Vis (sc : Scope) (x : Str) : Prop := sc.names.lookup x = some .local ∨ sc.names.lookup x = some .cell ∨ sc.names.lookup x = some .free
def Loc (sc : Scope) (x : Str) : Prop := sc.names.lookup x = some .local ∨ sc.names.lookup x = some .cell
def Look (env : Env) (h : Heap) (m : Str → Option Value) (x : Str) (u : Value) : Prop :=
  (env.kindOf x = some .local ∧ m x = some u) ∨ ((env.kindOf x = some .cell ∨ env.kindOf x = some .free) ∧ ∃ c, env.cells.lookup x = some c ∧ h.IsCell c (some u))

structure Cx.Ok (X : Cx) : Prop where
  mod : Mod X.K X.mg X.base
  kind : X.env.scope.kind = .function
  glob : X.env.globals = mainGlobals
  blt : X.env.builtins = builtinsNs
  above : X.s₀.heap.objs.size ≤ X.env.locals
  inj : ∀ x y c, X.env.cells.lookup x = some c → X.env.cells.lookup y = some c → x = y
  has : ∀ x, (X.env.kindOf x = some .cell ∨ X.env.kindOf x = some .free) → ∃ c, X.env.cells.lookup x = some c
  cab : ∀ x c, X.fn x = true → X.env.cells.lookup x = some c → X.s₀.heap.objs.size ≤ c
  hd : X.calm = true → X.A.handled = none
  frames : X.A.frames = some X.stack
  stk : X.stack = X.outer ∨ (X.stack = X.env :: X.outer ∧ X.env.frame = some X.env.locals)
  exf : ∀ b ∈ X.ex, b ≠ X.env.locals ∧ ∀ x c, X.env.cells.lookup x = some c → c ≠ b
  bs : ∀ b o, X.base.get? b = some o → X.s₀.heap.get? b = some o ∧ X.H₀ b = none
  bsz : X.base.objs.size ≤ X.s₀.heap.objs.size
  noex : ∀ b o, X.base.get? b = some o → b ∉ X.ex
  exfs : ∀ b ∈ X.ex, b ∉ X.fs
  funs : X.s₀.heap.FunFrames X.base X.outer
  frf : ∀ b ∈ X.fs, X.H₀ b = none

structure Inv (X : Cx) (pins : List (Addr × Obj)) (σ : List (Option V)) (H : Hp) (s : Shared) : Prop where
  ok : X.Ok
  os : s.os = X.s₀.os
  bare : AllBare s.gens
  base : Un X.fs X.ex X.H₀ H X.s₀.heap s.heap
  loc : ∃ m, s.heap.Ns X.env.locals m ∧ ∀ (i : Nat) (x : Str) (v : V), X.N[i]? = some x → σ[i]? = some (some v) → Vis X.env.scope x → ∃ u, RelV v u ∧ Look X.env s.heap m x u
  cell : ∀ x c, X.env.cells.lookup x = some c → ∃ v, s.heap.IsCell c v
  free : H X.env.locals = none
  freeC : ∀ x c, X.env.cells.lookup x = some c → H c = none
  pin : ∀ p ∈ X.pn ++ pins, s.heap.get? p.1 = some p.2 ∧ H p.1 = none ∧ p.1 ≠ X.env.locals ∧ p.1 ∉ X.fs ∧ ∀ v, p.2.data ≠ .cell v
  hok : HOk X.prog X.w H s.heap
  len : σ.length = X.N.length

section
variable {X : Cx} {pins : List (Addr × Obj)} {σ : List (Option V)} {H H' : Hp} {s : Shared} {h' : Heap}

theorem Cx.Ok.nofr (ok : X.Ok) {b : Addr} {o : Obj} (e : X.base.get? b = some o) : b ∉ X.fs := fun hb => by
  have := (ok.funs.mem hb).1
  rw [e] at this; cases this
theorem Inv.bs (I : Inv X pins σ H s) : ∀ b o, X.base.get? b = some o → s.heap.get? b = some o ∧ H b = none := fun b o e =>
  ⟨I.base.keep b o (I.ok.bs b o e).1 (I.ok.bs b o e).2 (I.ok.nofr e) (I.ok.noex b o e), I.base.free b o (I.ok.bs b o e).1 (I.ok.bs b o e).2 (I.ok.noex b o e)⟩
theorem Inv.bk (I : Inv X pins σ H s) : ∀ b o, X.base.get? b = some o → s.heap.get? b = some o := fun b o e => (I.bs b o e).1
theorem Inv.mod (I : Inv X pins σ H s) : Mod X.K X.mg X.base := I.ok.mod
theorem Inv.kIn (I : Inv X pins σ H s) : X.K.In s.heap := I.ok.mod.kin.keeps I.bk
theorem Inv.nolimit (I : Inv X pins σ H s) : s.heap.NoLimit := I.ok.mod.nolimit.keeps I.bk
/-- the frame over the base: for OpenK's rules (K.In X.base is I.mod.kin) -/
theorem Inv.fr (I : Inv X pins σ H s) : ∃ m, Fr X.base X.env.locals s.heap m :=
  let ⟨m, hn, _⟩ := I.loc
  ⟨m, hn, I.bk, Nat.le_trans I.ok.bsz I.ok.above⟩
theorem Inv.lt (I : Inv X pins σ H s) : X.env.locals < s.heap.objs.size := let ⟨_, hn, _⟩ := I.loc; hn.lt
theorem Inv.sz (I : Inv X pins σ H s) : X.s₀.heap.objs.size ≤ s.heap.objs.size := Nat.le_trans I.ok.above (Nat.le_of_lt I.lt)
theorem Inv.nofs (I : Inv X pins σ H s) {a : Addr} (h : s.heap.objs.size ≤ a) : a ∉ X.fs := fun hb => by
  obtain ⟨_, o, ho, _⟩ := I.ok.funs.mem hb
  exact absurd (Nat.lt_of_lt_of_le (Heap.lt_size ho) (Nat.le_trans I.sz h)) (Nat.lt_irrefl _)
theorem Inv.cne (I : Inv X pins σ H s) : ∀ x c, X.env.cells.lookup x = some c → c ≠ X.env.locals := fun x c e z => by
  obtain ⟨v, o, ho, hd⟩ := I.cell x c e
  obtain ⟨m, ⟨o', es, ep, ho', hd', _⟩, _⟩ := I.loc
  rw [z, ho'] at ho; cases ho; rw [hd'] at hd; cases hd
theorem Inv.funs (I : Inv X pins σ H s) : s.heap.FunFrames X.base X.outer := by
  have all : ∀ (l : List Env), (∀ b ∈ frs l, b ∈ X.fs) → X.s₀.heap.FunFrames X.base l → s.heap.FunFrames X.base l := by
    intro l
    induction l with
    | nil => intro _ _; trivial
    | cons env r ih =>
      intro hs hl
      obtain ⟨hk, ⟨L, o, hf, hn, ho, hd⟩, hr⟩ := hl
      have hL : L ∈ X.fs := hs L (by unfold frs; rw [List.filterMap_cons, hf]; exact List.mem_cons_self)
      obtain ⟨sl, e⟩ := I.base.slot L o ho (I.ok.frf L hL) hL fun z => I.ok.exfs L z hL
      exact ⟨hk, ⟨L, _, hf, hn, e, hd⟩, ih (fun b hb => hs b (by unfold frs; rw [List.filterMap_cons, hf]; exact List.mem_cons_of_mem _ hb)) hr⟩
  exact all X.outer (fun _ hb => hb) I.ok.funs

/-- the frames that run, for a call -/
theorem Inv.stack (I : Inv X pins σ H s) : s.heap.FunFrames X.base X.stack := by
  rcases I.ok.stk with e | ⟨e, hf⟩
  · rw [e]; exact I.funs
  · rw [e]
    obtain ⟨m, hn, _⟩ := I.loc
    refine .cons (by rw [I.ok.kind]; decide) hf hn ?_ I.funs
    exact Heap.get?_none_of_le (Nat.le_trans I.ok.bsz I.ok.above)
theorem Inv.stkSub (I : Inv X pins σ H s) : ∀ b ∈ frs X.stack, b ∈ X.env.locals :: X.fs := fun b hb => by
  rcases I.ok.stk with e | ⟨e, hf⟩
  · rw [e] at hb; exact List.mem_cons_of_mem _ hb
  · rw [e] at hb
    unfold frs at hb
    rw [List.filterMap_cons, hf] at hb
    exact hb
theorem Inv.stkFree (I : Inv X pins σ H s) : ∀ b ∈ frs X.stack, H b = none := fun b hb => by
  rcases List.mem_cons.mp (I.stkSub b hb) with e | hb
  · rw [e]; exact I.free
  · obtain ⟨_, o, ho, _⟩ := I.ok.funs.mem hb
    exact I.base.free b o ho (I.ok.frf b hb) fun z => I.ok.exfs b z hb

/-- THE STEP: the untracked objects but the frame and the records at ch are kept (the callers' frames up to slots), the frame's map is kept, the new abstract heap is held -/
theorem Inv.step {g' : Array GenState} {t' : Nat} {d' : Drawn} {ch : List Addr} (I : Inv X pins σ H s)
    (hch : ∀ b ∈ ch, (b ∈ X.ex ∨ X.s₀.heap.objs.size ≤ b) ∧ b ≠ X.env.locals ∧ (∀ x c, X.env.cells.lookup x = some c → c ≠ b) ∧ ∀ p ∈ X.pn ++ pins, p.1 ≠ b)
    (keep : ∀ b o, b ≠ X.env.locals → b ∉ X.fs → b ∉ ch → s.heap.get? b = some o → H b = none → h'.get? b = some o)
    (slot : ∀ b o, b ≠ X.env.locals → b ∈ X.fs → b ∉ ch → s.heap.get? b = some o → H b = none → ∃ sl, h'.get? b = some { o with slots := sl }) (free : ∀ b o, b ∉ ch → s.heap.get? b = some o → H b = none → H' b = none)
    (there : ∀ b o, b ∉ ch → s.heap.get? b = some o → ∃ o', h'.get? b = some o')
    (tups : ∀ b xs, H b = some (.tup xs) → H' b = some (.tup xs)) (frzs : ∀ b o u, H b = some (.frz o u) → H' b = some (.frz o u)) (tbls : ∀ b ps, H b = some (.tbl ps) → ∃ more, H' b = some (.tbl (ps ++ more)))
    (ns : ∀ m, s.heap.Ns X.env.locals m → h'.Ns X.env.locals m) (hok : HOk X.prog X.w H' h') (hg : AllBare g') :
    Inv X pins σ H' { s with heap := h', gens := g', drawn := d', toks := t' } := by
  have neL : ∀ b o, X.s₀.heap.get? b = some o → b ≠ X.env.locals := fun b o e => Nat.ne_of_lt (Nat.lt_of_lt_of_le (Heap.lt_size e) I.ok.above)
  have neC : ∀ b o, X.s₀.heap.get? b = some o → b ∉ X.ex → b ∉ ch := fun b o e hx hb => by
    rcases (hch b hb).1 with z | z
    · exact hx z
    · exact absurd (Nat.lt_of_lt_of_le (Heap.lt_size e) z) (Nat.lt_irrefl _)
  have cellK : ∀ x c, X.env.cells.lookup x = some c → ∀ v, s.heap.IsCell c v → h'.IsCell c v := fun x c e v ⟨o, ho, hd⟩ => by
    have nch : c ∉ ch := fun z => (hch c z).2.2.1 x c e rfl
    by_cases hc : c ∈ X.fs
    · obtain ⟨sl, q⟩ := slot c o (I.cne x c e) hc nch ho (I.freeC x c e)
      exact ⟨_, q, hd⟩
    · exact ⟨o, keep c o (I.cne x c e) hc nch ho (I.freeC x c e), hd⟩
  refine ⟨I.ok, I.os, hg, ⟨fun b o e n hb hx => ?_, fun b o e n hb hx => ?_, fun b o e n hx => ?_, fun b o e hx => ?_, fun b xs e => tups b xs (I.base.tups b xs e), fun b o xs e => frzs b o xs (I.base.frzs b o xs e), fun b ps e => ?_⟩, ?_, fun x c e => ?_, ?_, fun x c e => ?_, fun p hp => ?_, hok, I.len⟩
  · exact keep b o (neL b o e) hb (neC b o e hx) (I.base.keep b o e n hb hx) (I.base.free b o e n hx)
  · obtain ⟨sl, e1⟩ := I.base.slot b o e n hb hx
    obtain ⟨sl', e2⟩ := slot b _ (neL b o e) hb (neC b o e hx) e1 (I.base.free b o e n hx)
    exact ⟨sl', e2⟩
  · obtain ⟨o', e1⟩ := I.base.there b o e hx
    exact free b o' (neC b o e hx) e1 (I.base.free b o e n hx)
  · obtain ⟨o', e1⟩ := I.base.there b o e hx
    exact there b o' (neC b o e hx) e1
  · obtain ⟨m1, e1⟩ := I.base.tbls b ps e
    obtain ⟨m2, e2⟩ := tbls b _ e1
    exact ⟨m1 ++ m2, by rw [e2, Array.append_assoc]⟩
  · obtain ⟨m, hn, hl⟩ := I.loc
    refine ⟨m, ns m hn, fun i x v e1 e2 e3 => ?_⟩
    obtain ⟨u, r, l⟩ := hl i x v e1 e2 e3
    refine ⟨u, r, ?_⟩
    rcases l with l | ⟨k, c, e, z⟩
    · exact .inl l
    · exact .inr ⟨k, c, e, cellK x c e _ z⟩
  · obtain ⟨v, z⟩ := I.cell x c e
    exact ⟨v, cellK x c e v z⟩
  · obtain ⟨m, ⟨o, _, _, ho, _⟩, _⟩ := I.loc
    exact free _ o (fun z => (hch _ z).2.1 rfl) ho I.free
  · obtain ⟨v, o, ho, hd⟩ := I.cell x c e
    exact free c o (fun z => (hch c z).2.2.1 x c e rfl) ho (I.freeC x c e)
  · obtain ⟨e, n, ne, nf, d⟩ := I.pin p hp
    have nch : p.1 ∉ ch := fun z => (hch p.1 z).2.2.2 p hp rfl
    exact ⟨keep p.1 p.2 ne nf nch e n, free p.1 p.2 nch e n, ne, nf, d⟩
/-- .. where the frame's own object is kept too -/
theorem Inv.un {t' : Nat} (I : Inv X pins σ H s) (u : Un X.fs [] H H' s.heap h') (hok : HOk X.prog X.w H' h') : Inv X pins σ H' { s with heap := h', toks := t' } := by
  obtain ⟨m, ⟨o, es, ep, ho, r⟩, _⟩ := id I.loc
  obtain ⟨sl, hL⟩ := u.any ho I.free (by simp)
  exact I.step (g' := s.gens) (d' := s.drawn) (ch := []) (fun _ z => nomatch z) (fun b o _ hb _ e n => u.keep b o e n hb (by simp)) (fun b o _ hb _ e n => u.slot b o e n hb (by simp)) (fun b o _ e n => u.free b o e n (by simp)) (fun b o _ e => u.there b o e (by simp)) u.tups u.frzs u.tbls (fun m' hm => by
    obtain ⟨o', es', ep', ho', r'⟩ := hm
    rw [ho] at ho'; cases ho'
    exact ⟨_, es', ep', hL, r'⟩) hok I.bare
/-- behind a call (or a comprehension's block): the slots of this frame may have changed too, the records at ch may have turned -/
theorem Inv.call {g' : Array GenState} {t' : Nat} {d' : Drawn} {ch : List Addr} (I : Inv X pins σ H s) (u : Un (frs X.stack) ch H H' s.heap h') (hok : HOk X.prog X.w H' h') (hg : AllBare g')
    (hch : ∀ b ∈ ch, (b ∈ X.ex ∨ X.s₀.heap.objs.size ≤ b) ∧ b ≠ X.env.locals ∧ (∀ x c, X.env.cells.lookup x = some c → c ≠ b) ∧ ∀ p ∈ X.pn ++ pins, p.1 ≠ b) :
    Inv X pins σ H' { s with heap := h', gens := g', drawn := d', toks := t' } := by
  obtain ⟨m, ⟨o, es, ep, ho, r⟩, _⟩ := id I.loc
  obtain ⟨sl, hL⟩ := u.any ho I.free fun z => (hch _ z).2.1 rfl
  exact I.step (ch := ch) hch (fun b o hL hb hc e n => u.keep b o e n (fun z => (List.mem_cons.mp (I.stkSub b z)).elim hL hb) hc) (fun b o _ _ hc e n => u.any e n hc) (fun b o hc e n => u.free b o e n hc) (fun b o hc e => u.there b o e hc) u.tups u.frzs u.tbls (fun m' hm => by
    obtain ⟨o', es', ep', ho', r'⟩ := hm
    rw [ho] at ho'; cases ho'
    exact ⟨_, es', ep', hL, r'⟩) hok hg
/-- an untracked record of ours (an iterator) has turned -/
theorem Inv.turned {t' : Nat} {it : Addr} (I : Inv X pins σ H s) (k : ∀ b o, b ≠ it → s.heap.get? b = some o → h'.get? b = some o) (hn : H it = none) (hL : it ≠ X.env.locals)
    (h1 : it ∈ X.ex ∨ X.s₀.heap.objs.size ≤ it) (h2 : ∀ x c, X.env.cells.lookup x = some c → c ≠ it) (h3 : ∀ p ∈ X.pn ++ pins, p.1 ≠ it) : Inv X pins σ H { s with heap := h', toks := t' } := by
  have nit : ∀ b u, H b = some u → b ≠ it := fun b u e z => by rw [z, hn] at e; cases e
  refine I.step (g' := s.gens) (d' := s.drawn) (ch := [it]) (fun b hb => ?_) (fun b o _ _ hc e _ => k b o (fun z => hc (by simp [z])) e) (fun b o _ _ hc e _ => ⟨o.slots, k b o (fun z => hc (by simp [z])) e⟩) (fun _ _ _ _ n => n)
    (fun b o hc e => ⟨o, k b o (fun z => hc (by simp [z])) e⟩) (fun _ _ e => e) (fun _ _ _ e => e) (fun b ps e => ⟨#[], by rw [e]; simp⟩) (fun m hm => ?_) (fun b u e => ?_) I.bare
  · have e : b = it := by simpa using hb
    subst e
    exact ⟨h1, hL, h2, h3⟩
  · obtain ⟨o, es, ep, ho, r⟩ := hm
    exact ⟨o, es, ep, k _ o (Ne.symm hL) ho, r⟩
  · refine (I.hok b u e).stay (fun c v hc q => k c v ?_ q) (fun _ q => q) fun _ _ q => q
    rcases hc with z | z
    · rw [z]; exact nit b u e
    · exact nit c _ z
theorem Inv.tok (I : Inv X pins σ H s) (t : Nat) : Inv X pins σ H { s with toks := t } := I.un (h' := s.heap) (t' := t) Un.refl I.hok
/-- all objects kept -/
theorem Inv.kept {t' : Nat} (I : Inv X pins σ H s) (k : ∀ b u, s.heap.get? b = some u → h'.get? b = some u) : Inv X pins σ H { s with heap := h', toks := t' } := I.un (Un.kept k) (I.hok.kept k)
/-- a new object laid and tracked -/
theorem Inv.laid {a : Addr} {o : HO} {t' : Nat} (I : Inv X pins σ H s) (k : ∀ b u, s.heap.get? b = some u → h'.get? b = some u) (hp : s.heap.objs.size ≤ a) (new : ObjOk X.prog X.w (upd H a o) h' a o) :
    Inv X pins σ (upd H a o) { s with heap := h', toks := t' } := I.un (Un.laid k hp (I.hok.fresh hp)) (I.hok.laid k hp new)
/-- an object written -/
theorem Inv.write {x e : Addr} {o : HO} {t' : Nat} (I : Inv X pins σ H s) (mu : Mut (H x)) (he : e = x ∨ H e = some (.own x)) (k : ∀ b u, b ≠ e → s.heap.get? b = some u → h'.get? b = some u) (heo : ∃ u, h'.get? e = some u)
    (new : ObjOk X.prog X.w (upd H x o) h' x o) : Inv X pins σ (upd H x o) { s with heap := h', toks := t' } := I.un (Un.write mu he k heo) (I.hok.write mu he k heo new)
/-- forgetting slots, pins -/
theorem Inv.weak {σ' : List (Option V)} (I : Inv X pins σ H s) (hl : σ'.length = σ.length) (w : ∀ (i : Nat) v, σ'[i]? = some (some v) → σ[i]? = some (some v)) : Inv X pins σ' H s :=
  ⟨I.ok, I.os, I.bare, I.base, let ⟨m, hn, hl'⟩ := I.loc; ⟨m, hn, fun i x v e1 e2 e3 => hl' i x v e1 (w i v e2) e3⟩, I.cell, I.free, I.freeC, I.pin, I.hok, hl.trans I.len⟩
theorem Inv.pins_of {pins' : List (Addr × Obj)} (I : Inv X pins σ H s) (h : ∀ p ∈ pins', s.heap.get? p.1 = some p.2 ∧ H p.1 = none ∧ p.1 ≠ X.env.locals ∧ p.1 ∉ X.fs ∧ ∀ v, p.2.data ≠ .cell v) : Inv X pins' σ H s :=
  ⟨I.ok, I.os, I.bare, I.base, I.loc, I.cell, I.free, I.freeC, fun p hp => (List.mem_append.mp hp).elim (fun z => I.pin p (List.mem_append_left _ z)) (h p), I.hok, I.len⟩

theorem nodup_ix {N : List Str} (hN : N.Nodup) {i j : Nat} {x : Str} (a : N[i]? = some x) (b : N[j]? = some x) : i = j := by
  obtain ⟨h1, e1⟩ := List.getElem?_eq_some_iff.mp a
  obtain ⟨h2, e2⟩ := List.getElem?_eq_some_iff.mp b
  exact (List.getElem_inj hN).mp (e1.trans e2.symm)

/-- a name is stored; what changed -/
theorem store_ok2 {M : Model} {A : Around} {E : Value → Shared → Prop} {i : Nat} {x : Str} {v : V} {u : Value} {Q : Unit → Shared → Prop} (I : Inv X pins σ H s) (hN : X.N.Nodup) (hi : X.N[i]? = some x) (hx : Loc X.env.scope x) (r : RelV v u)
    (h : ∀ s', Inv X pins (σ.set i (some v)) H s' → (∃ a, Heap.SameBut a s.heap s'.heap ∧ (a = X.env.locals ∨ X.env.cells.lookup x = some a)) → Q () s') (hf : X.fn x = true ∨ X.env.scope.names.lookup x = some .local := by first | exact .inl rfl | exact .inr rfl | assumption) : wpAny M A (storeName X.env x u) Q E s := by
  obtain ⟨m, hn, hl⟩ := id I.loc
  have hcls : (X.env.scope.kind == .class || (X.env.scope.kind == .module && X.env.locals != X.env.globals)) = false := by rw [I.ok.kind]; rfl
  have hiσ : i < σ.length := by rw [I.len]; exact (List.getElem?_eq_some_iff.mp hi).1
  have cne := I.cne
  have tracked : ∀ {a : Addr} {h' : Heap}, (∃ o, s.heap.get? a = some o ∧ H a = none) → Heap.SameBut a s.heap h' → HOk X.prog X.w H h' := fun {a h'} ha hs b ob e => by
    obtain ⟨_, _, hfree⟩ := ha
    refine (I.hok b ob e).stay (fun c w' hc q => (hs.2 c ?_).trans q) (fun _ q => q) fun _ _ q => q
    rintro rfl
    rcases hc with rfl | hc
    · rw [hfree] at e; cases e
    · rw [hfree] at hc; cases hc
  rcases hx with hk | hk
  · refine wpAny_storeName_local hk hn (fun h' hn' hs => ?_) hcls
    obtain ⟨oL, _, _, hoL, _⟩ := id hn
    refine h _ ⟨I.ok, I.os, I.bare, ⟨fun b o e n hb hx => ?_, fun b o e n hb hx => ?_, I.base.free, fun b o e hx => ?_, I.base.tups, I.base.frzs, I.base.tbls⟩, ⟨_, hn', fun j y v' e1 e2 e3 => ?_⟩, fun y c e => ?_, I.free, I.freeC, fun p hp => ?_, tracked ⟨oL, hoL, I.free⟩ hs, by simpa using I.len⟩ ⟨_, hs, .inl rfl⟩
    · exact (hs.2 b (Nat.ne_of_lt (Nat.lt_of_lt_of_le (Heap.lt_size e) I.ok.above))).trans (I.base.keep b o e n hb hx)
    · obtain ⟨sl, e1⟩ := I.base.slot b o e n hb hx
      exact ⟨sl, (hs.2 b (Nat.ne_of_lt (Nat.lt_of_lt_of_le (Heap.lt_size e) I.ok.above))).trans e1⟩
    · obtain ⟨o', e1⟩ := I.base.there b o e hx
      exact ⟨o', (hs.2 b (Nat.ne_of_lt (Nat.lt_of_lt_of_le (Heap.lt_size e) I.ok.above))).trans e1⟩
    · by_cases hj : j = i
      · subst hj
        rw [hi] at e1; cases e1
        rw [List.getElem?_set_self hiσ] at e2
        cases e2
        exact ⟨u, r, .inl ⟨hk, by simp⟩⟩
      · rw [List.getElem?_set_ne (Ne.symm hj)] at e2
        obtain ⟨u', r', q⟩ := hl j y v' e1 e2 e3
        refine ⟨u', r', ?_⟩
        rcases q with ⟨k, e⟩ | ⟨k, c, e, z⟩
        · refine .inl ⟨k, ?_⟩
          have : y ≠ x := fun e => hj (nodup_ix hN e1 (e ▸ hi))
          simp [this, e]
        · exact .inr ⟨k, c, e, z.sameBut hs (cne y c e)⟩
    · obtain ⟨w', z⟩ := I.cell y c e
      exact ⟨w', z.sameBut hs (cne y c e)⟩
    · obtain ⟨e, n, ne, nf, d⟩ := I.pin p hp
      exact ⟨(hs.2 p.1 ne).trans e, n, ne, nf, d⟩
  · have hfn : X.fn x = true := by
      rcases hf with z | z
      · exact z
      · rw [z] at hk; cases hk
    obtain ⟨c, hc⟩ := I.ok.has x (.inl hk)
    obtain ⟨w', z⟩ := I.cell x c hc
    refine wpAny_storeName_cell I.ok.kind hk hc z (fun h' hc' hs => ?_)
    obtain ⟨oc, hoc, hocd⟩ := id z
    refine h { s with heap := h' } ⟨I.ok, I.os, I.bare, ⟨fun b o e n hb hx => ?_, fun b o e n hb hx => ?_, I.base.free, fun b o e hx => ?_, I.base.tups, I.base.frzs, I.base.tbls⟩, ⟨m, hn.sameBut hs (Ne.symm (cne x c hc)), fun j y v' e1 e2 e3 => ?_⟩, fun y c' e => ?_, I.free, I.freeC, fun p hp => ?_, tracked ⟨oc, hoc, I.freeC x c hc⟩ hs, by simpa using I.len⟩ ⟨c, hs, .inr hc⟩
    · exact (hs.2 b (Nat.ne_of_lt (Nat.lt_of_lt_of_le (Heap.lt_size e) (I.ok.cab x c hfn hc)))).trans (I.base.keep b o e n hb hx)
    · obtain ⟨sl, e1⟩ := I.base.slot b o e n hb hx
      exact ⟨sl, (hs.2 b (Nat.ne_of_lt (Nat.lt_of_lt_of_le (Heap.lt_size e) (I.ok.cab x c hfn hc)))).trans e1⟩
    · obtain ⟨o', e1⟩ := I.base.there b o e hx
      exact ⟨o', (hs.2 b (Nat.ne_of_lt (Nat.lt_of_lt_of_le (Heap.lt_size e) (I.ok.cab x c hfn hc)))).trans e1⟩
    · by_cases hj : j = i
      · subst hj
        rw [hi] at e1; cases e1
        rw [List.getElem?_set_self hiσ] at e2
        cases e2
        exact ⟨u, r, .inr ⟨.inl hk, c, hc, hc'⟩⟩
      · rw [List.getElem?_set_ne (Ne.symm hj)] at e2
        obtain ⟨u', r', q⟩ := hl j y v' e1 e2 e3
        refine ⟨u', r', ?_⟩
        rcases q with q | ⟨k, c', e, z'⟩
        · exact .inl q
        · refine .inr ⟨k, c', e, z'.sameBut hs ?_⟩
          rintro rfl
          exact hj (nodup_ix hN e1 (I.ok.inj _ _ _ e hc ▸ hi))
    · by_cases hcc : c' = c
      · subst hcc; exact ⟨_, hc'⟩
      · obtain ⟨w2, z2⟩ := I.cell y c' e
        exact ⟨w2, z2.sameBut hs hcc⟩
    · obtain ⟨e, n, ne, nf, d⟩ := I.pin p hp
      refine ⟨(hs.2 p.1 ?_).trans e, n, ne, nf, d⟩
      intro q
      rw [q, hoc] at e
      have q' : oc = p.2 := Option.some.inj e
      exact d w' (by rw [← q']; exact hocd)
theorem store_ok {M : Model} {A : Around} {E : Value → Shared → Prop} {i : Nat} {x : Str} {v : V} {u : Value} {Q : Unit → Shared → Prop} (I : Inv X pins σ H s) (hN : X.N.Nodup) (hi : X.N[i]? = some x) (hx : Loc X.env.scope x) (r : RelV v u)
    (h : ∀ s', Inv X pins (σ.set i (some v)) H s' → Q () s') (hf : X.fn x = true ∨ X.env.scope.names.lookup x = some .local := by first | exact .inl rfl | exact .inr rfl | assumption) : wpAny M A (storeName X.env x u) Q E s :=
  store_ok2 I hN hi hx r (fun s' I' _ => h s' I') hf
/-- behind a call or a block, the state as it is -/
theorem Inv.call' {s' : Shared} {ch : List Addr} (I : Inv X pins σ H s) (ho : s'.os = s.os) (u : Un (frs X.stack) ch H H' s.heap s'.heap) (hok : HOk X.prog X.w H' s'.heap) (hg : AllBare s'.gens)
    (hch : ∀ b ∈ ch, (b ∈ X.ex ∨ X.s₀.heap.objs.size ≤ b) ∧ b ≠ X.env.locals ∧ (∀ x c, X.env.cells.lookup x = some c → c ≠ b) ∧ ∀ p ∈ X.pn ++ pins, p.1 ≠ b) : Inv X pins σ H' s' := by
  obtain ⟨h', g', d', t', o'⟩ := s'
  have e : o' = s.os := ho
  subst e
  exact I.call (g' := g') (t' := t') (d' := d') u hok hg hch
end

/-! ### the judgements -/
/-- an exception: its class, its own dict's address (where it has one), the abstract heap behind it -/
abbrev XK := Value → Option Addr → Hp → Prop
abbrev St := List (Option V)
abbrev VK := V → Hp → Prop
/-- an expression's reading; a test's; an argument list's -/
abbrev TE := St → Hp → VK → Prop
abbrev TT := St → Hp → (Bool → Hp → Prop) → Prop
abbrev TA := St → Hp → (List V → Hp → Prop) → Prop
/-- what is wanted behind a statement -/
structure Ends where
  nx : St → Hp → Prop
  rt : VK
  bk : St → Hp → Prop := fun _ _ => False
  ct : St → Hp → Prop := fun _ _ => False
abbrev TS := Ends → St → Hp → Prop

def EP (X : Cx) (pins : List (Addr × Obj)) (σ : St) (Q : VK) (u : Value) (s' : Shared) : Prop := ∃ v H', Inv X pins σ H' s' ∧ RelV v u ∧ Q v H'
def TP (X : Cx) (pins : List (Addr × Obj)) (σ : St) (Q : Bool → Hp → Prop) (b : Bool) (s' : Shared) : Prop := ∃ H', Inv X pins σ H' s' ∧ Q b H'
def AP (X : Cx) (pins : List (Addr × Obj)) (σ : St) (Q : List V → Hp → Prop) (us : List Value) (s' : Shared) : Prop := ∃ vs H', Inv X pins σ H' s' ∧ Vals vs us ∧ Q vs H'
def SP (X : Cx) (pins : List (Addr × Obj)) (D : Ends) (f : Flow) (s' : Shared) : Prop :=
  match f with
  | .next => ∃ σ' H', Inv X pins σ' H' s' ∧ D.nx σ' H'
  | .brk => ∃ σ' H', Inv X pins σ' H' s' ∧ D.bk σ' H'
  | .cont => ∃ σ' H', Inv X pins σ' H' s' ∧ D.ct σ' H'
  | .ret u => ∃ v σ' H', Inv X pins σ' H' s' ∧ RelV v u ∧ D.rt v H'

def PE (X : Cx) (e : Expr) (t : TE) : Prop :=
  ∀ (pins : List (Addr × Obj)) (s : Shared) (σ : St) (H : Hp) (Q : VK), Inv X pins σ H s → t σ H Q → wpAny (model X.prog X.w) X.A (eval e X.env) (EP X pins σ Q) X.xe s
def PT (X : Cx) (e : Expr) (t : TT) : Prop :=
  ∀ (pins : List (Addr × Obj)) (s : Shared) (σ : St) (H : Hp) (Q : Bool → Hp → Prop), Inv X pins σ H s → t σ H Q → wpAny (model X.prog X.w) X.A (isTrue e X.env (eval e X.env)) (TP X pins σ Q) X.xe s
/-- a test whatever its 'whole' is (and, or) -/
def PW (X : Cx) (e : Expr) (t : TT) : Prop :=
  ∀ (whole : Sem Value) (pins : List (Addr × Obj)) (s : Shared) (σ : St) (H : Hp) (Q : Bool → Hp → Prop), Inv X pins σ H s → t σ H Q → wpAny (model X.prog X.w) X.A (isTrue e X.env whole) (TP X pins σ Q) X.xe s
theorem PW.pt {X : Cx} {e : Expr} {t : TT} (h : PW X e t) : PT X e t := h _
/-- an argument list (no star), from the left -/
def PA (X : Cx) (es : List Expr) (t : TA) : Prop :=
  ∀ (pos : Pos) (pins : List (Addr × Obj)) (s : Shared) (σ : St) (H : Hp) (Q : List V → Hp → Prop), Inv X pins σ H s → t σ H Q → wpAny (model X.prog X.w) X.A (spliced (backTo pos (starEach es X.env))) (AP X pins σ Q) X.xe s
def PS (X : Cx) (st : Stmt) (t : TS) : Prop :=
  ∀ (pins : List (Addr × Obj)) (s : Shared) (σ : St) (H : Hp) (D : Ends), Inv X pins σ H s → t D σ H → wpAny (model X.prog X.w) X.A (exec st X.env) (SP X pins D) X.xe s
def PSs (X : Cx) (st : List Stmt) (t : TS) : Prop :=
  ∀ (pins : List (Addr × Obj)) (s : Shared) (σ : St) (H : Hp) (D : Ends), Inv X pins σ H s → t D σ H → wpAny (model X.prog X.w) X.A (execs st X.env) (SP X pins D) X.xe s
/-- weaken the end -/
theorem thn {α : Type} {t : Sem α} {Q Q' : α → Shared → Prop} {M : Model} {A : Around} {E : Value → Shared → Prop} {s : Shared} (h : wpAny M A t Q E s) (hQ : ∀ a s, Q a s → Q' a s) : wpAny M A t Q' E s := wpAny_mono h hQ fun _ _ x => x
end L2

namespace L2
open PySem PySem.Spec PyProof.Rows
section
variable {X : Cx}

/-- two expressions in a row -/
theorem bin {a b : Expr} {ta tb : TE} (ha : PE X a ta) (hb : PE X b tb) {pins : List (Addr × Obj)} {s : Shared} {σ : St} {H : Hp} {R : V → V → Hp → Prop} (I : Inv X pins σ H s) (h : ta σ H fun x H1 => tb σ H1 fun y H2 => R x y H2)
    {α : Type} {Q : α → Shared → Prop} {f : Value → Value → Sem α}
    (hf : ∀ v u s2 x y H2, Inv X pins σ H2 s2 → RelV x v → RelV y u → R x y H2 → wpAny (model X.prog X.w) X.A (f v u) Q X.xe s2) :
    wpAny (model X.prog X.w) X.A (eval a X.env) (fun v s₁ => wpAny (model X.prog X.w) X.A (eval b X.env) (fun u s₂ => wpAny (model X.prog X.w) X.A (f v u) Q X.xe s₂) X.xe s₁) X.xe s := by
  refine thn (ha pins s σ H _ I h) fun v s1 ⟨x, H1, I1, r1, q1⟩ => ?_
  refine thn (hb pins s1 σ H1 _ I1 q1) fun u s2 ⟨y, H2, I2, r2, q2⟩ => ?_
  exact hf v u s2 x y H2 I2 r1 r2 q2

/-! ### names and constants -/
def tVar (i : Nat) : TE := fun σ H Q => ∃ v, σ[i]? = some (some v) ∧ Q v H
def tC (v : V) : TE := fun _ H Q => Q v H
theorem pe_var {i : Nat} {x : Str} {pos : Pos} (hN : X.N[i]? = some x) (hv : Vis X.env.scope x) (hd : (x == ("__debug__" : Str)) = false := by decide) (hcd : (x == ("__classdict__" : Str)) = false := by decide) : PE X (.Name x pos) (tVar i) := by
  intro pins s σ H Q I h
  obtain ⟨v, e, h⟩ := h
  obtain ⟨m, hn, hl⟩ := I.loc
  obtain ⟨u, r, l⟩ := hl i x v hN e hv
  have fin : EP X pins σ Q u s := ⟨v, H, I, r, h⟩
  rcases l with ⟨hk, hm⟩ | ⟨hk, c, hc, hcell⟩
  · exact wpAny_Name (wpAny_loadName_local I.ok.kind hk hn hm fin) hd
  · rcases hk with hk | hk
    · exact wpAny_Name (wpAny_loadName_cell I.ok.kind hk hc hcell fin) hd
    · exact wpAny_Name (wpAny_loadName_free I.ok.kind hk hc hcell fin hcd) hd
theorem pe_int {i j pos} : PE X (.Constant (.int i) j pos) (tC (.int i)) := fun _ _ _ H _ I h => wpAny_Constant_int ⟨.int i, H, I.tok _, ⟨_, rfl⟩, h⟩
theorem pe_bl {b j pos} : PE X (.Constant (.bool b) j pos) (tC (.bl b)) := fun _ _ _ H _ I h => Constant_bool ⟨.bl b, H, I, rfl, h⟩
theorem pe_non {j pos} : PE X (.Constant .none j pos) (tC .non) := fun _ _ _ H _ I h => Constant_none ⟨.non, H, I, rfl, h⟩
theorem pe_str {x j pos} : PE X (.Constant (.str x) j pos) (tC (.str x)) := fun _ _ _ H _ I h => Calls.Constant_str ⟨.str x, H, I.tok _, ⟨_, rfl⟩, h⟩

/-- a global name of the def -/
def Gl (X : Cx) (x : Str) : Prop := X.env.kindOf x = some .globalImplicit
theorem ld_glob {E : Value → Shared → Prop} {pins : List (Addr × Obj)} {s : Shared} {σ : St} {H : Hp} {x : Str} {u : Value} {pos : Pos} {Q : Value → Shared → Prop} (I : Inv X pins σ H s) (hg : Gl X x) (hm : X.mg x = some u) (h : Q u s)
    (hd : (x == ("__debug__" : Str)) = false := by decide) : wpAny (model X.prog X.w) X.A (eval (.Name x pos) X.env) Q E s :=
  Calls.Name_function_global I.ok.kind hg (Calls.loadGlobal_global (by rw [I.ok.glob]; exact I.mod.glob.keeps I.bk) hm h) hd
theorem ld_blt {E : Value → Shared → Prop} {pins : List (Addr × Obj)} {s : Shared} {σ : St} {H : Hp} {x : Str} {u : Value} {pos : Pos} {Q : Value → Shared → Prop} (I : Inv X pins σ H s) (hg : Gl X x) (hm : X.mg x = none) (hv : bootBuiltins x = some u) (h : Q u s)
    (hn : x ≠ "__name__" := by decide) (hd : (x == ("__debug__" : Str)) = false := by decide) : wpAny (model X.prog X.w) X.A (eval (.Name x pos) X.env) Q E s := by
  obtain ⟨mb, h1, h2⟩ := I.mod.blt
  exact Calls.Name_function_global I.ok.kind hg (Calls.loadGlobal_builtin (by rw [I.ok.glob]; exact I.mod.glob.keeps I.bk) hm (by rw [I.ok.blt]; exact h1.keeps I.bk) ((h2 x hn).trans hv) h) hd
/-- a module's constant, a class, a function, as a value -/
theorem pe_glob {x : Str} {v : V} {u : Value} {pos : Pos} (hg : Gl X x) (hm : X.mg x = some u) (r : RelV v u) (hd : (x == ("__debug__" : Str)) = false := by decide) : PE X (.Name x pos) (tC v) :=
  fun _ _ _ H _ I h => ld_glob I hg hm ⟨v, H, I, r, h⟩ hd
theorem pe_bltn {x : Str} {v : V} {u : Value} {pos : Pos} (hg : Gl X x) (hm : X.mg x = none) (hv : bootBuiltins x = some u) (r : RelV v u) (hn : x ≠ "__name__" := by decide) (hd : (x == ("__debug__" : Str)) = false := by decide) : PE X (.Name x pos) (tC v) :=
  fun _ _ _ H _ I h => ld_blt I hg hm hv ⟨v, H, I, r, h⟩ hn hd

/-! ### arithmetic -/
/-- two ints -/
def t2I (ta tb : TE) (k : Int → Int → Hp → Prop) : St → Hp → Prop := fun σ H => ta σ H fun x H1 => tb σ H1 fun y H2 => ∃ i j, x = .int i ∧ y = .int j ∧ k i j H2
def tAdd (ta tb : TE) : TE := fun σ H Q => t2I ta tb (fun i j H2 => Q (.int (i + j)) H2) σ H
def tSub (ta tb : TE) : TE := fun σ H Q => t2I ta tb (fun i j H2 => Q (.int (i - j)) H2) σ H
/-- the left factor below 2^64 -/
def tMul (ta tb : TE) : TE := fun σ H Q => t2I ta tb (fun i j H2 => (-(2 ^ 64) < i ∧ i < 2 ^ 64) ∧ Q (.int (i * j)) H2) σ H
variable {a b : Expr} {ta tb : TE} {pos : Pos}
theorem pe_add (ha : PE X a ta) (hb : PE X b tb) : PE X (.BinOp a .Add b pos) (tAdd ta tb) := by
  intro pins s σ H Q I h
  refine wpAny_BinOp (bin ha hb I h fun v u s2 x y H2 I2 rx ry q => ?_)
  obtain ⟨i, j, rfl, rfl, q⟩ := q
  obtain ⟨t, rfl⟩ := rx
  obtain ⟨t', rfl⟩ := ry
  exact add_int ⟨.int _, H2, I2.tok _, ⟨_, rfl⟩, q⟩
theorem pe_sub (ha : PE X a ta) (hb : PE X b tb) : PE X (.BinOp a .Sub b pos) (tSub ta tb) := by
  intro pins s σ H Q I h
  refine wpAny_BinOp (bin ha hb I h fun v u s2 x y H2 I2 rx ry q => ?_)
  obtain ⟨i, j, rfl, rfl, q⟩ := q
  obtain ⟨t, rfl⟩ := rx
  obtain ⟨t', rfl⟩ := ry
  exact sub_int ⟨.int _, H2, I2.tok _, ⟨_, rfl⟩, q⟩
theorem pe_mul (ha : PE X a ta) (hb : PE X b tb) : PE X (.BinOp a .Mult b pos) (tMul ta tb) := by
  intro pins s σ H Q I h
  refine wpAny_BinOp (bin ha hb I h fun v u s2 x y H2 I2 rx ry q => ?_)
  obtain ⟨i, j, rfl, rfl, ⟨q1, q2⟩, q⟩ := q
  obtain ⟨t, rfl⟩ := rx
  obtain ⟨t', rfl⟩ := ry
  exact mul_int ⟨.int _, H2, I2.tok _, ⟨_, rfl⟩, q⟩ (.of_left (intBits_le_64 q1 q2))

/-! ### comparisons -/
def PC (X : Cx) (op : CmpOp) (a b : Expr) (t : TE) : Prop :=
  ∀ (pins : List (Addr × Obj)) (s : Shared) (σ : St) (H : Hp) (Q : VK), Inv X pins σ H s → t σ H Q →
    wpAny (model X.prog X.w) X.A (eval a X.env) (fun v s₁ => wpAny (model X.prog X.w) X.A (eval b X.env) (fun u s₂ => wpAny (model X.prog X.w) X.A (compareOp op v u) (EP X pins σ Q) X.xe s₂) X.xe s₁) X.xe s
theorem nobehind (b : Expr) {op : CmpOp} (h : op ≠ .In) (h2 : op ≠ .NotIn) : behindInMarks op b = false := by
  have e1 : (op == CmpOp.In) = false := by cases op <;> first | rfl | exact absurd rfl h
  have e2 : (op == CmpOp.NotIn) = false := by cases op <;> first | rfl | exact absurd rfl h2
  cases b <;> simp [behindInMarks, e1, e2]
def tCmp (p : Int → Int → Bool) (ta tb : TE) : TE := fun σ H Q => t2I ta tb (fun i j H2 => Q (.bl (p i j)) H2) σ H
abbrev tLt : TE → TE → TE := tCmp fun i j => decide (i < j)
abbrev tLe : TE → TE → TE := tCmp fun i j => decide (i ≤ j)
abbrev tGt : TE → TE → TE := tCmp fun i j => decide (j < i)
abbrev tGe : TE → TE → TE := tCmp fun i j => decide (j ≤ i)
abbrev tEqI : TE → TE → TE := tCmp fun i j => decide (i = j)
abbrev tNeI : TE → TE → TE := tCmp fun i j => !decide (i = j)
/-- a comparison of two ints, by its rule -/
theorem pc_int {op : CmpOp} {p : Int → Int → Bool} (ha : PE X a ta) (hb : PE X b tb)
    (rule : ∀ (i j : Int) (t u : Tok) (Q : Value → Shared → Prop) (s : Shared), Q (.bool (p i j)) s → wpAny (model X.prog X.w) X.A (compareOp op (.int i t) (.int j u)) Q X.xe s) : PC X op a b (tCmp p ta tb) := by
  intro pins s σ H Q I h
  refine bin ha hb I h fun v u s2 x y H2 I2 rx ry q => ?_
  obtain ⟨i, j, rfl, rfl, q⟩ := q
  obtain ⟨t, rfl⟩ := rx
  obtain ⟨t', rfl⟩ := ry
  exact rule i j t t' _ s2 ⟨.bl _, H2, I2, rfl, q⟩
theorem pc_lt (ha : PE X a ta) (hb : PE X b tb) : PC X .Lt a b (tLt ta tb) := pc_int ha hb fun _ _ _ _ _ _ h => lt_int h
theorem pc_le (ha : PE X a ta) (hb : PE X b tb) : PC X .LtE a b (tLe ta tb) := pc_int ha hb fun _ _ _ _ _ _ h => le_int h
theorem pc_gt (ha : PE X a ta) (hb : PE X b tb) : PC X .Gt a b (tGt ta tb) := pc_int ha hb fun _ _ _ _ _ _ h => gt_int h
theorem pc_ge (ha : PE X a ta) (hb : PE X b tb) : PC X .GtE a b (tGe ta tb) := pc_int ha hb fun _ _ _ _ _ _ h => ge_int h
theorem pc_eqI (ha : PE X a ta) (hb : PE X b tb) : PC X .Eq a b (tEqI ta tb) := pc_int ha hb fun _ _ _ _ _ _ h => eq_int (by rw [Bool.beq_eq_decide_eq]; exact h)
theorem pc_neI (ha : PE X a ta) (hb : PE X b tb) : PC X .NotEq a b (tNeI ta tb) := pc_int ha hb fun _ _ _ _ _ _ h => ne_int (by rw [bne, Bool.beq_eq_decide_eq]; exact h)
/-- is None -/
def tIsN (ta : TE) : TE := fun σ H Q => ta σ H fun x H1 => Q (.bl (decide (x = .non))) H1
def tNotN (ta : TE) : TE := fun σ H Q => ta σ H fun x H1 => Q (.bl (!decide (x = .non))) H1
theorem RelV.none_iff {x : V} {v : Value} (r : RelV x v) : (v == Value.none) = decide (x = .non) := by
  cases x with
  | non => cases r; rfl
  | bl _ => cases r; rfl
  | int _ => obtain ⟨t, rfl⟩ := r; rfl
  | str _ => obtain ⟨t, rfl⟩ := r; rfl
  | byt _ => obtain ⟨t, rfl⟩ := r; rfl
  | flt _ => obtain ⟨t, rfl⟩ := r; rfl
  | ref _ => cases r; rfl
  | ty _ => cases r; rfl
theorem pc_isN {j pos'} (ha : PE X a ta) : PC X .Is a (.Constant .none j pos') (tIsN ta) := by
  intro pins s σ H Q I h
  refine thn (ha pins s σ H _ I h) fun v s1 ⟨x, H1, I1, r1, q1⟩ => ?_
  exact Constant_none (is_none_gen ⟨.bl _, H1, I1, by rw [r1.none_iff]; rfl, q1⟩)
theorem pc_notN {j pos'} (ha : PE X a ta) : PC X .IsNot a (.Constant .none j pos') (tNotN ta) := by
  intro pins s σ H Q I h
  refine thn (ha pins s σ H _ I h) fun v s1 ⟨x, H1, I1, r1, q1⟩ => ?_
  exact Constant_none (isnot_none_gen ⟨.bl _, H1, I1, by rw [r1.none_iff]; rfl, q1⟩)
/-- a comparison as a value, as a test -/
def tB (t : TE) : TT := fun σ H Q => t σ H fun x H1 => ∃ c, x = .bl c ∧ Q c H1
theorem pe_cmp {op : CmpOp} {t : TE} (h : PC X op a b t) (h1 : behindInMarks op b = false := by first | exact nobehind _ (by decide) (by decide) | rfl) : PE X (.Compare a [op] [b] pos) t := fun pins s σ H Q I hw => wpAny_Compare1 (h pins s σ H Q I hw) h1
theorem pt_cmp {op : CmpOp} {t : TE} (h : PC X op a b t) (h1 : behindInMarks op b = false := by first | exact nobehind _ (by decide) (by decide) | rfl) : PT X (.Compare a [op] [b] pos) (tB t) := by
  intro pins s σ H Q I hw
  refine wpAny_isTrue_Compare1 (thn (h pins s σ H _ I hw) fun v s1 h1 => thn h1 fun u s2 h2 => thn h2 fun c s3 ⟨x, H1, I1, r1, q1⟩ => ?_) h1
  obtain ⟨d, rfl, q⟩ := q1
  cases r1
  exact wpAny_truthy_bool ⟨H1, I1, q⟩
/-- an expression whose value is a bool, as a test -/
theorem pt_val {e : Expr} {t : TE} (h : PE X e t) (he : ∀ whole, isTrue e X.env whole = (do let v ← whole; standAt e.pos; holding [v] (truthy v)) := by intro _; rfl) : PT X e (tB t) := by
  intro pins s σ H Q I hw
  refine isTrue_plain (thn (h pins s σ H _ I hw) fun v s1 ⟨x, H1, I1, r1, q1⟩ => ?_) (he _)
  obtain ⟨d, rfl, q⟩ := q1
  cases r1
  exact wpAny_truthy_bool ⟨H1, I1, q⟩

/-! ### and, or, not -/
variable {tA tB' : TT} {rest : List Expr}
def tAnd (t u : TT) : TT := fun σ H Q => t σ H fun c H1 => if c = true then u σ H1 Q else Q false H1
def tOr (t u : TT) : TT := fun σ H Q => t σ H fun c H1 => if c = true then Q true H1 else u σ H1 Q
def tNot (t : TT) : TT := fun σ H Q => t σ H fun c H1 => Q (!c) H1
theorem pw_and1 (ha : PT X a tA) : PW X (.BoolOp .And [a] pos) tA := by
  intro wh pins s σ H Q I h
  refine isTrue_and (thn (ha pins s σ H Q I h) fun c s1 e => ?_)
  cases c with
  | true => exact isTrue_and_nil e
  | false => exact e
theorem pw_or1 (ha : PT X a tA) : PW X (.BoolOp .Or [a] pos) tA := by
  intro wh pins s σ H Q I h
  refine isTrue_or (thn (ha pins s σ H Q I h) fun c s1 e => ?_)
  cases c with
  | false => exact isTrue_or_nil e
  | true => exact e
theorem pw_and (ha : PT X a tA) (hb : PW X (.BoolOp .And (b :: rest) pos) tB') : PW X (.BoolOp .And (a :: b :: rest) pos) (tAnd tA tB') := by
  intro wh pins s σ H Q I h
  refine isTrue_and (thn (ha pins s σ H _ I h) fun c s1 ⟨H1, I1, q1⟩ => ?_)
  cases c with
  | true => exact hb wh pins s1 σ H1 Q I1 q1
  | false => exact ⟨H1, I1, q1⟩
theorem pw_or (ha : PT X a tA) (hb : PW X (.BoolOp .Or (b :: rest) pos) tB') : PW X (.BoolOp .Or (a :: b :: rest) pos) (tOr tA tB') := by
  intro wh pins s σ H Q I h
  refine isTrue_or (thn (ha pins s σ H _ I h) fun c s1 ⟨H1, I1, q1⟩ => ?_)
  cases c with
  | true => exact ⟨H1, I1, q1⟩
  | false => exact hb wh pins s1 σ H1 Q I1 q1
theorem pt_not (ha : PT X a tA) : PT X (.UnaryOp .Not a pos) (tNot tA) := by
  intro pins s σ H Q I h
  exact isTrue_not (ha pins s σ H (fun c H1 => Q (!c) H1) I h)
/-- .. as values (bools) -/
def tAndV (ta tb : TE) : TE := fun σ H Q => ta σ H fun x H1 => ∃ c, x = .bl c ∧ if c = true then tb σ H1 Q else Q (.bl false) H1
def tOrV (ta tb : TE) : TE := fun σ H Q => ta σ H fun x H1 => ∃ c, x = .bl c ∧ if c = true then Q (.bl true) H1 else tb σ H1 Q
def tNotV (ta : TE) : TE := fun σ H Q => ta σ H fun x H1 => ∃ c, x = .bl c ∧ Q (.bl (!c)) H1
theorem pe_one {op} {t : TE} (h : PE X a t) : PE X (.BoolOp op [a] pos) t := fun pins s σ H Q I hw => BoolOp_one (h pins s σ H Q I hw)
theorem pe_and (ha : PE X a ta) (hb : PE X (.BoolOp .And (b :: rest) pos) tb) : PE X (.BoolOp .And (a :: b :: rest) pos) (tAndV ta tb) := by
  intro pins s σ H Q I h
  refine BoolOp_and (thn (ha pins s σ H _ I h) fun v s1 ⟨x, H1, I1, r1, q1⟩ => ?_)
  obtain ⟨c, rfl, q1⟩ := q1
  cases r1
  refine wpAny_truthy_bool ?_
  cases c with
  | true => exact hb pins s1 σ H1 Q I1 q1
  | false => exact ⟨.bl false, H1, I1, rfl, q1⟩
theorem pe_or (ha : PE X a ta) (hb : PE X (.BoolOp .Or (b :: rest) pos) tb) : PE X (.BoolOp .Or (a :: b :: rest) pos) (tOrV ta tb) := by
  intro pins s σ H Q I h
  refine BoolOp_or (thn (ha pins s σ H _ I h) fun v s1 ⟨x, H1, I1, r1, q1⟩ => ?_)
  obtain ⟨c, rfl, q1⟩ := q1
  cases r1
  refine wpAny_truthy_bool ?_
  cases c with
  | false => exact hb pins s1 σ H1 Q I1 q1
  | true => exact ⟨.bl true, H1, I1, rfl, q1⟩
theorem pe_not (ha : PE X a ta) : PE X (.UnaryOp .Not a pos) (tNotV ta) := by
  intro pins s σ H Q I h
  refine UnaryOp_ (thn (ha pins s σ H _ I h) fun v s1 ⟨x, H1, I1, r1, q1⟩ => ?_)
  obtain ⟨c, rfl, q1⟩ := q1
  cases r1
  exact not_of (wpAny_truthy_bool ⟨.bl (!c), H1, I1, rfl, q1⟩)
/-- a if t else b -/
def tIf (t : TT) (ta tb : TE) : TE := fun σ H Q => t σ H fun c H1 => if c = true then ta σ H1 Q else tb σ H1 Q
theorem pe_ifExp {c : Expr} (hc : PT X c tA) (ha : PE X a ta) (hb : PE X b tb) : PE X (.IfExp c a b pos) (tIf tA ta tb) := by
  intro pins s σ H Q I h
  refine wpAny_IfExp (thn (hc pins s σ H _ I h) fun d s1 ⟨H1, I1, q1⟩ => ?_)
  cases d with
  | true => exact ha pins s1 σ H1 Q I1 q1
  | false => exact hb pins s1 σ H1 Q I1 q1
end
end L2

namespace L2
open PySem PySem.Spec PyProof.Rows

/-! ### a list, a tuple that is read: tracked, frozen, or an object of the module -/
def SqL (K : PySem.W.Frag) (H : Hp) (a : Addr) (xs : List V) : Prop :=
  Rd H a (.lst xs) ∨
    ∃ (o : Obj) (its : Array Value) (n : Nat), K.lookup a = some o ∧ o.cls = .type "list" ∧ o.dict = none ∧ o.data = .seq its n ∧ its.size ≤ sizeLine ∧ Vals xs its.toList
def SqT (K : PySem.W.Frag) (H : Hp) (a : Addr) (xs : List V) : Prop :=
  Rd H a (.tup xs) ∨
    ∃ (o : Obj) (its : Array Value) (n : Nat), K.lookup a = some o ∧ o.cls = .type "tuple" ∧ o.data = .seq its n ∧ its.size ≤ sizeLine ∧ Vals xs its.toList
def absV : Value → Option V
  | .none => some .non
  | .bool b => some (.bl b)
  | .int i _ => some (.int i)
  | .str x _ => some (.str x)
  | .bytes b _ => some (.byt b)
  | .float b _ => some (.flt b)
  | .ref a => some (.ref a)
  | .type n => some (.ty n)
  | _ => none
theorem RelV.abs {x : V} {u : Value} (r : RelV x u) : absV u = some x := by
  cases x with
  | non => cases r; rfl
  | bl _ => cases r; rfl
  | int _ => obtain ⟨t, rfl⟩ := r; rfl
  | str _ => obtain ⟨t, rfl⟩ := r; rfl
  | byt _ => obtain ⟨t, rfl⟩ := r; rfl
  | flt _ => obtain ⟨t, rfl⟩ := r; rfl
  | ref _ => cases r; rfl
  | ty _ => cases r; rfl
theorem RelV.inj {x y : V} {u : Value} (r : RelV x u) (q : RelV y u) : x = y := Option.some.inj (r.abs.symm.trans q.abs)
theorem Vals.inj : ∀ {xs ys : List V} {us : List Value}, Vals xs us → Vals ys us → xs = ys
  | _, _, _, .nil, .nil => rfl
  | _, _, _, .cons r t, .cons r' t' => by rw [r.inj r', Vals.inj t t']
section
variable {X : Cx} {pins : List (Addr × Obj)} {σ : St} {H : Hp} {s : Shared} {a : Addr} {xs ys : List V}
theorem SqL.of {K : PySem.W.Frag} (h : H a = some (.lst xs)) : SqL K H a xs := .inl (.inl h)
theorem SqT.of {K : PySem.W.Frag} (h : H a = some (.tup xs)) : SqT K H a xs := .inl (.inl h)
theorem Inv.list (I : Inv X pins σ H s) (h : SqL X.K H a xs) : ∃ its : List Value, Vals xs its ∧ PlainL s.heap a its.toArray ∧ xs.length ≤ sizeLine := by
  rcases h with h | ⟨o, its, n, hk, hc, hd, hs, hz, r⟩
  · obtain ⟨z, its, n, r, e⟩ := h.ok I.hok
    exact ⟨its, r, ⟨_, n, e, rfl, rfl, rfl⟩, z⟩
  · refine ⟨its.toList, r, ⟨o, n, I.kIn a o hk, hc, hd, by simpa using hs⟩, ?_⟩
    have e := r.length
    simp only [Array.length_toList] at e
    omega
theorem Inv.tuple (I : Inv X pins σ H s) (h : SqT X.K H a xs) : ∃ its : List Value, Vals xs its ∧ IsTup s.heap a its.toArray ∧ xs.length ≤ sizeLine := by
  rcases h with h | ⟨o, its, n, hk, hc, hs, hz, r⟩
  · obtain ⟨z, its, r, p⟩ := h.ok I.hok
    exact ⟨its, r, p, z⟩
  · refine ⟨its.toList, r, ⟨o, I.kIn a o hk, hc, n, by simpa using hs⟩, ?_⟩
    have e := r.length
    simp only [Array.length_toList] at e
    omega
theorem Inv.list_inj (I : Inv X pins σ H s) (h : SqL X.K H a xs) (h' : SqL X.K H a ys) : xs = ys := by
  obtain ⟨its, r, ⟨o, n, e, _, _, d⟩, _⟩ := I.list h
  obtain ⟨its', r', ⟨o', n', e', _, _, d'⟩, _⟩ := I.list h'
  rw [e] at e'; cases e'
  rw [d] at d'
  injection d' with d1 _
  have : its = its' := by simpa using congrArg Array.toList d1
  subst this
  exact r.inj r'
theorem Inv.tuple_inj (I : Inv X pins σ H s) (h : SqT X.K H a xs) (h' : SqT X.K H a ys) : xs = ys := by
  obtain ⟨its, r, ⟨o, e, _, n, d⟩, _⟩ := I.tuple h
  obtain ⟨its', r', ⟨o', e', _, n', d'⟩, _⟩ := I.tuple h'
  rw [e] at e'; cases e'
  rw [d] at d'
  injection d' with d1 _
  have : its = its' := by simpa using congrArg Array.toList d1
  subst this
  exact r.inj r'
end

/-! ### another wish about exceptions -/
abbrev Cx.wish (X : Cx) (E : Value → Shared → Prop) : Cx := { X with xe := E }
/-- no exception leaves -/
abbrev Cx.nox (X : Cx) : Cx := X.wish fun _ _ => False
theorem Cx.Ok.wish {X : Cx} (ok : X.Ok) (E : Value → Shared → Prop) : (X.wish E).Ok :=
  ⟨ok.mod, ok.kind, ok.glob, ok.blt, ok.above, ok.inj, ok.has, ok.cab, ok.hd, ok.frames, ok.stk, ok.exf, ok.bs, ok.bsz, ok.noex, ok.exfs, ok.funs, ok.frf⟩
theorem Cx.Ok.unwish {X : Cx} {E : Value → Shared → Prop} (ok : (X.wish E).Ok) : X.Ok :=
  ⟨ok.mod, ok.kind, ok.glob, ok.blt, ok.above, ok.inj, ok.has, ok.cab, ok.hd, ok.frames, ok.stk, ok.exf, ok.bs, ok.bsz, ok.noex, ok.exfs, ok.funs, ok.frf⟩
section
variable {X : Cx} {pins : List (Addr × Obj)} {σ : St} {H : Hp} {s : Shared} {E : Value → Shared → Prop}
theorem Inv.wish (I : Inv X pins σ H s) (E : Value → Shared → Prop) : Inv (X.wish E) pins σ H s := ⟨I.ok.wish E, I.os, I.bare, I.base, I.loc, I.cell, I.free, I.freeC, I.pin, I.hok, I.len⟩
theorem Inv.unwish (I : Inv (X.wish E) pins σ H s) : Inv X pins σ H s := ⟨I.ok.unwish, I.os, I.bare, I.base, I.loc, I.cell, I.free, I.freeC, I.pin, I.hok, I.len⟩
theorem SP.unwish {D : Ends} {f : Flow} {s' : Shared} (h : SP (X.wish E) pins D f s') : SP X pins D f s' := by
  cases f with
  | next => obtain ⟨σ', H', I, q⟩ := h; exact ⟨σ', H', I.unwish, q⟩
  | brk => obtain ⟨σ', H', I, q⟩ := h; exact ⟨σ', H', I.unwish, q⟩
  | cont => obtain ⟨σ', H', I, q⟩ := h; exact ⟨σ', H', I.unwish, q⟩
  | ret u => obtain ⟨v, σ', H', I, r, q⟩ := h; exact ⟨v, σ', H', I.unwish, r, q⟩
theorem PE.nox {e : Expr} {t : TE} (h : PE X.nox e t) : PE X e t := fun pins s σ H Q I hw =>
  wpAny_mono (h pins s σ H Q (I.wish _) hw) (fun _ _ ⟨v, H', I', r, q⟩ => ⟨v, H', I'.unwish, r, q⟩) fun _ _ z => False.elim z
theorem PT.nox {e : Expr} {t : TT} (h : PT X.nox e t) : PT X e t := fun pins s σ H Q I hw =>
  wpAny_mono (h pins s σ H Q (I.wish _) hw) (fun _ _ ⟨H', I', q⟩ => ⟨H', I'.unwish, q⟩) fun _ _ z => False.elim z
theorem PSs.nox {st : List Stmt} {t : TS} (h : PSs X.nox st t) : PSs X st t := fun pins s σ H D I hw =>
  wpAny_mono (h pins s σ H D (I.wish _) hw) (fun _ _ q => q.unwish) fun _ _ z => False.elim z
end

/-! ### blocks and small statements -/
section
variable {X : Cx} {st : Stmt} {rest : List Stmt} {t u : TS} {e : Expr} {te : TE} {pos : Pos}
def tNext : TS := fun D σ H => D.nx σ H
def tSeq (t u : TS) : TS := fun D σ H => t { D with nx := u D } σ H
theorem pss_nil : PSs X [] tNext := fun _ _ σ H _ I h => wpAny_execs_nil ⟨σ, H, I, h⟩
theorem pss_cons (h1 : PS X st t) (h2 : PSs X rest u) : PSs X (st :: rest) (tSeq t u) := by
  intro pins s σ H D I h
  refine wpAny_execs_cons (thn (h1 pins s σ H { D with nx := u D } I h) fun f s1 q => ?_)
  cases f with
  | next =>
    obtain ⟨σ', H', I', q⟩ := q
    exact h2 pins s1 σ' H' D I' q
  | ret v => exact q
  | brk => exact q
  | cont => exact q
theorem pss_one (h1 : PS X st t) : PSs X [st] t := by
  intro pins s σ H D I h
  refine wpAny_execs_cons (thn (h1 pins s σ H D I h) fun f s1 q => ?_)
  cases f with
  | next => exact wpAny_execs_nil q
  | ret v => exact q
  | brk => exact q
  | cont => exact q
def tBreak : TS := fun D σ H => D.bk σ H
def tCont : TS := fun D σ H => D.ct σ H
theorem ps_pass : PS X (.Pass pos) tNext := fun _ _ σ H _ I h => wpAny_Pass ⟨σ, H, I, h⟩
theorem ps_break : PS X (.Break pos) tBreak := fun _ _ σ H _ I h => wpAny_Break ⟨σ, H, I, h⟩
theorem ps_continue : PS X (.Continue pos) tCont := fun _ _ σ H _ I h => wpAny_Continue ⟨σ, H, I, h⟩
/-- in a def's body nothing is shown -/
theorem Inv.quiet {pins : List (Addr × Obj)} {σ : St} {H : Hp} {s : Shared} (I : Inv X pins σ H s) : interactive X.env = false := by simp [interactive, I.ok.kind]
/-- a docstring -/
theorem ps_doc {x j pos pos'} : PS X (.Expr (.Constant (.str x) j pos) pos') tNext := fun _ s σ H _ I h => wpAny_Expr (Calls.Constant_str (show SP X _ _ .next { s with toks := s.toks + 1 } from ⟨σ, H, I.tok _, h⟩)) I.quiet
/-- an expression whose value is dropped -/
def tDrop (te : TE) : TS := fun D σ H => te σ H fun _ H1 => D.nx σ H1
theorem ps_expr (he : PE X e te) (hs : swapsWith e none pos.line X.env = pure false := by rfl) : PS X (.Expr e pos) (tDrop te) := by
  intro pins s σ H D I h
  exact wpAny_Expr_any (thn (he pins s σ H _ I h) fun v s1 ⟨x, H1, I1, r1, q1⟩ => ⟨σ, H1, I1, q1⟩) I.quiet hs
def tRet (te : TE) : TS := fun D σ H => te σ H D.rt
theorem ps_ret (he : PE X e te) : PS X (.Return (some e) pos) (tRet te) := by
  intro pins s σ H D I h
  exact wpAny_Return_some (thn (he pins s σ H _ I h) fun v s1 ⟨x, H1, I1, r1, q1⟩ => ⟨x, σ, H1, I1, r1, q1⟩)
def tRetN : TS := fun D _ H => D.rt .non H
theorem ps_retN : PS X (.Return none pos) tRetN := fun _ _ σ H _ I h => wpAny_Return_none ⟨.non, σ, H, I, rfl, h⟩
def tIfS (c : TT) (t u : TS) : TS := fun D σ H => c σ H fun b H1 => if b = true then t D σ H1 else u D σ H1
theorem ps_if {c : Expr} {a b : List Stmt} {tc : TT} (hc : PT X c tc) (ha : PSs X a t) (hb : PSs X b u) : PS X (.If c a b pos) (tIfS tc t u) := by
  intro pins s σ H D I h
  refine wpAny_If (thn (hc pins s σ H _ I h) fun d s1 ⟨H1, I1, q1⟩ => ?_)
  cases d with
  | true => exact ha pins s1 σ H1 D I1 q1
  | false => exact hb pins s1 σ H1 D I1 q1
/-- code that the proof never comes to -/
def tNever : TS := fun _ _ _ => False
theorem ps_never : PS X st tNever := fun _ _ _ _ _ _ h => h.elim
theorem pss_never {sts : List Stmt} : PSs X sts tNever := fun _ _ _ _ _ _ h => h.elim
end

/-! ### targets -/
abbrev TG := V → St → Hp → (St → Hp → Prop) → Prop
abbrev TGs := List V → St → Hp → (St → Hp → Prop) → Prop
def PG (X : Cx) (target : Expr) (t : TG) : Prop :=
  ∀ (pins : List (Addr × Obj)) (s : Shared) (σ : St) (H : Hp) (v : V) (u : Value) (Q : St → Hp → Prop), Inv X pins σ H s → RelV v u → t v σ H Q →
    wpAny (model X.prog X.w) X.A (assign target X.env u) (fun _ s' => ∃ σ' H', Inv X pins σ' H' s' ∧ Q σ' H') X.xe s
/-- several targets, one after another -/
def PGs (X : Cx) (ts : List Expr) (t : TGs) : Prop :=
  ∀ (pins : List (Addr × Obj)) (s : Shared) (σ : St) (H : Hp) (vs : List V) (us : List Value) (Q : St → Hp → Prop), Inv X pins σ H s → Vals vs us → t vs σ H Q →
    wpAny (model X.prog X.w) X.A (assignInOrder ((assignEach ts X.env).map (·.2)) us) (fun _ s' => ∃ σ' H', Inv X pins σ' H' s' ∧ Q σ' H') X.xe s
/-- o[i] = v, by values -/
abbrev TSet := V → V → V → Hp → (Hp → Prop) → Prop
def PSet (X : Cx) (t : TSet) : Prop :=
  ∀ (pins : List (Addr × Obj)) (s : Shared) (σ : St) (H : Hp) (o i v : V) (ov iv u : Value) (Q : Hp → Prop), Inv X pins σ H s → RelV o ov → RelV i iv → RelV v u → t o i v H Q →
    wpAny (model X.prog X.w) X.A (setItem ov iv u) (fun _ s' => ∃ H', Inv X pins σ H' s' ∧ Q H') X.xe s
/-- a op= b, by values -/
abbrev TIp := V → V → Hp → VK → Prop
def PIp (X : Cx) (op : Operator) (t : TIp) : Prop :=
  ∀ (pins : List (Addr × Obj)) (s : Shared) (σ : St) (H : Hp) (x y : V) (v u : Value) (Q : VK), Inv X pins σ H s → RelV x v → RelV y u → t x y H Q →
    wpAny (model X.prog X.w) X.A (inplaceOp op v u) (EP X pins σ Q) X.xe s
section
variable {X : Cx} {pos : Pos}
def gName (i : Nat) : TG := fun v σ H Q => Q (σ.set i (some v)) H
theorem pg_name {i : Nat} {x : Str} (hN : X.N.Nodup) (hi : X.N[i]? = some x) (hx : Loc X.env.scope x) (hf : X.fn x = true ∨ X.env.scope.names.lookup x = some .local := by first | exact .inl rfl | exact .inr rfl | assumption) : PG X (.Name x pos) (gName i) := by
  intro pins s σ H v u Q I r h
  exact wpAny_assign_Name (store_ok I hN hi hx r (fun s' I' => ⟨_, H, I', h⟩) hf)
def gNil : TGs := fun vs σ H Q => vs = [] ∧ Q σ H
def gCons (t : TG) (u : TGs) : TGs := fun vs σ H Q => ∃ v r, vs = v :: r ∧ t v σ H fun σ' H' => u r σ' H' Q
theorem pgs_nil : PGs X [] gNil := by
  intro pins s σ H vs us Q I r h
  obtain ⟨e, h⟩ := h
  subst e
  cases r
  exact assignInOrder_nil ⟨σ, H, I, h⟩
theorem pgs_cons {e : Expr} {es : List Expr} {t : TG} {u : TGs} (h1 : PG X e t) (h2 : PGs X es u)
    (hs : (assignEach (e :: es) X.env).map (·.2) = assign e X.env :: (assignEach es X.env).map (·.2) := by rfl) : PGs X (e :: es) (gCons t u) := by
  intro pins s σ H vs us Q I r h
  obtain ⟨v, vr, e1, h⟩ := h
  subst e1
  cases r with
  | cons r rr =>
    rw [hs]
    refine assignInOrder_cons (thn (h1 pins s σ H _ _ _ I r h) fun _ s1 ⟨σ1, H1, I1, q1⟩ => ?_)
    exact h2 pins s1 σ1 H1 _ _ Q I1 rr q1
/-- (a, b, ..) = a tuple of that length -/
def gTup (K : PySem.W.Frag) (n : Nat) (t : TGs) : TG := fun v σ H Q => ∃ a xs, v = .ref a ∧ SqT K H a xs ∧ xs.length = n ∧ t xs σ H Q
theorem pg_tup {es : List Expr} {k : Nat} {t : TGs} {n : Nat} (hc : X.calm = true) (h : PGs X es t)
    (hn : (assignEach es X.env).length = n := by rfl) (hst : (assignEach es X.env).findIdx? (·.1) = none := by rfl) : PG X (.Tuple es k pos) (gTup X.K n t) := by
  intro pins s σ H v u Q I r hw
  obtain ⟨a, xs, e1, hq, hl, hw⟩ := hw
  subst e1
  cases r
  obtain ⟨its, rv, ht, hz⟩ := I.tuple hq
  refine assign_Tuple_tuple (I.ok.hd hc) ht (by simp [hn, ← hl, rv.length]) hst fun h' hx => ?_
  have I1 : Inv X pins σ H { s with heap := h' } := I.kept (t' := s.toks) fun b o e => hx b o (Nat.ne_of_lt (Heap.lt_size e)) e
  exact h pins _ σ H xs _ Q I1 (by simpa using rv) hw
/-- o[i] = .. -/
def gSub (to ti : TE) (t : TSet) : TG := fun v σ H Q => to σ H fun o H1 => ti σ H1 fun i H2 => t o i v H2 fun H3 => Q σ H3
theorem pg_sub {o i : Expr} {to ti : TE} {t : TSet} (ho : PE X o to) (hi : PE X i ti) (hs : PSet X t)
    (ha : ∀ v, assign (.Subscript o i pos) X.env v = (do
      let ov ← holding [v] (eval o X.env)
      let iv ← holding [v, ov] (eval i X.env)
      standAt pos
      holding [v, ov, iv] (setItem ov iv v)
      release [v, ov, iv] []) := by intro _; rfl) : PG X (.Subscript o i pos) (gSub to ti t) := by
  intro pins s σ H v u Q I r h
  rw [ha]
  refine wpAny_bind (wpAny_holding (thn (ho pins s σ H _ I h) fun ov s1 ⟨x, H1, I1, r1, q1⟩ => ?_))
  refine wpAny_bind (wpAny_holding (thn (hi pins s1 σ H1 _ I1 q1) fun iv s2 ⟨y, H2, I2, r2, q2⟩ => ?_))
  refine wpAny_bind (wpAny_standAt (wpAny_bind (wpAny_holding (thn (hs pins s2 σ H2 x y v ov iv u _ I2 r1 r2 r q2) fun _ s3 ⟨H3, I3, q3⟩ => ?_))))
  exact wpAny_release ⟨σ, H3, I3, q3⟩
/-- target = value -/
def tAsg (te : TE) (g : TG) : TS := fun D σ H => te σ H fun x H1 => g x σ H1 D.nx
theorem ps_asg {tg e : Expr} {te : TE} {g : TG} (he : PE X e te) (hg : PG X tg g) (hs : swapsWithSole [tg] e pos.line X.env = pure false := by rfl) (hw : swappedStores [tg] e X.env = pure none := by rfl)
    (h1 : (assignEach [tg] X.env).map (·.2) = [assign tg X.env] := by rfl) : PS X (.Assign [tg] e pos) (tAsg te g) := by
  intro pins s σ H D I h
  refine wpAny_Assign_stores (thn (he pins s σ H _ I h) fun v s1 ⟨x, H1, I1, r1, q1⟩ => ?_) hs hw
  rw [h1]
  exact thn (hg pins s1 σ H1 x v _ I1 r1 q1) fun _ s2 q => q
/-- name = value -/
theorem ps_set {i : Nat} {x : Str} {e : Expr} {te : TE} {pos' : Pos} (hN : X.N.Nodup) (hi : X.N[i]? = some x) (hx : Loc X.env.scope x) (he : PE X e te) (hs : swapsWith e (some (.Name x pos')) pos.line X.env = pure false := by rfl) (hf : X.fn x = true ∨ X.env.scope.names.lookup x = some .local := by first | exact .inl rfl | exact .inr rfl | assumption) :
    PS X (.Assign [.Name x pos'] e pos) (tAsg te (gName i)) := by
  intro pins s σ H D I h
  refine wpAny_Assign_Name (thn (he pins s σ H _ I h) fun v s1 ⟨y, H1, I1, r1, q1⟩ => ?_) hs
  exact store_ok I1 hN hi hx r1 (fun s2 I2 => ⟨_, H1, I2, q1⟩) hf
/-- a, b = x, y with plain local names: stored from the right; the pair itself is not tracked (the opening rows as in PyProof/Rows/TupAssign.lean:23) -/
def tPar (i j : Nat) (ta : TA) : TS := fun D σ H => ta σ H fun vs H1 => ∃ v w, vs = [v, w] ∧ D.nx ((σ.set i (some v)).set j (some w)) H1
theorem ps_par {i j : Nat} {x y : Str} {a b : Expr} {ta : TA} {px py pt : Pos} {kt k2 pt2} (hc : X.calm = true) (hN : X.N.Nodup) (hi : X.N[i]? = some x) (hj : X.N[j]? = some y) (hij : i ≠ j)
    (hx : X.env.scope.names.lookup x = some .local) (hy : X.env.scope.names.lookup y = some .local) (ha : PA X [a, b] ta)
    (hw : swappedStores [.Tuple [.Name x px, .Name y py] kt pt] (.Tuple [a, b] k2 pt2) X.env = pure (some [x, y]))
    (hs : swapsWithSole [.Tuple [.Name x px, .Name y py] kt pt] (.Tuple [a, b] k2 pt2) pos.line X.env = pure false := by rfl) :
    PS X (.Assign [.Tuple [.Name x px, .Name y py] kt pt] (.Tuple [a, b] k2 pt2) pos) (tPar i j ta) := by
  intro pins s σ H D I h
  rw [exec_Assign_arm]
  refine wpAny_bind (wpAny_standAt ?_)
  rw [hs]
  refine wpAny_bind (wpAny_pure ?_)
  rw [if_neg (by decide)]
  refine wpAny_bind (Tuple_ (thn (ha _ pins s σ H _ I h) fun us s1 ⟨vs, H1, I1, r1, q1⟩ => ?_))
  obtain ⟨v, w, e1, q1⟩ := q1
  subst e1
  obtain ⟨u1, u2, rfl, rv, rw'⟩ : ∃ u1 u2, us = [u1, u2] ∧ RelV v u1 ∧ RelV w u2 := by
    cases r1 with
    | cons p q =>
      cases q with
      | cons p' q' =>
        cases q'
        exact ⟨_, _, rfl, p, p'⟩
  refine wpAny_newObj_type ?_ (by show 2 ≤ sizeLine; decide)
  have I2 : Inv X pins σ H1 { s1 with heap := s1.heap.push { cls := .type "tuple", data := .seq [u1, u2].toArray } } := I1.kept (t' := s1.toks) fun b o e => Heap.get?_push_of_some _ e
  rw [hw]
  refine wpAny_bind (wpAny_pure ?_)
  show wpAny (model X.prog X.w) X.A (do rule "assign.swapped-stores"; let items ← unpackItems (.ref s1.heap.objs.size) 2 none; assignInOrder [fun v => bindName X.env y v, fun v => bindName X.env x v] items.reverse; pure Flow.next) _ _ _
  refine wpAny_bind (wpAny_rule (wpAny_bind (unpackItems_tuple (items := #[u1, u2]) (I.ok.hd hc) (IsTup.new s1.heap _) fun h' hx' => ?_)))
  have I3 := I2.kept (h' := h') (t' := s1.toks) fun b o e => hx' b o (Nat.ne_of_lt (Heap.lt_size e)) e
  show wpAny _ _ (assignInOrder [fun v => bindName X.env y v, fun v => bindName X.env x v] [u2, u1] >>= fun _ => pure Flow.next) _ _ _
  refine wpAny_bind (assignInOrder_cons (wpAny_bindName (store_ok I3 hN hj (.inl hy) rw' (fun s2 I4 => ?_) (.inr hy))))
  refine assignInOrder_cons (wpAny_bindName (store_ok I4 hN hi (.inl hx) rv (fun s3 I5 => assignInOrder_nil (wpAny_pure ?_)) (.inr hx)))
  rw [List.set_comm _ _ (Ne.symm hij)] at I5
  exact ⟨_, H1, I5, q1⟩
/-- name op= e -/
def tAug (i : Nat) (te : TE) (ti : TIp) : TS := fun D σ H => ∃ x, σ[i]? = some (some x) ∧ te σ H fun y H1 => ti x y H1 fun z H2 => D.nx (σ.set i (some z)) H2
theorem ps_aug {i : Nat} {x : Str} {e : Expr} {te : TE} {op : Operator} {ti : TIp} {pos' : Pos} (hN : X.N.Nodup) (hi : X.N[i]? = some x) (hx : Loc X.env.scope x) (he : PE X e te) (ho : PIp X op ti) (hf : X.fn x = true ∨ X.env.scope.names.lookup x = some .local := by first | exact .inl rfl | exact .inr rfl | assumption) :
    PS X (.AugAssign (.Name x pos') op e pos) (tAug i te ti) := by
  intro pins s σ H D I h
  obtain ⟨v, e1, h⟩ := h
  obtain ⟨m, hn, hl⟩ := I.loc
  have vis : Vis X.env.scope x := by rcases hx with k | k; exact .inl k; exact .inr (.inl k)
  obtain ⟨u, r, l⟩ := hl i x v hi e1 vis
  refine wpAny_AugAssign_Name ?_
  have go : wpAny (model X.prog X.w) X.A (eval e X.env) (fun w s₂ => wpAny (model X.prog X.w) X.A (inplaceOp op u w) (fun r s₃ => wpAny (model X.prog X.w) X.A (storeName X.env x r) (fun _ => SP X pins D .next) X.xe s₃) X.xe s₂) X.xe s := by
    refine thn (he pins s σ H _ I h) fun w s1 ⟨y, H1, I1, r1, q1⟩ => ?_
    refine thn (ho pins s1 σ H1 v y u w _ I1 r r1 q1) fun z s2 ⟨zv, H2, I2, r2, q2⟩ => ?_
    exact store_ok I2 hN hi hx r2 (fun s3 I3 => ⟨_, H2, I3, q2⟩) hf
  rcases l with ⟨hk, hm⟩ | ⟨hk, c, hc, hcell⟩
  · exact wpAny_loadName_local I.ok.kind hk hn hm go
  · rcases hk with hk | hk
    · exact wpAny_loadName_cell I.ok.kind hk hc hcell go
    · rcases hx with k | k
      · have : X.env.scope.names.lookup x = some .free := hk
        rw [k] at this; cases this
      · have : X.env.scope.names.lookup x = some .free := hk
        rw [k] at this; cases this
/-- o[i] op= e -/
def tAugS (to ti te : TE) (tget : V → V → Hp → VK → Prop) (tip : TIp) (tset : TSet) : TS := fun D σ H => to σ H fun o H1 => ti σ H1 fun i H2 => tget o i H2 fun x H3 => te σ H3 fun y H4 => tip x y H4 fun z H5 => tset o i z H5 fun H6 => D.nx σ H6
/-- o[i], by values -/
def PGet (X : Cx) (t : V → V → Hp → VK → Prop) : Prop :=
  ∀ (pins : List (Addr × Obj)) (s : Shared) (σ : St) (H : Hp) (o i : V) (ov iv : Value) (Q : VK), Inv X pins σ H s → RelV o ov → RelV i iv → t o i H Q →
    wpAny (model X.prog X.w) X.A (getItem ov iv) (EP X pins σ Q) X.xe s
theorem ps_augS {o i e : Expr} {to ti te : TE} {tget : V → V → Hp → VK → Prop} {tip : TIp} {tset : TSet} {op : Operator} {tpos : Pos} (ho : PE X o to) (hi : PE X i ti) (hg : PGet X tget) (he : PE X e te) (hp : PIp X op tip) (hs : PSet X tset)
    (ha : ∀ ov iv new, augStore i ov iv new = (do holding [new, ov, iv] (setItem ov iv new); release [new, ov, iv] []; pure .next) := by intros; rfl) : PS X (.AugAssign (.Subscript o i tpos) op e pos) (tAugS to ti te tget tip tset) := by
  intro pins s σ H D I h
  refine wpAny_AugAssign_SubscriptAny (thn (ho pins s σ H _ I h) fun ov s1 ⟨x1, H1, I1, r1, q1⟩ => ?_) ha
  refine thn (hi pins s1 σ H1 _ I1 q1) fun iv s2 ⟨x2, H2, I2, r2, q2⟩ => ?_
  refine thn (hg pins s2 σ H2 x1 x2 ov iv _ I2 r1 r2 q2) fun old s3 ⟨x3, H3, I3, r3, q3⟩ => ?_
  refine thn (he pins s3 σ H3 _ I3 q3) fun v s4 ⟨x4, H4, I4, r4, q4⟩ => ?_
  refine thn (hp pins s4 σ H4 x3 x4 old v _ I4 r3 r4 q4) fun new s5 ⟨x5, H5, I5, r5, q5⟩ => ?_
  exact thn (hs pins s5 σ H5 x1 x2 x5 ov iv new _ I5 r1 r2 r5 q5) fun _ s6 ⟨H6, I6, q6⟩ => ⟨σ, H6, I6, q6⟩
/-- ints -/
def ipI (f : Int → Int → Int) : TIp := fun x y H Q => ∃ i j, x = .int i ∧ y = .int j ∧ Q (.int (f i j)) H
theorem ip_add : PIp X .Add (ipI fun i j => i + j) := by
  intro pins s σ H x y v u Q I r1 r2 h
  obtain ⟨i, j, e1, e2, q⟩ := h
  subst e1; subst e2
  obtain ⟨t, rfl⟩ := r1
  obtain ⟨t', rfl⟩ := r2
  exact iadd_int ⟨.int _, H, I.tok _, ⟨_, rfl⟩, q⟩
theorem ip_sub : PIp X .Sub (ipI fun i j => i - j) := by
  intro pins s σ H x y v u Q I r1 r2 h
  obtain ⟨i, j, e1, e2, q⟩ := h
  subst e1; subst e2
  obtain ⟨t, rfl⟩ := r1
  obtain ⟨t', rfl⟩ := r2
  exact isub_int ⟨.int _, H, I.tok _, ⟨_, rfl⟩, q⟩
end

/-! ### while -/
section
variable {X : Cx} {pos : Pos}
/-- the invariant W with its measure -/
def tWhile (c : TT) (tb : TS) : TS := fun D σ H => ∃ W : Nat → St → Hp → Prop, (∃ m, W m σ H) ∧ ∀ m σ H, W m σ H →
  c σ H fun b H1 => if b = true then ∃ N : St → Hp → Prop, (∀ σ' H', N σ' H' → ∃ m', m' < m ∧ W m' σ' H') ∧ tb { D with nx := N, ct := N, bk := D.nx } σ H1 else D.nx σ H1
theorem ps_while {c : Expr} {body : List Stmt} {tc : TT} {tb : TS} (hp : PassesOwn (model X.prog X.w) X.A X.env X.xe) (hc : PT X c tc) (hb : PSs X body tb) : PS X (.While c body [] pos) (tWhile tc tb) := by
  intro pins s σ H D I h
  obtain ⟨W, ⟨m0, w0⟩, turn⟩ := h
  refine wpAny_While (codeAny_whileLoop (fun n s' => ∃ σ' H', Inv X pins σ' H' s' ∧ W n σ' H') ?_ m0 ⟨σ, H, I, w0⟩)
  rintro n s1 ⟨σ1, H1, I1, w1⟩
  refine wpAny_passesOwn hp (thn (hc pins s1 σ1 H1 _ I1 (turn n σ1 H1 w1)) fun b s2 ⟨H2, I2, q2⟩ => ?_)
  cases b with
  | true =>
    obtain ⟨N, hN, q2⟩ := q2
    rw [if_pos rfl]
    refine wpAny_passesOwn hp (thn (hb pins s2 σ1 H2 _ I2 q2) fun f s3 q3 => ?_)
    cases f with
    | next =>
      obtain ⟨σ3, H3, I3, n3⟩ := q3
      obtain ⟨m', hm, w3⟩ := hN σ3 H3 n3
      exact ⟨m', hm, σ3, H3, I3, w3⟩
    | cont =>
      obtain ⟨σ3, H3, I3, n3⟩ := q3
      obtain ⟨m', hm, w3⟩ := hN σ3 H3 n3
      exact ⟨m', hm, σ3, H3, I3, w3⟩
    | brk => exact q3
    | ret v => exact q3
  | false =>
    rw [if_neg Bool.false_ne_true]
    exact wpAny_execs_nil ⟨σ1, H2, I2, q2⟩
end

/-! ### what a loop or a comprehension walks -/
/-- at turn i: it yields x (the heap may grow), or it stops -/
structure It where
  go : Nat → Hp → Prop
  yld : Nat → Hp → V → Hp → Prop
  stop : Nat → Hp → Prop
/-- the iterator's own objects may turn: they are not the frame's, not pinned, younger than the entry (or a comprehension's own) -/
def FpOk (X : Cx) (pins : List (Addr × Obj)) (H : Hp) (b : Addr) : Prop :=
  H b = none ∧ b ≠ X.env.locals ∧ b ∉ X.fs ∧ (b ∈ X.ex ∨ X.s₀.heap.objs.size ≤ b) ∧ (∀ x c, X.env.cells.lookup x = some c → c ≠ b) ∧ ∀ p ∈ X.pn ++ pins, p.1 ≠ b
theorem Inv.fpOk {X : Cx} {pins : List (Addr × Obj)} {σ : St} {H H' : Hp} {s : Shared} {b : Addr} (I : Inv X pins σ H s) (hb : s.heap.objs.size ≤ b) (hn : H' b = none) : FpOk X pins H' b := by
  refine ⟨hn, Nat.ne_of_gt (Nat.lt_of_lt_of_le I.lt hb), I.nofs hb, .inr (Nat.le_trans I.sz hb), fun x c e z => ?_, fun p hp z => ?_⟩
  · obtain ⟨v, q⟩ := I.cell x c e
    exact absurd (Nat.lt_of_lt_of_le q.lt (by rw [z]; exact hb)) (Nat.lt_irrefl _)
  · exact absurd (Nat.lt_of_lt_of_le (Heap.lt_size (I.pin p hp).1) (by rw [z]; exact hb)) (Nat.lt_irrefl _)
structure Turn (P : Program) (w : World) (K : PySem.W.Frag) (tg : Expr) (J : It) (fp : List Addr) (it : Addr) (tn : Nat → Heap → Prop) : Prop where
  mem : it ∈ fp
  obj : ∀ i h, tn i h → ∀ b ∈ fp, ∃ o, h.get? b = some o ∧ ∀ v, o.data ≠ .cell v
  keep : ∀ i h h', tn i h → (∀ b ∈ fp, ∀ o, h.get? b = some o → h'.get? b = some o) → tn i h'
  item : ∀ (X : Cx), X.prog = P → X.w = w → X.K = K → X.calm = true → ∀ (i : Nat) (pins : List (Addr × Obj)) (s : Shared) (σ : St) (H : Hp) (E : Value → Shared → Prop), Inv X pins σ H s → (∀ b ∈ fp, FpOk X pins H b) → tn i s.heap → J.go i H →
    wpAny (model P w) X.A (pyNext (.ref it)) (fun r s1 => ∃ u, r = some u ∧
      wpAny (model P w) X.A (letOwnedTupleGo tg (.ref it) u) (fun _ s2 => ∃ x H', Inv X pins σ H' s2 ∧ RelV x u ∧ J.yld i H x H' ∧ tn (i + 1) s2.heap ∧ ∀ b ∈ fp, H' b = none) E s1) E s
  done : ∀ (X : Cx), X.prog = P → X.w = w → X.K = K → X.calm = true → ∀ (i : Nat) (pins : List (Addr × Obj)) (s : Shared) (σ : St) (H : Hp) (E : Value → Shared → Prop), Inv X pins σ H s → (∀ b ∈ fp, FpOk X pins H b) → tn i s.heap → J.stop i H →
    wpAny (model P w) X.A (pyNext (.ref it)) (fun r s1 => r = none ∧ Inv X pins σ H s1) E s
  self : ∀ (A : Around) (i : Nat) (s : Shared) (Q : Value → Shared → Prop) (E : Value → Shared → Prop), tn i s.heap → Q (.ref it) s → wpAny (model P w) A (pyIter (.ref it)) Q E s
abbrev TI := St → Hp → (It → Hp → Prop) → Prop
/-- an iterator has come -/
def PIE (X : Cx) (pins : List (Addr × Obj)) (σ : St) (tg : Expr) (R : It → Hp → Prop) (itv : Value) (s2 : Shared) : Prop :=
  ∃ (it : Addr) (fp : List Addr) (tn : Nat → Heap → Prop) (J : It) (H' : Hp), itv = .ref it ∧ Inv X pins σ H' s2 ∧ Turn X.prog X.w X.K tg J fp it tn ∧ tn 0 s2.heap ∧ (∀ b ∈ fp, FpOk X pins H' b) ∧ R J H'
def PI (X : Cx) (tg iter : Expr) (wi : TI) : Prop :=
  ∀ (pins : List (Addr × Obj)) (s : Shared) (σ : St) (H : Hp) (R : It → Hp → Prop), Inv X pins σ H s → wi σ H R →
    wpAny (model X.prog X.w) X.A (eval iter X.env) (fun v s1 => wpAny (model X.prog X.w) X.A (pyIter v) (PIE X pins σ tg R) X.xe s1) X.xe s

/-- the step ahead of the store is nothing for an iterator that keeps no tuple -/
theorem go_of {M : Model} {A : Around} {E : Value → Shared → Prop} {s : Shared} {tg : Expr} {it : Addr} {u : Value} {o : Obj} {n : String} {vs : Array Value} {Q : Unit → Shared → Prop} (ho : s.heap.get? it = some o) (hc : o.cls = .type n) (hd : o.data = .fields vs)
    (hn : ["enumerate", "zip", "dict_itemiterator", "dict_reverseitemiterator", "odict_iterator", "itertools.zip_longest", "itertools.pairwise"].contains n = false) (hQ : Q () s) : wpAny M A (letOwnedTupleGo tg (.ref it) u) Q E s := by
  unfold letOwnedTupleGo
  cases tg <;> first
    | exact wpAny_pure hQ
    | (cases u <;> first
        | exact wpAny_pure hQ
        | (refine wpAny_bind (wpAny_load ho ?_)
           rw [hc, hd]
           show wpAny M A (if (["enumerate", "zip", "dict_itemiterator", "dict_reverseitemiterator", "odict_iterator", "itertools.zip_longest", "itertools.pairwise"].contains n && vs[0]? == some (rawInt _)) = true then _ else _) Q E s
           rw [if_neg (by intro h; rw [hn, Bool.false_and] at h; cases h)]
           exact wpAny_pure hQ))

/-- the list at a, as it stands at each turn (a loop may append to it) -/
def Itl (K : PySem.W.Frag) (a : Addr) : It :=
  ⟨fun i H => ∃ xs x, SqL K H a xs ∧ xs[i]? = some x, fun i H x H' => H' = H ∧ ∀ xs, SqL K H a xs → xs[i]? = some x, fun i H => ∃ xs, SqL K H a xs ∧ xs.length ≤ i⟩
def Itt (K : PySem.W.Frag) (a : Addr) : It :=
  ⟨fun i H => ∃ xs x, SqT K H a xs ∧ xs[i]? = some x, fun i H x H' => H' = H ∧ ∀ xs, SqT K H a xs → xs[i]? = some x, fun i H => ∃ xs, SqT K H a xs ∧ xs.length ≤ i⟩
/-- lo, lo + 1, .. (n of them) -/
def Itr (lo : Int) (n : Nat) : It := ⟨fun i _ => i < n, fun i H x H' => H' = H ∧ x = .int (lo + i), fun i _ => n ≤ i⟩
theorem turn_list {P : Program} {w : World} {K : PySem.W.Frag} {tg : Expr} (a it : Addr) : Turn P w K tg (Itl K a) [it] it (fun i h => h.IsListIter it a i) where
  mem := by simp
  obj := fun i h st b hb => by
    have e : b = it := by simpa using hb
    subst e
    obtain ⟨o, e, c, d⟩ := st
    exact ⟨o, e, fun v z => by rw [d] at z; cases z⟩
  keep := fun i h h' st k => st.at fun o e => k it (by simp) o e
  item := by
    intro X hP hw hK hc i pins s σ H E I hf st hg
    subst hP hw hK
    obtain ⟨xs, x, hq, hx⟩ := hg
    obtain ⟨its, rv, p, hz⟩ := I.list hq
    obtain ⟨u, hu, ru⟩ := rv.get hx
    obtain ⟨f0, f1, f2, f3, f4, f5⟩ := hf it (by simp)
    refine wpAny_pyNext_list_item st p.isList (x := u) (by simpa using hu) fun h' st' sb => ?_
    have I1 : Inv X pins σ H { s with heap := h' } := I.turned (t' := s.toks) (fun b o hb e => (sb.2 b hb).trans e) f0 f1 f3 f4 f5
    obtain ⟨o, e, c, d⟩ := id st'
    exact ⟨u, rfl, go_of (s := { s with heap := h' }) e c d (by decide) ⟨x, H, I1, ru, ⟨rfl, fun ys hy => by rw [I.list_inj hy hq]; exact hx⟩, st', fun b hb => (hf b hb).1⟩⟩
  done := by
    intro X hP hw hK hc i pins s σ H E I hf st hg
    subst hP hw hK
    obtain ⟨xs, hq, hx⟩ := hg
    obtain ⟨its, rv, p, hz⟩ := I.list hq
    obtain ⟨f0, f1, f2, f3, f4, f5⟩ := hf it (by simp)
    have hl := rv.length
    exact wpAny_pyNext_list_end (I.ok.hd hc) st p.isList (by simp; omega) fun h' eb => ⟨rfl, I.turned (t' := s.toks) (fun b o hb e => eb b o hb e) f0 f1 f3 f4 f5⟩
  self := fun _ _ _ _ _ st h => wpAny_pyIter_listiter st h
theorem turn_tuple {P : Program} {w : World} {K : PySem.W.Frag} {tg : Expr} (a it : Addr) : Turn P w K tg (Itt K a) [it] it (fun i h => h.IsTupleIter it a i) where
  mem := by simp
  obj := fun i h st b hb => by
    have e : b = it := by simpa using hb
    subst e
    obtain ⟨o, e, c, d⟩ := st
    exact ⟨o, e, fun v z => by rw [d] at z; cases z⟩
  keep := fun i h h' st k => st.at fun o e => k it (by simp) o e
  item := by
    intro X hP hw hK hc i pins s σ H E I hf st hg
    subst hP hw hK
    obtain ⟨xs, x, hq, hx⟩ := hg
    obtain ⟨its, rv, p, hz⟩ := I.tuple hq
    obtain ⟨u, hu, ru⟩ := rv.get hx
    obtain ⟨f0, f1, f2, f3, f4, f5⟩ := hf it (by simp)
    refine wpAny_pyNext_tuple_item st (show s.heap.IsTuple a its.toArray from p) (x := u) (by simpa using hu) fun h' st' sb => ?_
    have I1 : Inv X pins σ H { s with heap := h' } := I.turned (t' := s.toks) (fun b o hb e => (sb.2 b hb).trans e) f0 f1 f3 f4 f5
    obtain ⟨o, e, c, d⟩ := id st'
    exact ⟨u, rfl, go_of (s := { s with heap := h' }) e c d (by decide) ⟨x, H, I1, ru, ⟨rfl, fun ys hy => by rw [I.tuple_inj hy hq]; exact hx⟩, st', fun b hb => (hf b hb).1⟩⟩
  done := by
    intro X hP hw hK hc i pins s σ H E I hf st hg
    subst hP hw hK
    obtain ⟨xs, hq, hx⟩ := hg
    obtain ⟨its, rv, p, hz⟩ := I.tuple hq
    obtain ⟨f0, f1, f2, f3, f4, f5⟩ := hf it (by simp)
    have hl := rv.length
    exact wpAny_pyNext_tuple_end (I.ok.hd hc) st (show s.heap.IsTuple a its.toArray from p) (by simp; omega) fun h' eb => ⟨rfl, I.turned (t' := s.toks) (fun b o hb e => eb b o hb e) f0 f1 f3 f4 f5⟩
  self := fun _ _ _ _ _ st h => wpAny_pyIter_tupleiter st h
theorem turn_range {P : Program} {w : World} {K : PySem.W.Frag} {tg : Expr} (it : Addr) (lo : Int) (n : Nat) : Turn P w K tg (Itr lo n) [it] it (fun i h => IsRangeIter h it (lo + (i : Nat) * 1) ((n : Int) - (i : Nat)) 1) where
  mem := by simp
  obj := fun i h st b hb => by
    have e : b = it := by simpa using hb
    subst e
    exact ⟨_, st, fun v z => by
      have z' : Data.fields _ = Data.cell v := z
      cases z'⟩
  keep := fun i h h' st k => k it (by simp) _ st
  item := by
    intro X hP hw hK hc i pins s σ H E I hf st hg
    subst hP hw hK
    obtain ⟨f0, f1, f2, f3, f4, f5⟩ := hf it (by simp)
    have W := Walks.range (prog := X.prog) (w := X.w) (I.ok.hd hc) it lo 1 n
    refine W.item i s _ _ hg st fun v h' tk hv st' kk => ?_
    obtain ⟨t, rfl⟩ := hv
    have I1 : Inv X pins σ H { s with heap := h', toks := tk } := I.turned (fun b o hb e => kk b o (by simpa using hb) e) f0 f1 f3 f4 f5
    refine ⟨_, rfl, go_of (s := { s with heap := h', toks := tk }) (n := "range_iterator") st' rfl rfl (by decide) ⟨.int (lo + i), H, I1, ⟨t, ?_⟩, ⟨rfl, rfl⟩, st', fun b hb => (hf b hb).1⟩⟩
    rw [Int.mul_one]
  done := by
    intro X hP hw hK hc i pins s σ H E I hf st hg
    subst hP hw hK
    obtain ⟨f0, f1, f2, f3, f4, f5⟩ := hf it (by simp)
    exact wpAny_pyNext_range_end (I.ok.hd hc) st (by have : n ≤ i := hg; omega) fun h' eb => ⟨rfl, I.turned (t' := s.toks) (fun b o hb e => eb b o hb e) f0 f1 f3 f4 f5⟩
  self := fun _ _ _ _ _ st h => wpAny_pyIter_rangeiter st h
end L2

namespace L2
open PySem PySem.Spec PyProof.Rows
section
variable {X : Cx} {tg : Expr}
def iList (K : PySem.W.Frag) (tl : TE) : TI := fun σ H R => tl σ H fun x H1 => ∃ a, x = .ref a ∧ (∃ xs, SqL K H1 a xs) ∧ R (Itl K a) H1
def iTup (K : PySem.W.Frag) (tl : TE) : TI := fun σ H R => tl σ H fun x H1 => ∃ a, x = .ref a ∧ (∃ xs, SqT K H1 a xs) ∧ R (Itt K a) H1
theorem pi_list {l : Expr} {tl : TE} (hl : PE X l tl) : PI X tg l (iList X.K tl) := by
  intro pins s σ H R I h
  refine thn (hl pins s σ H _ I h) fun v s1 ⟨x, H1, I1, r1, q1⟩ => ?_
  obtain ⟨a, e, ⟨xs, hq⟩, q⟩ := q1
  subst e
  cases r1
  obtain ⟨its, rv, p, hz⟩ := I1.list hq
  refine wpAny_pyIter_list p.isList ?_
  refine ⟨s1.heap.objs.size, [s1.heap.objs.size], _, _, H1, rfl, I1.kept (t' := s1.toks) fun b o e => Heap.get?_push_of_some _ e, turn_list a _, ⟨_, Heap.get?_push_size _ rfl, rfl, rfl⟩, fun b hb => ?_, q⟩
  have e : b = s1.heap.objs.size := by simpa using hb
  subst e
  exact I1.fpOk (Nat.le_refl _) (I1.hok.fresh (Nat.le_refl _))
theorem pi_tup {l : Expr} {tl : TE} (hl : PE X l tl) : PI X tg l (iTup X.K tl) := by
  intro pins s σ H R I h
  refine thn (hl pins s σ H _ I h) fun v s1 ⟨x, H1, I1, r1, q1⟩ => ?_
  obtain ⟨a, e, ⟨xs, hq⟩, q⟩ := q1
  subst e
  cases r1
  obtain ⟨its, rv, p, hz⟩ := I1.tuple hq
  refine wpAny_pyIter_tuple (show s1.heap.IsTuple a its.toArray from p) ?_
  refine ⟨s1.heap.objs.size, [s1.heap.objs.size], _, _, H1, rfl, I1.kept (t' := s1.toks) fun b o e => Heap.get?_push_of_some _ e, turn_tuple a _, ⟨_, Heap.get?_push_size _ rfl, rfl, rfl⟩, fun b hb => ?_, q⟩
  have e : b = s1.heap.objs.size := by simpa using hb
  subst e
  exact I1.fpOk (Nat.le_refl _) (I1.hok.fresh (Nat.le_refl _))
/-- a range object just made, walked -/
theorem range_it {pins : List (Addr × Obj)} {σ : St} {H : Hp} {s : Shared} {R : It → Hp → Prop} {E : Value → Shared → Prop} {lo hi : Int} {t u v : Tok} {tk : Nat} (I : Inv X pins σ H s) (h1 : -(2 ^ 62) ≤ lo) (h2 : lo < 2 ^ 62) (h3 : -(2 ^ 62) ≤ hi) (h4 : hi < 2 ^ 62)
    (q : R (Itr lo (hi - lo).toNat) H) : wpAny (model X.prog X.w) X.A (pyIter (.ref s.heap.objs.size)) (PIE X pins σ tg R) E { s with heap := s.heap.push { cls := .type "range", data := .fields #[.int lo t, .int hi u, .int 1 v] }, toks := tk } := by
  refine wpAny_pyIter_range (IsRange.new ..) (small_one h1 h2 h3 h4) ?_
  have I1 : Inv X pins σ H { s with heap := s.heap.push { cls := .type "range", data := .fields #[.int lo t, .int hi u, .int 1 v] }, toks := tk } := I.kept fun b o e => Heap.get?_push_of_some _ e
  refine ⟨(s.heap.push { cls := .type "range", data := .fields #[.int lo t, .int hi u, .int 1 v] }).objs.size, [(s.heap.push { cls := .type "range", data := .fields #[.int lo t, .int hi u, .int 1 v] }).objs.size], _, _, H, rfl,
    I1.kept (t' := tk) fun b o e => Heap.get?_push_of_some _ e, turn_range _ lo (hi - lo).toNat, ?_, fun b hb => ?_, q⟩
  · have e1 : lo + ((0 : Nat) : Int) * 1 = lo := by simp
    have e2 : (((hi - lo).toNat : Nat) : Int) - ((0 : Nat) : Int) = Builtin.Range.rangeSize lo hi 1 := by rw [rangeSize_one]; split <;> omega
    show IsRangeIter _ _ (lo + ((0 : Nat) : Int) * 1) ((((hi - lo).toNat : Nat) : Int) - ((0 : Nat) : Int)) 1
    rw [e1, e2]
    exact Heap.get?_push_size _ rfl
  · have e : b = (s.heap.push { cls := .type "range", data := .fields #[.int lo t, .int hi u, .int 1 v] }).objs.size := by simpa using hb
    subst e
    exact I1.fpOk (Nat.le_refl _) (I1.hok.fresh (Nat.le_refl _))
def iRng1 (ta : TA) : TI := fun σ H R => ta σ H fun vs H1 => ∃ j : Int, vs = [.int j] ∧ -(2 ^ 62) ≤ j ∧ j < 2 ^ 62 ∧ R (Itr 0 j.toNat) H1
def iRng2 (ta : TA) : TI := fun σ H R => ta σ H fun vs H1 => ∃ i j : Int, vs = [.int i, .int j] ∧ (-(2 ^ 62) ≤ i ∧ i < 2 ^ 62 ∧ -(2 ^ 62) ≤ j ∧ j < 2 ^ 62) ∧ R (Itr i (j - i).toNat) H1
theorem pi_range1 {a : Expr} {ta : TA} {p pos : Pos} (hg : Gl X "range") (hm : X.mg "range" = none) (ha : PA X [a] ta) (hs : starEach [a] X.env = [(false, eval a X.env)] := by rfl) : PI X tg (.Call (.Name "range" p) [a] [] pos) (iRng1 ta) := by
  intro pins s σ H R I h
  refine Call_ (ld_blt I hg hm boot_range (PyProof.Rows.callWith_type1 (thn (ha pos pins s σ H _ I h) fun us s1 ⟨vs, H1, I1, r1, q1⟩ => ?_) hs rfl))
  obtain ⟨j, e, q1, q2, q⟩ := q1
  subst e
  cases r1 with
  | cons r rr =>
    cases rr
    obtain ⟨t, rfl⟩ := r
    exact call_range_1 (range_it I1 (by omega) (by omega) q1 q2 (by simpa using q))
theorem pi_range2 {a b : Expr} {ta : TA} {p pos : Pos} (hg : Gl X "range") (hm : X.mg "range" = none) (ha : PA X [a, b] ta) (hs : starEach [a, b] X.env = [(false, eval a X.env), (false, eval b X.env)] := by rfl) (hs2 : starEach [b] X.env = [(false, eval b X.env)] := by rfl) :
    PI X tg (.Call (.Name "range" p) [a, b] [] pos) (iRng2 ta) := by
  intro pins s σ H R I h
  refine Call_ (ld_blt I hg hm boot_range (PyProof.Rows.callWith_type1 (thn (ha pos pins s σ H _ I h) fun us s1 ⟨vs, H1, I1, r1, q1⟩ => ?_) (by rw [hs, hs2]) (by rw [hs2]; rfl)))
  obtain ⟨i, j, e, ⟨q1, q2, q3, q4⟩, q⟩ := q1
  subst e
  cases r1 with
  | cons r rr =>
    cases rr with
    | cons r' rr =>
      cases rr
      obtain ⟨t, rfl⟩ := r
      obtain ⟨t', rfl⟩ := r'
      exact call_range_2 (range_it I1 q1 q2 q3 q4 q)

/-! ### for -/
/-- W: the invariant by the turn and a measure; N: what the body is to reach -/
def tFor (wi : TI) (g : TG) (tb : TS) : TS := fun D σ H => wi σ H fun J H1 => ∃ W : Nat → Nat → St → Hp → Prop, (∃ m, W 0 m σ H1) ∧ ∀ i m σ H, W i m σ H →
  (J.stop i H ∧ D.nx σ H) ∨ (J.go i H ∧ ∃ N : St → Hp → Prop, (∀ σ' H', N σ' H' → ∃ m', m' < m ∧ W (i + 1) m' σ' H') ∧ ∀ x H', J.yld i H x H' → g x σ H' fun σ2 H2 => tb { D with nx := N, ct := N, bk := D.nx } σ2 H2)
/-- the records at fp as they stand -/
def pinsAt (fp : List Addr) (h : Heap) : List (Addr × Obj) := fp.filterMap fun b => (h.get? b).map fun o => (b, o)
theorem mem_pinsAt {fp : List Addr} {h : Heap} {b : Addr} {o : Obj} (hb : b ∈ fp) (e : h.get? b = some o) : (b, o) ∈ pinsAt fp h := List.mem_filterMap.mpr ⟨b, hb, by rw [e]; rfl⟩
theorem of_pinsAt {fp : List Addr} {h : Heap} {p : Addr × Obj} (hp : p ∈ pinsAt fp h) : p.1 ∈ fp ∧ h.get? p.1 = some p.2 := by
  obtain ⟨b, hb, e⟩ := List.mem_filterMap.mp hp
  cases q : h.get? b with
  | none => rw [q] at e; cases e
  | some o =>
    rw [q] at e
    have e' : (b, o) = p := Option.some.inj e
    subst e'
    exact ⟨hb, q⟩
theorem Inv.pinned {pins : List (Addr × Obj)} {σ : St} {H : Hp} {s : Shared} {fp : List Addr} (I : Inv X pins σ H s) (hf : ∀ b ∈ fp, FpOk X pins H b) (ho : ∀ b ∈ fp, ∃ o, s.heap.get? b = some o ∧ ∀ v, o.data ≠ .cell v) : Inv X (pins ++ pinsAt fp s.heap) σ H s :=
  I.pins_of fun p hp => (List.mem_append.mp hp).elim (fun z => I.pin p (List.mem_append_right _ z)) fun z => by
    obtain ⟨hb, e⟩ := of_pinsAt z
    obtain ⟨f0, f1, f2, _⟩ := hf p.1 hb
    obtain ⟨o, e', d⟩ := ho p.1 hb
    rw [e] at e'; cases e'
    exact ⟨e, f0, f1, f2, d⟩
theorem Inv.unpinned {pins pl : List (Addr × Obj)} {σ : St} {H : Hp} {s : Shared} (I : Inv X (pins ++ pl) σ H s) : Inv X pins σ H s := I.pins_of fun p hp => I.pin p (List.mem_append_right _ (List.mem_append_left _ hp))
theorem ps_for {iter : Expr} {body : List Stmt} {wi : TI} {g : TG} {tb : TS} {pos : Pos} (hp : PassesOwn (model X.prog X.w) X.A X.env X.xe) (hc : X.calm = true) (hi : PI X tg iter wi) (hg : PG X tg g) (hb : PSs X body tb)
    (hs : ∀ x, foldedSetIterable iter X.env x = pure x := by intro _; rfl) : PS X (.For tg iter body [] pos) (tFor wi g tb) := by
  intro pins s σ H D I h
  refine wpAny_For (thn (hi pins s σ H _ I h) fun v s1 h1 => thn h1 fun itv s2 h2 => ?_) hs
  obtain ⟨it, fp, tn, J, H2, e, I2, T, st2, f2, W, ⟨m0, w0⟩, turn⟩ := h2
  subst e
  -- what stays true of the iterator's objects through the loop
  have stat : ∀ {H' : Hp}, (∀ b ∈ fp, H' b = none) → ∀ b ∈ fp, FpOk X pins H' b := fun hn b hb => ⟨hn b hb, (f2 b hb).2⟩
  refine codeAny_forLoop_any (fun n s' => ∃ i σ' H', Inv X pins σ' H' s' ∧ tn i s'.heap ∧ (∀ b ∈ fp, H' b = none) ∧ W i n σ' H') ?_ m0 ⟨0, σ, H2, I2, st2, fun b hb => (f2 b hb).1, w0⟩
  rintro n s3 ⟨i, σ3, H3, I3, st3, fr3, w3⟩
  rcases turn i n σ3 H3 w3 with ⟨stop, qn⟩ | ⟨go, N, hN, step⟩
  · refine wpAny_passesOwn hp (thn (T.done X rfl rfl rfl hc i pins s3 σ3 H3 X.xe I3 (stat fr3) st3 stop) fun r s4 ⟨hr, I4⟩ => ?_)
    subst hr
    exact wpAny_execs_nil ⟨σ3, H3, I4, qn⟩
  · refine wpAny_passesOwn hp (thn (T.item X rfl rfl rfl hc i pins s3 σ3 H3 X.xe I3 (stat fr3) st3 go) fun r s4 ⟨u, hr, h4⟩ => ?_)
    subst hr
    refine wpAny_passesOwn hp (thn h4 fun _ s5 ⟨x, H5, I5, r5, y5, st5, fr5⟩ => ?_)
    have I5' := I5.pinned (stat fr5) (T.obj _ _ st5)
    refine wpAny_passesOwn hp (thn (hg _ s5 σ3 H5 x u _ I5' r5 (step x H5 y5)) fun _ s6 ⟨σ6, H6, I6, q6⟩ => ?_)
    refine wpAny_passesOwn hp (thn (hb _ s6 σ6 H6 _ I6 q6) fun f s7 q7 => ?_)
    have again : ∀ {σ7 : St} {H7 : Hp}, Inv X (pins ++ pinsAt fp s5.heap) σ7 H7 s7 → N σ7 H7 → ∃ m, m < n ∧ ∃ i σ' H', Inv X pins σ' H' s7 ∧ tn i s7.heap ∧ (∀ b ∈ fp, H' b = none) ∧ W i m σ' H' := fun {σ7 H7} I7 n7 => by
      obtain ⟨m', hm, w7⟩ := hN σ7 H7 n7
      refine ⟨m', hm, i + 1, σ7, H7, I7.unpinned, T.keep _ _ _ st5 fun b hb o e => (I7.pin (b, o) (List.mem_append_right _ (List.mem_append_right _ (mem_pinsAt hb e)))).1, fun b hb => ?_, w7⟩
      obtain ⟨o, e, d⟩ := T.obj _ _ st5 b hb
      exact (I7.pin (b, o) (List.mem_append_right _ (List.mem_append_right _ (mem_pinsAt hb e)))).2.1
    cases f with
    | next => obtain ⟨σ7, H7, I7, n7⟩ := q7; exact again I7 n7
    | cont => obtain ⟨σ7, H7, I7, n7⟩ := q7; exact again I7 n7
    | brk => obtain ⟨σ7, H7, I7, q7⟩ := q7; exact ⟨σ7, H7, I7.unpinned, q7⟩
    | ret v => obtain ⟨x7, σ7, H7, I7, r7, q7⟩ := q7; exact ⟨x7, σ7, H7, I7.unpinned, r7, q7⟩
end

/-! ### the forms one uses -/
/-- over a list that the body leaves as it is -/
theorem for_list {K : PySem.W.Frag} {a : Addr} {xs : List V} {g : TG} {tb : TS} {D : Ends} {σ : St} {H : Hp} (Pv : Nat → St → Hp → Prop) (h0 : Pv 0 σ H) (hl : ∀ i σ H, i ≤ xs.length → Pv i σ H → SqL K H a xs)
    (hs : ∀ i x σ H, xs[i]? = some x → Pv i σ H → g x σ H fun σ2 H2 => tb { D with nx := Pv (i + 1), ct := Pv (i + 1), bk := D.nx } σ2 H2) (hd : ∀ σ H, Pv xs.length σ H → D.nx σ H) :
    ∃ W : Nat → Nat → St → Hp → Prop, (∃ m, W 0 m σ H) ∧ ∀ i m σ H, W i m σ H →
      ((Itl K a).stop i H ∧ D.nx σ H) ∨ ((Itl K a).go i H ∧ ∃ N : St → Hp → Prop, (∀ σ' H', N σ' H' → ∃ m', m' < m ∧ W (i + 1) m' σ' H') ∧ ∀ x H', (Itl K a).yld i H x H' → g x σ H' fun σ2 H2 => tb { D with nx := N, ct := N, bk := D.nx } σ2 H2) := by
  refine ⟨fun i m σ H => m = xs.length - i ∧ i ≤ xs.length ∧ Pv i σ H, ⟨xs.length, by simp, Nat.zero_le _, h0⟩, ?_⟩
  rintro i m σ H ⟨rfl, hi, p⟩
  have q := hl i σ H hi p
  by_cases hlt : i < xs.length
  · refine .inr ⟨⟨xs, xs[i], q, by simp [hlt]⟩, Pv (i + 1), fun σ' H' p' => ⟨xs.length - (i + 1), by omega, rfl, hlt, p'⟩, fun x H' y => ?_⟩
    obtain ⟨e, y⟩ := y
    subst e
    exact hs i x σ _ (y xs q) p
  · have e : i = xs.length := by omega
    subst e
    exact .inl ⟨⟨xs, q, Nat.le_refl _⟩, hd σ H p⟩
theorem for_tup {K : PySem.W.Frag} {a : Addr} {xs : List V} {g : TG} {tb : TS} {D : Ends} {σ : St} {H : Hp} (Pv : Nat → St → Hp → Prop) (h0 : Pv 0 σ H) (hl : ∀ i σ H, i ≤ xs.length → Pv i σ H → SqT K H a xs)
    (hs : ∀ i x σ H, xs[i]? = some x → Pv i σ H → g x σ H fun σ2 H2 => tb { D with nx := Pv (i + 1), ct := Pv (i + 1), bk := D.nx } σ2 H2) (hd : ∀ σ H, Pv xs.length σ H → D.nx σ H) :
    ∃ W : Nat → Nat → St → Hp → Prop, (∃ m, W 0 m σ H) ∧ ∀ i m σ H, W i m σ H →
      ((Itt K a).stop i H ∧ D.nx σ H) ∨ ((Itt K a).go i H ∧ ∃ N : St → Hp → Prop, (∀ σ' H', N σ' H' → ∃ m', m' < m ∧ W (i + 1) m' σ' H') ∧ ∀ x H', (Itt K a).yld i H x H' → g x σ H' fun σ2 H2 => tb { D with nx := N, ct := N, bk := D.nx } σ2 H2) := by
  refine ⟨fun i m σ H => m = xs.length - i ∧ i ≤ xs.length ∧ Pv i σ H, ⟨xs.length, by simp, Nat.zero_le _, h0⟩, ?_⟩
  rintro i m σ H ⟨rfl, hi, p⟩
  have q := hl i σ H hi p
  by_cases hlt : i < xs.length
  · refine .inr ⟨⟨xs, xs[i], q, by simp [hlt]⟩, Pv (i + 1), fun σ' H' p' => ⟨xs.length - (i + 1), by omega, rfl, hlt, p'⟩, fun x H' y => ?_⟩
    obtain ⟨e, y⟩ := y
    subst e
    exact hs i x σ _ (y xs q) p
  · have e : i = xs.length := by omega
    subst e
    exact .inl ⟨⟨xs, q, Nat.le_refl _⟩, hd σ H p⟩
theorem for_range {lo : Int} {n : Nat} {g : TG} {tb : TS} {D : Ends} {σ : St} {H : Hp} (Pv : Nat → St → Hp → Prop) (h0 : Pv 0 σ H)
    (hs : ∀ i σ H, i < n → Pv i σ H → g (.int (lo + i)) σ H fun σ2 H2 => tb { D with nx := Pv (i + 1), ct := Pv (i + 1), bk := D.nx } σ2 H2) (hd : ∀ σ H, Pv n σ H → D.nx σ H) :
    ∃ W : Nat → Nat → St → Hp → Prop, (∃ m, W 0 m σ H) ∧ ∀ i m σ H, W i m σ H →
      ((Itr lo n).stop i H ∧ D.nx σ H) ∨ ((Itr lo n).go i H ∧ ∃ N : St → Hp → Prop, (∀ σ' H', N σ' H' → ∃ m', m' < m ∧ W (i + 1) m' σ' H') ∧ ∀ x H', (Itr lo n).yld i H x H' → g x σ H' fun σ2 H2 => tb { D with nx := N, ct := N, bk := D.nx } σ2 H2) := by
  refine ⟨fun i m σ H => m = n - i ∧ i ≤ n ∧ Pv i σ H, ⟨n, by simp, Nat.zero_le _, h0⟩, ?_⟩
  rintro i m σ H ⟨rfl, hi, p⟩
  by_cases hlt : i < n
  · refine .inr ⟨hlt, Pv (i + 1), fun σ' H' p' => ⟨n - (i + 1), by omega, rfl, hlt, p'⟩, fun x H' y => ?_⟩
    obtain ⟨e, y⟩ := y
    subst e y
    exact hs i σ _ hlt p
  · have e : i = n := by omega
    subst e
    exact .inl ⟨Nat.le_refl _, hd σ H p⟩
/-- while, by a word and a measure of the state -/
theorem while_by {c : TT} {tb : TS} {D : Ends} {σ : St} {H : Hp} (Pv : St → Hp → Prop) (μ : St → Hp → Nat) (h0 : Pv σ H)
    (hs : ∀ σ H, Pv σ H → c σ H fun b H1 => if b = true then tb { D with nx := fun σ' H' => Pv σ' H' ∧ μ σ' H' < μ σ H, ct := fun σ' H' => Pv σ' H' ∧ μ σ' H' < μ σ H, bk := D.nx } σ H1 else D.nx σ H1)
    (mono : ∀ σ H Q Q', (∀ b H1, Q b H1 → Q' b H1) → c σ H Q → c σ H Q') : tWhile c tb D σ H := by
  refine ⟨fun m σ H => m = μ σ H ∧ Pv σ H, ⟨_, rfl, h0⟩, ?_⟩
  rintro m σ H ⟨rfl, p⟩
  refine mono σ H _ _ (fun b H1 q => ?_) (hs σ H p)
  cases b with
  | true => exact ⟨_, fun σ' H' ⟨p', l⟩ => ⟨_, l, rfl, p'⟩, q⟩
  | false => exact q
end L2

namespace L2
open PySem PySem.Spec PyProof.Rows

abbrev R2 := V → V → Hp → VK → Prop
/-- a two-place operation on values: f is binaryOp op, inplaceOp op or compareOp op -/
def OpR (X : Cx) (f : Value → Value → Sem Value) (r : R2) : Prop :=
  ∀ (pins : List (Addr × Obj)) (s : Shared) (σ : St) (H : Hp) (x y : V) (v u : Value) (Q : VK), Inv X pins σ H s → RelV x v → RelV y u → r x y H Q →
    wpAny (model X.prog X.w) X.A (f v u) (EP X pins σ Q) X.xe s
/-- a one-place operation -/
def UnR (X : Cx) (f : Value → Sem Value) (r : V → Hp → VK → Prop) : Prop :=
  ∀ (pins : List (Addr × Obj)) (s : Shared) (σ : St) (H : Hp) (x : V) (v : Value) (Q : VK), Inv X pins σ H s → RelV x v → r x H Q →
    wpAny (model X.prog X.w) X.A (f v) (EP X pins σ Q) X.xe s
/-- a call of a value that is known (a builtin, a type) with values -/
def CallR (X : Cx) (f : Value) (r : List V → Hp → VK → Prop) : Prop :=
  ∀ (pins : List (Addr × Obj)) (s : Shared) (σ : St) (H : Hp) (xs : List V) (us : List Value) (Q : VK), Inv X pins σ H s → Vals xs us → r xs H Q →
    wpAny (model X.prog X.w) X.A (call f us) (EP X pins σ Q) X.xe s
/-- a value's truth -/
def TruR (X : Cx) (r : V → Hp → (Bool → Hp → Prop) → Prop) : Prop :=
  ∀ (pins : List (Addr × Obj)) (s : Shared) (σ : St) (H : Hp) (x : V) (v : Value) (Q : Bool → Hp → Prop), Inv X pins σ H s → RelV x v → r x H Q →
    wpAny (model X.prog X.w) X.A (truthy v) (TP X pins σ Q) X.xe s

def tOp (r : R2) (ta tb : TE) : TE := fun σ H Q => ta σ H fun x H1 => tb σ H1 fun y H2 => r x y H2 Q
def tUn (r : V → Hp → VK → Prop) (ta : TE) : TE := fun σ H Q => ta σ H fun x H1 => r x H1 Q
/-- ints in, under C, and a value out -/
def rI (C : Int → Int → Prop) (g : Int → Int → V) : R2 := fun x y H Q => ∃ i j, x = .int i ∧ y = .int j ∧ C i j ∧ Q (g i j) H
def rI0 (g : Int → Int → V) : R2 := fun x y H Q => ∃ i j, x = .int i ∧ y = .int j ∧ Q (g i j) H
def rU (g : Int → V) : V → Hp → VK → Prop := fun x H Q => ∃ i, x = .int i ∧ Q (g i) H

section
variable {X : Cx} {a b c : Expr} {ta tb tc : TE} {pos : Pos}

theorem binT (ha : PE X a ta) (hb : PE X b tb) {pins : List (Addr × Obj)} {s : Shared} {σ : St} {H : Hp} {R : V → V → Hp → Prop} (I : Inv X pins σ H s)
    (h : ta σ H fun x H1 => tb σ H1 fun y H2 => R x y H2) {Q : Value → Shared → Prop} {f : Value → Value → Sem Value}
    (hf : ∀ v u s2 x y H2, Inv X pins σ H2 s2 → RelV x v → RelV y u → R x y H2 → wpAny (model X.prog X.w) X.A (f v u) Q X.xe s2) :
    wpAny (model X.prog X.w) X.A (eval a X.env) (fun v s₁ => wpAny (model X.prog X.w) X.A (eval b X.env) (fun u s₂ => wpAny (model X.prog X.w) X.A (f v u) Q X.xe s₂) X.xe s₁) X.xe s := by
  refine thn (ha pins s σ H _ I h) fun v s1 ⟨x, H1, I1, r1, q1⟩ => ?_
  refine thn (hb pins s1 σ H1 _ I1 q1) fun u s2 ⟨y, H2, I2, r2, q2⟩ => ?_
  exact hf v u s2 x y H2 I2 r1 r2 q2

theorem pe_op {op : Operator} {r : R2} (ho : OpR X (binaryOp op) r) (ha : PE X a ta) (hb : PE X b tb) : PE X (.BinOp a op b pos) (tOp r ta tb) := by
  intro pins s σ H Q I h
  exact wpAny_BinOp (binT ha hb I h fun v u s2 x y H2 I2 rx ry q => ho pins s2 σ H2 x y v u Q I2 rx ry q)
theorem pe_un {op : UnaryOp} {r : V → Hp → VK → Prop} (ho : UnR X (unaryOp op) r) (ha : PE X a ta) : PE X (.UnaryOp op a pos) (tUn r ta) := by
  intro pins s σ H Q I h
  exact UnaryOp_ (thn (ha pins s σ H _ I h) fun v s1 ⟨x, H1, I1, r1, q1⟩ => ho pins s1 σ H1 x v Q I1 r1 q1)
/-- a op= e at a name: the name's slot i -/
theorem augR {op : Operator} {r : R2} (ho : OpR X (inplaceOp op) r) {pins : List (Addr × Obj)} {s : Shared} {σ : St} {H : Hp} {x y : V} {v u : Value} {Q : VK} (I : Inv X pins σ H s)
    (rx : RelV x v) (ry : RelV y u) (q : r x y H Q) : wpAny (model X.prog X.w) X.A (inplaceOp op v u) (EP X pins σ Q) X.xe s := ho pins s σ H x y v u Q I rx ry q

/-! ### ints -/
theorem opI {f : Value → Value → Sem Value} {C : Int → Int → Prop} {g : Int → Int → Int}
    (rule : ∀ (i j : Int) (t u : Tok) (s : Shared) (Q : Value → Shared → Prop) (E : Value → Shared → Prop), C i j → Q (.int (g i j) s.toks) { s with toks := s.toks + 1 } → wpAny (model X.prog X.w) X.A (f (.int i t) (.int j u)) Q E s) :
    OpR X f (rI C fun i j => .int (g i j)) := by
  intro pins s σ H x y v u Q I rx ry h
  obtain ⟨i, j, rfl, rfl, hc, q⟩ := h
  obtain ⟨t, rfl⟩ := rx
  obtain ⟨t', rfl⟩ := ry
  exact rule i j t t' s _ _ hc ⟨.int (g i j), H, I.tok _, ⟨_, rfl⟩, q⟩
theorem opI0 {f : Value → Value → Sem Value} {g : Int → Int → Int}
    (rule : ∀ (i j : Int) (t u : Tok) (s : Shared) (Q : Value → Shared → Prop) (E : Value → Shared → Prop), Q (.int (g i j) s.toks) { s with toks := s.toks + 1 } → wpAny (model X.prog X.w) X.A (f (.int i t) (.int j u)) Q E s) :
    OpR X f (rI0 fun i j => .int (g i j)) := by
  intro pins s σ H x y v u Q I rx ry h
  obtain ⟨i, j, rfl, rfl, q⟩ := h
  obtain ⟨t, rfl⟩ := rx
  obtain ⟨t', rfl⟩ := ry
  exact rule i j t t' s _ _ ⟨.int (g i j), H, I.tok _, ⟨_, rfl⟩, q⟩
theorem opB0 {f : Value → Value → Sem Value} {g : Int → Int → Bool}
    (rule : ∀ (i j : Int) (t u : Tok) (s : Shared) (Q : Value → Shared → Prop) (E : Value → Shared → Prop), Q (.bool (g i j)) s → wpAny (model X.prog X.w) X.A (f (.int i t) (.int j u)) Q E s) :
    OpR X f (rI0 fun i j => .bl (g i j)) := by
  intro pins s σ H x y v u Q I rx ry h
  obtain ⟨i, j, rfl, rfl, q⟩ := h
  obtain ⟨t, rfl⟩ := rx
  obtain ⟨t', rfl⟩ := ry
  exact rule i j t t' s _ _ ⟨.bl (g i j), H, I, rfl, q⟩

def CDiv (i j : Int) : Prop := 0 < j ∧ j < 1073741824
def CDivN (i j : Int) : Prop := j ≠ 0 ∧ j.natAbs < 1073741824
def CPow (i j : Int) : Prop := 0 ≤ j ∧ j ≤ 1000000 ∧ i.natAbs < 2 ^ 64
def CMul (i j : Int) : Prop := (-(2 ^ 64) < i ∧ i < 2 ^ 64) ∨ (-(2 ^ 64) < j ∧ j < 2 ^ 64)
theorem CMul.ok {i j : Int} (h : CMul i j) : IntMulOk i j := by
  rcases h with ⟨h1, h2⟩ | ⟨h1, h2⟩
  · exact .of_left (intBits_le_64 h1 h2)
  · exact .of_right (intBits_le_64 h1 h2)
theorem two_pow_nn (k : Nat) : (0 : Int) ≤ 2 ^ k := by
  rw [two_pow_cast]
  exact Int.natCast_nonneg _

theorem op_add : OpR X (binaryOp .Add) (rI0 fun i j => .int (i + j)) := opI0 fun _ _ _ _ _ _ _ q => add_int q
theorem op_sub : OpR X (binaryOp .Sub) (rI0 fun i j => .int (i - j)) := opI0 fun _ _ _ _ _ _ _ q => sub_int q
theorem op_mul : OpR X (binaryOp .Mult) (rI CMul fun i j => .int (i * j)) := opI fun _ _ _ _ _ _ _ hc q => mul_int q hc.ok
/-- // by a positive divisor -/
theorem op_fdiv : OpR X (binaryOp .FloorDiv) (rI CDiv fun i j => .int (i / j)) := opI fun i j _ _ _ _ _ hc q => by
  have h1 : (0 : Int) < j := hc.1
  have h2 : j < 1073741824 := hc.2
  exact floordiv_int (by omega) (by rw [Int.fdiv_eq_ediv_of_nonneg i (by omega)]; exact q) (.inl (PyProof.noPylong_small (by omega)))
theorem op_fdivN : OpR X (binaryOp .FloorDiv) (rI CDivN fun i j => .int (i.fdiv j)) := opI fun _ _ _ _ _ _ _ hc q => floordiv_int hc.1 q (.inl (PyProof.noPylong_small hc.2))
/-- % by a positive divisor of any size -/
theorem op_mod : OpR X (binaryOp .Mod) (rI (fun _ j => 0 < j) fun i j => .int (i % j)) := opI fun i j _ _ _ _ _ hc q => by
  have h1 : (0 : Int) < j := hc
  exact mod_int' (by omega) (by rw [Int.fmod_eq_emod_of_nonneg i (by omega)]; exact q)
theorem op_modN : OpR X (binaryOp .Mod) (rI (fun _ j => j ≠ 0) fun i j => .int (i.fmod j)) := opI fun _ _ _ _ _ _ _ hc q => mod_int' hc q
theorem op_pow : OpR X (binaryOp .Pow) (rI CPow fun i j => .int (i ^ j.toNat)) := opI fun _ _ _ _ _ _ _ hc q => pow_int_small hc.1 hc.2.1 hc.2.2 q
theorem op_shl : OpR X (binaryOp .LShift) (rI CPow fun i j => .int (i * 2 ^ j.toNat)) := opI fun _ _ _ _ _ _ _ hc q => lshift_int_small hc.1 hc.2.1 hc.2.2 q
theorem op_shr : OpR X (binaryOp .RShift) (rI (fun _ j => 0 ≤ j) fun i j => .int (i / 2 ^ j.toNat)) := opI fun i j _ _ _ _ _ hc q =>
  rshift_int hc (by rw [Int.fdiv_eq_ediv_of_nonneg i (two_pow_nn _)]; exact q)
theorem op_and : OpR X (binaryOp .BitAnd) (rI0 fun i j => .int (Builtin.bitAnd i j)) := opI0 fun _ _ _ _ _ _ _ q => and_int q
theorem op_or : OpR X (binaryOp .BitOr) (rI0 fun i j => .int (Builtin.bitOr i j)) := opI0 fun _ _ _ _ _ _ _ q => or_int q
theorem op_xor : OpR X (binaryOp .BitXor) (rI0 fun i j => .int (Builtin.bitXor i j)) := opI0 fun _ _ _ _ _ _ _ q => xor_int q

theorem iop_add : OpR X (inplaceOp .Add) (rI0 fun i j => .int (i + j)) := opI0 fun _ _ _ _ _ _ _ q => iadd_int q
theorem iop_sub : OpR X (inplaceOp .Sub) (rI0 fun i j => .int (i - j)) := opI0 fun _ _ _ _ _ _ _ q => isub_int q
theorem iop_mul : OpR X (inplaceOp .Mult) (rI CMul fun i j => .int (i * j)) := opI fun _ _ _ _ _ _ _ hc q => imul_int q hc.ok
theorem iop_fdiv : OpR X (inplaceOp .FloorDiv) (rI CDiv fun i j => .int (i / j)) := opI fun i j _ _ _ _ _ hc q => by
  have h1 : (0 : Int) < j := hc.1
  have h2 : j < 1073741824 := hc.2
  exact ifloordiv_int (by omega) (by rw [Int.fdiv_eq_ediv_of_nonneg i (by omega)]; exact q) (.inl (PyProof.noPylong_small (by omega)))
theorem iop_mod : OpR X (inplaceOp .Mod) (rI (fun _ j => 0 < j) fun i j => .int (i % j)) := opI fun i j _ _ _ _ _ hc q => by
  have h1 : (0 : Int) < j := hc
  exact imod_int (by omega) (by rw [Int.fmod_eq_emod_of_nonneg i (by omega)]; exact q)
theorem iop_shl : OpR X (inplaceOp .LShift) (rI CPow fun i j => .int (i * 2 ^ j.toNat)) := opI fun _ _ _ _ _ _ _ hc q => ilshift_int_small hc.1 hc.2.1 hc.2.2 q
theorem iop_shr : OpR X (inplaceOp .RShift) (rI (fun _ j => 0 ≤ j) fun i j => .int (i / 2 ^ j.toNat)) := opI fun i j _ _ _ _ _ hc q =>
  irshift_int hc (by rw [Int.fdiv_eq_ediv_of_nonneg i (two_pow_nn _)]; exact q)
theorem iop_and : OpR X (inplaceOp .BitAnd) (rI0 fun i j => .int (Builtin.bitAnd i j)) := opI0 fun _ _ _ _ _ _ _ q => iand_int q
theorem iop_or : OpR X (inplaceOp .BitOr) (rI0 fun i j => .int (Builtin.bitOr i j)) := opI0 fun _ _ _ _ _ _ _ q => ior_int q
theorem iop_xor : OpR X (inplaceOp .BitXor) (rI0 fun i j => .int (Builtin.bitXor i j)) := opI0 fun _ _ _ _ _ _ _ q => ixor_int q

theorem unI {f : Value → Sem Value} {g : Int → Int}
    (rule : ∀ (i : Int) (t : Tok) (s : Shared) (Q : Value → Shared → Prop) (E : Value → Shared → Prop), Q (.int (g i) s.toks) { s with toks := s.toks + 1 } → wpAny (model X.prog X.w) X.A (f (.int i t)) Q E s) :
    UnR X f (rU fun i => .int (g i)) := by
  intro pins s σ H x v Q I rx h
  obtain ⟨i, rfl, q⟩ := h
  obtain ⟨t, rfl⟩ := rx
  exact rule i t s _ _ ⟨.int (g i), H, I.tok _, ⟨_, rfl⟩, q⟩
theorem un_neg : UnR X (unaryOp .USub) (rU fun i => .int (-i)) := unI fun _ _ _ _ _ q => neg_int q
theorem un_inv : UnR X (unaryOp .Invert) (rU fun i => .int (Builtin.bitNot i)) := unI fun _ _ _ _ _ q => invert_int q

/-! ### bools among ints: n += (a < b) -/
theorem op_add_ib : OpR X (binaryOp .Add) (fun x y H Q => ∃ i k, x = .int i ∧ y = .bl k ∧ Q (.int (i + b2i k)) H) := by
  intro pins s σ H x y v u Q I rx ry h
  obtain ⟨i, k, rfl, rfl, q⟩ := h
  obtain ⟨t, rfl⟩ := rx
  cases ry
  exact add_int_bool ⟨.int (i + b2i k), H, I.tok _, ⟨_, rfl⟩, q⟩
end

/-! ### comparisons -/
/-- the scalars that == tells apart as data does -/
def scal : V → V → Bool
  | .non, .non => true | .non, .int _ => true | .int _, .non => true | .non, .bl _ => true | .bl _, .non => true | .non, .str _ => true | .str _, .non => true
  | .int _, .int _ => true | .bl _, .bl _ => true | .str _, .str _ => true | .byt _, .byt _ => true
  | .int _, .str _ => true | .str _, .int _ => true | .bl _, .str _ => true | .str _, .bl _ => true
  | _, _ => false
def rEq : R2 := fun x y H Q => scal x y = true ∧ Q (.bl (decide (x = y))) H
def rNe : R2 := fun x y H Q => scal x y = true ∧ Q (.bl (!decide (x = y))) H

theorem dec_int {i j : Int} : decide (V.int i = V.int j) = (i == j) := by
  rw [Bool.eq_iff_iff]
  simp
theorem dec_bl {i j : Bool} : decide (V.bl i = V.bl j) = (i == j) := by
  rw [Bool.eq_iff_iff]
  simp
theorem dec_str {i j : Str} : decide (V.str i = V.str j) = (i == j) := by
  rw [Bool.eq_iff_iff]
  simp
theorem dec_byt {i j : Array UInt8} : decide (V.byt i = V.byt j) = (i.toList == j.toList) := by
  rw [Bool.eq_iff_iff]
  cases i
  cases j
  simp

section
variable {X : Cx} {a b c : Expr} {ta tb tc : TE} {pos : Pos}
theorem fin_bl {pins : List (Addr × Obj)} {σ : St} {H : Hp} {s : Shared} {Q : VK} {k k' : Bool} (I : Inv X pins σ H s) (q : Q (.bl k) H) (e : k = k') : EP X pins σ Q (.bool k') s := by
  subst e
  exact ⟨.bl k, H, I, rfl, q⟩
theorem op_eq : OpR X (compareOp .Eq) rEq := by
  intro pins s σ H x y v u Q I rx ry h
  obtain ⟨hs, q⟩ := h
  cases x with
  | non =>
    cases rx
    cases y with
    | non => cases ry; exact PySem.EqNone.eq_none_none (fin_bl I q (by simp))
    | bl j => cases ry; exact PySem.EqNone.eq_none_bool (fin_bl I q (by simp))
    | int j => obtain ⟨t', rfl⟩ := ry; exact PySem.EqNone.eq_none_int (fin_bl I q (by simp))
    | str j => obtain ⟨t', rfl⟩ := ry; exact PySem.EqNone.eq_none_str (fin_bl I q (by simp))
    | _ => exact absurd (show false = true from hs) Bool.false_ne_true
  | bl i =>
    cases rx
    cases y with
    | non => cases ry; exact PySem.EqNone.eq_bool_none (fin_bl I q (by simp))
    | bl j => cases ry; exact eq_bool (fin_bl I q dec_bl)
    | str j => obtain ⟨t', rfl⟩ := ry; exact PySem.EqMixed.eq_bool_str (fin_bl I q (by simp))
    | _ => exact absurd (show false = true from hs) Bool.false_ne_true
  | int i =>
    obtain ⟨t, rfl⟩ := rx
    cases y with
    | non => cases ry; exact PySem.EqNone.eq_int_none (fin_bl I q (by simp))
    | int j => obtain ⟨t', rfl⟩ := ry; exact eq_int (fin_bl I q dec_int)
    | str j => obtain ⟨t', rfl⟩ := ry; exact PySem.EqMixed.eq_int_str (fin_bl I q (by simp))
    | _ => exact absurd (show false = true from hs) Bool.false_ne_true
  | str i =>
    obtain ⟨t, rfl⟩ := rx
    cases y with
    | non => cases ry; exact PySem.EqNone.eq_str_none (fin_bl I q (by simp))
    | bl j => cases ry; exact PySem.EqMixed.eq_str_bool (fin_bl I q (by simp))
    | int j => obtain ⟨t', rfl⟩ := ry; exact PySem.EqMixed.eq_str_int (fin_bl I q (by simp))
    | str j => obtain ⟨t', rfl⟩ := ry; exact eq_str (fin_bl I q dec_str)
    | _ => exact absurd (show false = true from hs) Bool.false_ne_true
  | byt i =>
    obtain ⟨t, rfl⟩ := rx
    cases y with
    | byt j => obtain ⟨t', rfl⟩ := ry; exact PySem.W.eq_bytes (fin_bl I q dec_byt)
    | _ => exact absurd (show false = true from hs) Bool.false_ne_true
  | _ => cases y <;> exact absurd (show false = true from hs) Bool.false_ne_true
theorem op_ne : OpR X (compareOp .NotEq) rNe := by
  intro pins s σ H x y v u Q I rx ry h
  obtain ⟨hs, q⟩ := h
  cases x with
  | non =>
    cases rx
    cases y with
    | non => cases ry; exact PySem.EqNone.ne_none_none (fin_bl I q (by simp))
    | bl j => cases ry; exact PySem.EqNone.ne_none_bool (fin_bl I q (by simp))
    | int j => obtain ⟨t', rfl⟩ := ry; exact PySem.EqNone.ne_none_int (fin_bl I q (by simp))
    | str j => obtain ⟨t', rfl⟩ := ry; exact PySem.EqNone.ne_none_str (fin_bl I q (by simp))
    | _ => exact absurd (show false = true from hs) Bool.false_ne_true
  | bl i =>
    cases rx
    cases y with
    | non => cases ry; exact PySem.EqNone.ne_bool_none (fin_bl I q (by simp))
    | bl j => cases ry; exact ne_bool (fin_bl I q (congrArg not dec_bl))
    | str j => obtain ⟨t', rfl⟩ := ry; exact PySem.EqMixed.ne_bool_str (fin_bl I q (by simp))
    | _ => exact absurd (show false = true from hs) Bool.false_ne_true
  | int i =>
    obtain ⟨t, rfl⟩ := rx
    cases y with
    | non => cases ry; exact PySem.EqNone.ne_int_none (fin_bl I q (by simp))
    | int j => obtain ⟨t', rfl⟩ := ry; exact ne_int (fin_bl I q (congrArg not dec_int))
    | str j => obtain ⟨t', rfl⟩ := ry; exact PySem.EqMixed.ne_int_str (fin_bl I q (by simp))
    | _ => exact absurd (show false = true from hs) Bool.false_ne_true
  | str i =>
    obtain ⟨t, rfl⟩ := rx
    cases y with
    | non => cases ry; exact PySem.EqNone.ne_str_none (fin_bl I q (by simp))
    | bl j => cases ry; exact PySem.EqMixed.ne_str_bool (fin_bl I q (by simp))
    | int j => obtain ⟨t', rfl⟩ := ry; exact PySem.EqMixed.ne_str_int (fin_bl I q (by simp))
    | str j => obtain ⟨t', rfl⟩ := ry; exact ne_str (fin_bl I q (congrArg not dec_str))
    | _ => exact absurd (show false = true from hs) Bool.false_ne_true
  | byt i =>
    obtain ⟨t, rfl⟩ := rx
    cases y with
    | byt j => obtain ⟨t', rfl⟩ := ry; exact PySem.W.ne_bytes (fin_bl I q (congrArg not dec_byt))
    | _ => exact absurd (show false = true from hs) Bool.false_ne_true
  | _ => cases y <;> exact absurd (show false = true from hs) Bool.false_ne_true

theorem op_lt : OpR X (compareOp .Lt) (rI0 fun i j => .bl (decide (i < j))) := opB0 fun _ _ _ _ _ _ _ q => lt_int q
theorem op_le : OpR X (compareOp .LtE) (rI0 fun i j => .bl (decide (i ≤ j))) := opB0 fun _ _ _ _ _ _ _ q => le_int q
theorem op_gt : OpR X (compareOp .Gt) (rI0 fun i j => .bl (decide (j < i))) := opB0 fun _ _ _ _ _ _ _ q => gt_int q
theorem op_ge : OpR X (compareOp .GtE) (rI0 fun i j => .bl (decide (j ≤ i))) := opB0 fun _ _ _ _ _ _ _ q => ge_int q
theorem op_lt_str : OpR X (compareOp .Lt) (fun x y H Q => ∃ i j, x = .str i ∧ y = .str j ∧ Q (.bl (decide (i.cps.toList < j.cps.toList))) H) := by
  intro pins s σ H x y v u Q I rx ry h
  obtain ⟨i, j, rfl, rfl, q⟩ := h
  obtain ⟨t, rfl⟩ := rx
  obtain ⟨t', rfl⟩ := ry
  exact lt_str (fin_bl I q rfl)
/-- the one string within the other -/
theorem op_in_str : OpR X (compareOp .In) (fun x y H Q => ∃ i j, x = .str i ∧ y = .str j ∧ Q (.bl (!(Builtin.Str.occurrences j i 0 j.length 1).isEmpty)) H) := by
  intro pins s σ H x y v u Q I rx ry h
  obtain ⟨i, j, rfl, rfl, q⟩ := h
  obtain ⟨t, rfl⟩ := rx
  obtain ⟨t', rfl⟩ := ry
  exact in_str (fin_bl I q rfl)

/-- is None, is not None: the right side a value none -/
theorem op_isN : OpR X (compareOp .Is) (fun x y H Q => y = .non ∧ Q (.bl (decide (x = .non))) H) := by
  intro pins s σ H x y v u Q I rx ry h
  obtain ⟨rfl, q⟩ := h
  cases ry
  refine is_none_gen (fin_bl I q ?_)
  cases x <;> first
    | (cases rx; rfl)
    | (obtain ⟨t, rfl⟩ := rx; rfl)
theorem op_notN : OpR X (compareOp .IsNot) (fun x y H Q => y = .non ∧ Q (.bl (!decide (x = .non))) H) := by
  intro pins s σ H x y v u Q I rx ry h
  obtain ⟨rfl, q⟩ := h
  cases ry
  refine isnot_none_gen (fin_bl I q ?_)
  cases x <;> first
    | (cases rx; rfl)
    | (obtain ⟨t, rfl⟩ := rx; rfl)

theorem op_notin_str : OpR X (compareOp .NotIn) (fun x y H Q => ∃ i j, x = .str i ∧ y = .str j ∧ Q (.bl (!(!(Builtin.Str.occurrences j i 0 j.length 1).isEmpty))) H) := by
  intro pins s σ H x y v u Q I rx ry h
  obtain ⟨i, j, rfl, rfl, q⟩ := h
  obtain ⟨t, rfl⟩ := rx
  obtain ⟨t', rfl⟩ := ry
  exact notIn_str (fin_bl I q rfl)
/-- is, is not of two objects that are tracked lists or instances -/
def isObj : HO → Bool
  | .lst _ => true
  | .ins _ _ _ => true
  | _ => false
theorem obj_there {pins : List (Addr × Obj)} {s : Shared} {σ : St} {H : Hp} {a : Addr} {o : HO} (I : Inv X pins σ H s) (h : H a = some o) (p : isObj o = true) : ∃ ob, s.heap.get? a = some ob ∧ ob.cls ≠ .type "tuple" := by
  cases o with
  | lst xs =>
    obtain ⟨_, its, n, _, e⟩ : xs.length ≤ sizeLine ∧ ∃ (its : List Value) (n : Nat), Vals xs its ∧ s.heap.get? a = some { cls := .type "list", data := .seq its.toArray n } := I.hok a _ h
    exact ⟨_, e, (by show Value.type "list" ≠ .type "tuple"; decide +kernel)⟩
  | ins C dx fs =>
    have x := I.hok a _ h
    obtain ⟨_, _, _, e, _⟩ := x
    exact ⟨_, e, (by show Value.ref C ≠ .type "tuple"; exact fun z => by cases z)⟩
  | _ => exact absurd (show false = true from p) Bool.false_ne_true
theorem op_is_ref : OpR X (compareOp .Is) (fun x y H Q => ∃ a b oa ob, x = .ref a ∧ y = .ref b ∧ H a = some oa ∧ isObj oa = true ∧ H b = some ob ∧ isObj ob = true ∧ Q (.bl (decide (a = b))) H) := by
  intro pins s σ H x y v u Q I rx ry h
  obtain ⟨a, b, oa, ob, rfl, rfl, ha, pa, hb, pb, q⟩ := h
  cases rx
  cases ry
  obtain ⟨o1, e1, n1⟩ := obj_there I ha pa
  obtain ⟨o2, e2, _⟩ := obj_there I hb pb
  by_cases z : a = b
  · subst z
    exact wpAny_is_ref_self (fin_bl I q (by simp))
  · exact wpAny_is_ref_other z e1 e2 n1 (fin_bl I q (by simp [z]))
theorem op_isnot_ref : OpR X (compareOp .IsNot) (fun x y H Q => ∃ a b oa ob, x = .ref a ∧ y = .ref b ∧ H a = some oa ∧ isObj oa = true ∧ H b = some ob ∧ isObj ob = true ∧ Q (.bl (!decide (a = b))) H) := by
  intro pins s σ H x y v u Q I rx ry h
  obtain ⟨a, b, oa, ob, rfl, rfl, ha, pa, hb, pb, q⟩ := h
  cases rx
  cases ry
  obtain ⟨o1, e1, n1⟩ := obj_there I ha pa
  obtain ⟨o2, e2, _⟩ := obj_there I hb pb
  by_cases z : a = b
  · subst z
    exact wpAny_isNot_ref_self (fin_bl I q (by simp))
  · exact wpAny_isNot_ref_other z e1 e2 n1 (fin_bl I q (by simp [z]))

/-- two rules for one operation: by cases -/
theorem OpR.or {f : Value → Value → Sem Value} {r r' : R2} (h : OpR X f r) (h' : OpR X f r') : OpR X f (fun x y H Q => r x y H Q ∨ r' x y H Q) := by
  intro pins s σ H x y v u Q I rx ry q
  rcases q with q | q
  · exact h pins s σ H x y v u Q I rx ry q
  · exact h' pins s σ H x y v u Q I rx ry q

theorem nomark (b : Expr) {op : CmpOp} (h : op ≠ .In := by decide) (h2 : op ≠ .NotIn := by decide) : behindInMarks op b = false := by
  have e1 : (op == CmpOp.In) = false := by cases op <;> first | rfl | exact absurd rfl h
  have e2 : (op == CmpOp.NotIn) = false := by cases op <;> first | rfl | exact absurd rfl h2
  cases b <;> simp [behindInMarks, e1, e2]
/-- a comparison as a value; hm: nomark b, or (for in, not in) by with_unfolding_all rfl -/
theorem pe_cmpR {op : CmpOp} {r : R2} (ho : OpR X (compareOp op) r) (ha : PE X a ta) (hb : PE X b tb) (hm : behindInMarks op b = false) : PE X (.Compare a [op] [b] pos) (tOp r ta tb) := by
  intro pins s σ H Q I h
  exact wpAny_Compare1 (binT ha hb I h fun v u s2 x y H2 I2 rx ry q => ho pins s2 σ H2 x y v u Q I2 rx ry q) hm
/-- a reading of a value as a test -/
def tTest (t : TE) : TT := fun σ H Q => t σ H fun x H' => ∃ k, x = .bl k ∧ Q k H'
theorem pt_cmpR {op : CmpOp} {r : R2} (ho : OpR X (compareOp op) r) (ha : PE X a ta) (hb : PE X b tb) (hm : behindInMarks op b = false) : PT X (.Compare a [op] [b] pos) (tTest (tOp r ta tb)) := by
  intro pins s σ H Q I h
  refine wpAny_isTrue_Compare1 (thn (ha pins s σ H _ I h) fun v s1 ⟨x, H1, I1, r1, q1⟩ => thn (hb pins s1 σ H1 _ I1 q1) fun u s2 ⟨y, H2, I2, r2, q2⟩ =>
    thn (ho pins s2 σ H2 x y v u _ I2 r1 r2 q2) fun c s3 ⟨z, H3, I3, r3, k, e, q3⟩ => ?_) hm
  subst e
  cases r3
  exact wpAny_truthy_bool ⟨H3, I3, q3⟩
/-- a op1 b op2 c -/
def tChain (r r' : R2) (ta tb tc : TE) : TE := fun σ H Q => ta σ H fun x H1 => tb σ H1 fun y H2 => r x y H2 fun z H3 => ∃ k, z = .bl k ∧
  (if k = true then tc σ H3 fun w' H4 => r' y w' H4 Q else Q (.bl false) H3)
theorem pe_chain {op op' : CmpOp} {r r' : R2} (ho : OpR X (compareOp op) r) (ho' : OpR X (compareOp op') r') (ha : PE X a ta) (hb : PE X b tb) (hc : PE X c tc)
    (hm : lastMarks [op, op'] [b, c] = false := by with_unfolding_all rfl) : PE X (.Compare a [op, op'] [b, c] pos) (tChain r r' ta tb tc) := by
  intro pins s σ H Q I h
  refine Compare_chain (thn (ha pins s σ H _ I h) fun v s1 ⟨x, H1, I1, r1, q1⟩ => chain_link (thn (hb pins s1 σ H1 _ I1 q1) fun u s2 ⟨y, H2, I2, r2, q2⟩ =>
    thn (ho pins s2 σ H2 x y v u _ I2 r1 r2 q2) fun d s3 ⟨z, H3, I3, r3, k, e, q3⟩ => ?_)) hm
  subst e
  cases r3
  refine wpAny_truthy_bool ?_
  cases k with
  | false => exact ite_ff ⟨.bl false, H3, I3, rfl, q3⟩
  | true => exact ite_tt (chain_last (thn (hc pins s3 σ H3 _ I3 q3) fun w' s4 ⟨z', H4, I4, r4, q4⟩ => ho' pins s4 σ H4 y z' u w' Q I4 r2 r4 q4))
theorem pt_chain {op op' : CmpOp} {r r' : R2} (ho : OpR X (compareOp op) r) (ho' : OpR X (compareOp op') r') (ha : PE X a ta) (hb : PE X b tb) (hc : PE X c tc)
    (hm : lastMarks [op, op'] [b, c] = false := by with_unfolding_all rfl) : PT X (.Compare a [op, op'] [b, c] pos) (tTest (tChain r r' ta tb tc)) := by
  intro pins s σ H Q I h
  refine isTrue_chain (thn (ha pins s σ H _ I h) fun v s1 ⟨x, H1, I1, r1, q1⟩ => test_link (thn (hb pins s1 σ H1 _ I1 q1) fun u s2 ⟨y, H2, I2, r2, q2⟩ =>
    thn (ho pins s2 σ H2 x y v u _ I2 r1 r2 q2) fun d s3 ⟨z, H3, I3, r3, k, e, q3⟩ => ?_)) hm
  subst e
  cases r3
  refine wpAny_truthy_bool ?_
  cases k with
  | false =>
    obtain ⟨k', e', q'⟩ := q3
    cases e'
    exact ite_ff ⟨H3, I3, q'⟩
  | true =>
    refine ite_tt (test_last (thn (hc pins s3 σ H3 _ I3 q3) fun w' s4 ⟨z', H4, I4, r4, q4⟩ => thn (ho' pins s4 σ H4 y z' u w' _ I4 r2 r4 q4) fun d' s5 ⟨z2, H5, I5, r5, k2, e2, q5⟩ => ?_))
    subst e2
    cases r5
    exact wpAny_truthy_bool ⟨H5, I5, q5⟩

/-! ### truth -/
/-- a value's truth by the abstract heap -/
def TruV (K : PySem.W.Frag) (x : V) (H : Hp) (k : Bool) : Prop :=
  match x with
  | .non => k = false
  | .bl b => k = b
  | .int i => k = (i != 0)
  | .str y => y.length ≤ sizeLine ∧ k = ((y.length : Int) != 0)
  | .byt y => y.size ≤ sizeLine ∧ k = ((y.size : Int) != 0)
  | .ref p => (∃ xs, SqL K H p xs ∧ k = !xs.isEmpty) ∨ (∃ xs, SqT K H p xs ∧ k = !xs.isEmpty) ∨ ∃ kvs, H p = some (.dK kvs) ∧ k = !kvs.isEmpty
  | _ => False
theorem isEmpty_kv {κ : Type} {kvs : List (κ × V)} {vs : List (κ × Value)} (r : KV kvs vs) : (!vs.isEmpty) = !kvs.isEmpty := by
  cases r <;> rfl
theorem isEmpty_of {xs : List V} {its : List Value} (r : Vals xs its) : (!its.toArray.isEmpty) = !xs.isEmpty := by
  cases r <;> simp
theorem line63 : (sizeLine : Nat) < 2 ^ 63 := by rw [sizeLine_eq]; decide
theorem tru_ok : TruR X (fun x H Q => ∃ k, TruV X.K x H k ∧ Q k H) := by
  intro pins s σ H x v Q I rx h
  obtain ⟨k, e, q⟩ := h
  have hl := line63
  have hs : sizeLine = 16777216 := sizeLine_eq
  cases x with
  | non =>
    cases rx
    have e' : k = false := e
    subst e'
    exact truthy_none ⟨H, I, q⟩
  | bl b =>
    cases rx
    have e' : k = b := e
    subst e'
    exact wpAny_truthy_bool ⟨H, I, q⟩
  | int i =>
    obtain ⟨t, rfl⟩ := rx
    have e' : k = (i != 0) := e
    subst e'
    exact PySem.P.truthy_int ⟨H, I, q⟩
  | str y =>
    obtain ⟨t, rfl⟩ := rx
    obtain ⟨hy, e'⟩ : y.length ≤ sizeLine ∧ k = ((y.length : Int) != 0) := e
    subst e'
    exact PySem.P.truthy_str (by omega) ⟨H, I.tok _, q⟩
  | byt y =>
    obtain ⟨t, rfl⟩ := rx
    obtain ⟨hy, e'⟩ : y.size ≤ sizeLine ∧ k = ((y.size : Int) != 0) := e
    subst e'
    exact PySem.W.truthy_bytes (by omega) ⟨H, I.tok _, q⟩
  | ref p =>
    cases rx
    have e' : (∃ xs, SqL X.K H p xs ∧ k = !xs.isEmpty) ∨ (∃ xs, SqT X.K H p xs ∧ k = !xs.isEmpty) ∨ ∃ kvs, H p = some (.dK kvs) ∧ k = !kvs.isEmpty := e
    rcases e' with ⟨xs, hx, e'⟩ | ⟨xs, hx, e'⟩ | ⟨kvs, hx, e'⟩
    · subst e'
      obtain ⟨its, r, pl, hz⟩ := I.list hx
      have hlen := r.length
      exact wpAny_truthy_list pl.isList (by simp only [List.size_toArray]; omega) ⟨H, I.tok _, by rw [isEmpty_of r]; exact q⟩
    · subst e'
      obtain ⟨its, r, pl, hz⟩ := I.tuple hx
      have hlen := r.length
      exact truthy_tuple pl (by simp only [List.size_toArray]; omega) ⟨H, I.tok _, by rw [isEmpty_of r]; exact q⟩
    · subst e'
      obtain ⟨hz, hS, vs, r, m⟩ : kvs.length ≤ sizeLine ∧ (p == sysModules) = false ∧ ∃ vs, KV kvs vs ∧ s.heap.DictOf (mixKind X.prog X.w) p vs := I.hok p _ hx
      have hlen : kvs.length = vs.length := Paired.length r
      exact wpAny_truthy_dict hS m (by omega) ⟨H, I.tok _, by rw [isEmpty_kv r]; exact q⟩
  | _ => exact (show False from e).elim
/-- any expression whose test is its value's truth (a name, a call, a subscript, a field ..: he by fun _ => rfl) -/
theorem pt_truth (ha : PE X a ta) (he : ∀ whole, isTrue a X.env whole = (do let v ← whole; standAt a.pos; holding [v] (truthy v))) :
    PT X a (fun σ H Q => ta σ H fun x H' => ∃ k, TruV X.K x H' k ∧ Q k H') := by
  intro pins s σ H Q I h
  exact isTrue_plain (thn (ha pins s σ H _ I h) fun v s1 ⟨x, H1, I1, r1, q1⟩ => tru_ok pins s1 σ H1 x v Q I1 r1 q1) (he _)

/-! ### strs and bytes -/
theorem pe_byt {x : List UInt8} {k : Nat} : PE X (.Constant (.bytes x) k pos) (fun _ H Q => Q (.byt x.toArray) H) := fun _ _ _ H _ I h => PySem.W.Constant_bytes ⟨.byt x.toArray, H, I.tok _, ⟨_, rfl⟩, h⟩
theorem op_add_str : OpR X (binaryOp .Add) (fun x y H Q => ∃ i j, x = .str i ∧ y = .str j ∧ i.length + j.length ≤ sizeLine ∧ Q (.str (i ++ j)) H) := by
  intro pins s σ H x y v u Q I rx ry h
  obtain ⟨i, j, rfl, rfl, hz, q⟩ := h
  obtain ⟨t, rfl⟩ := rx
  obtain ⟨t', rfl⟩ := ry
  exact add_str (fun t' tk => ⟨.str (i ++ j), H, I.tok _, ⟨_, rfl⟩, q⟩) hz
theorem iop_add_str : OpR X (inplaceOp .Add) (fun x y H Q => ∃ i j, x = .str i ∧ y = .str j ∧ i.length + j.length ≤ sizeLine ∧ Q (.str (i ++ j)) H) := by
  intro pins s σ H x y v u Q I rx ry h
  obtain ⟨i, j, rfl, rfl, hz, q⟩ := h
  obtain ⟨t, rfl⟩ := rx
  obtain ⟨t', rfl⟩ := ry
  exact iadd_str (fun t' tk => ⟨.str (i ++ j), H, I.tok _, ⟨_, rfl⟩, q⟩) hz
theorem op_add_byt : OpR X (binaryOp .Add) (fun x y H Q => ∃ i j, x = .byt i ∧ y = .byt j ∧ i.size + j.size ≤ 16777216 ∧ Q (.byt (i ++ j)) H) := by
  intro pins s σ H x y v u Q I rx ry h
  obtain ⟨i, j, rfl, rfl, hz, q⟩ := h
  obtain ⟨t, rfl⟩ := rx
  obtain ⟨t', rfl⟩ := ry
  exact PySem.W.KBy.add_bytes hz (fun t' tk => ⟨.byt (i ++ j), H, I.tok _, ⟨_, rfl⟩, q⟩)

def PlainIxT (b : Expr) : Prop := ∀ o i, subscripted b false o i = operate [o, i] (getItem o i)
/-- s[i], 0 ≤ i < len -/
theorem pe_item_str (ha : PE X a ta) (hb : PE X b tb) (hs : PlainIxT b) :
    PE X (.Subscript a b pos) (tOp (fun x y H Q => ∃ z i c, x = .str z ∧ y = .int i ∧ 0 ≤ i ∧ i < 2 ^ 63 ∧ i < z.length ∧ z.cps[i.toNat]? = some c ∧ Q (.str ⟨#[c]⟩) H) ta tb) := by
  intro pins s σ H Q I h
  refine Subscript_ (binT ha hb I h fun v u s2 x y H2 I2 rx ry q => ?_)
  obtain ⟨z, i, c, rfl, rfl, h0, h63, h1, hc, q⟩ := q
  obtain ⟨t, rfl⟩ := rx
  obtain ⟨t', rfl⟩ := ry
  have e : seqIndex? i z.length = some i.toNat := PySem.StrLaws.seqIndex_nonneg h0 h1
  exact tail_any (typeIs_str s2 z t) slot_str_getitem.lookup (getItem_str (c := c) (by
    have e1 : decide (i < -(2 ^ 63 : Int)) = false := decide_eq_false (by omega)
    have e2 : decide (i ≥ 2 ^ 63) = false := decide_eq_false (by omega)
    rw [e1, e2] <;> rfl) (by rw [e]; exact hc) ⟨.str ⟨#[c]⟩, H2, I2.tok _, ⟨_, rfl⟩, q⟩) (hs _ _)
/-- b[i], 0 ≤ i < len -/
theorem pe_item_byt (ha : PE X a ta) (hb : PE X b tb) (hs : PlainIxT b) :
    PE X (.Subscript a b pos) (tOp (fun x y H Q => ∃ (z : List UInt8) (i : Int), x = .byt z.toArray ∧ y = .int i ∧ z.length ≤ sizeLine ∧ 0 ≤ i ∧ i < z.length ∧ Q (.int ((z.getD i.toNat 0).toNat : Nat)) H) ta tb) := by
  intro pins s σ H Q I h
  refine Subscript_ (binT ha hb I h fun v u s2 x y H2 I2 rx ry q => ?_)
  obtain ⟨z, i, rfl, rfl, hz, h0, h1, q⟩ := q
  obtain ⟨t, rfl⟩ := rx
  obtain ⟨t', rfl⟩ := ry
  have hl : sizeLine = 16777216 := sizeLine_eq
  exact tail_any (PySem.W.typeIs_bytes s2 z.toArray t) PySem.W.FB.slot_bytes_getitem.lookup (PySem.W.getItem_bytes (by omega) h0 h1 ⟨.int ((z.getD i.toNat 0).toNat : Nat), H2, I2.tok _, ⟨_, rfl⟩, q⟩) (hs _ _)

/-! ### scalar builtins, by CallR -/
theorem vals1 {x : V} {us : List Value} (r : Vals [x] us) : ∃ u, us = [u] ∧ RelV x u := by
  cases r with
  | cons r1 r2 => cases r2; exact ⟨_, rfl, r1⟩
theorem vals2 {x y : V} {us : List Value} (r : Vals [x, y] us) : ∃ u w', us = [u, w'] ∧ RelV x u ∧ RelV y w' := by
  cases r with
  | cons r1 r2 =>
    cases r2 with
    | cons r3 r4 => cases r4; exact ⟨_, _, rfl, r1, r3⟩
theorem call_abs : CallR X (.builtin "abs") (fun xs H Q => ∃ i, xs = [.int i] ∧ Q (.int (if i < 0 then -i else i)) H) := by
  intro pins s σ H xs us Q I r h
  obtain ⟨i, rfl, q⟩ := h
  obtain ⟨u, rfl, t, rfl⟩ := vals1 r
  exact call_abs_int fun u tk => ⟨.int (if i < 0 then -i else i), H, I.tok _, ⟨_, rfl⟩, q⟩
theorem call_max2 (hc : X.calm = true) : CallR X (.builtin "max") (fun xs H Q => ∃ i j, xs = [.int i, .int j] ∧ Q (.int (if j > i then j else i)) H) := by
  intro pins s σ H xs us Q I r h
  obtain ⟨i, j, rfl, q⟩ := h
  obtain ⟨u, w', rfl, ⟨t, rfl⟩, ⟨t', rfl⟩⟩ := vals2 r
  refine max_two_ints (I.ok.hd hc) fun h' tk k => ⟨_, H, I.kept k, ?_, q⟩
  by_cases hj : j > i
  · rw [if_pos hj, if_pos hj]; exact ⟨_, rfl⟩
  · rw [if_neg hj, if_neg hj]; exact ⟨_, rfl⟩
theorem call_min2 (hc : X.calm = true) : CallR X (.builtin "min") (fun xs H Q => ∃ i j, xs = [.int i, .int j] ∧ Q (.int (if j < i then j else i)) H) := by
  intro pins s σ H xs us Q I r h
  obtain ⟨i, j, rfl, q⟩ := h
  obtain ⟨u, w', rfl, ⟨t, rfl⟩, ⟨t', rfl⟩⟩ := vals2 r
  refine min_two_ints (I.ok.hd hc) fun h' tk k => ⟨_, H, I.kept k, ?_, q⟩
  by_cases hj : j < i
  · rw [if_pos hj, if_pos hj]; exact ⟨_, rfl⟩
  · rw [if_neg hj, if_neg hj]; exact ⟨_, rfl⟩
theorem call_int1 : CallR X (.type "int") (fun xs H Q => (∃ i, xs = [.int i] ∧ Q (.int i) H) ∨ ∃ k, xs = [.bl k] ∧ Q (.int (if k then 1 else 0)) H) := by
  intro pins s σ H xs us Q I r h
  rcases h with ⟨i, rfl, q⟩ | ⟨k, rfl, q⟩
  · obtain ⟨u, rfl, t, rfl⟩ := vals1 r
    exact call_int_int ⟨.int i, H, I, ⟨_, rfl⟩, q⟩
  · obtain ⟨u, rfl, r1⟩ := vals1 r
    cases r1
    exact call_int_bool ⟨.int (if k then 1 else 0), H, I.tok _, ⟨_, rfl⟩, q⟩
theorem call_bool1 : CallR X (.type "bool") (fun xs H Q => (∃ i, xs = [.int i] ∧ Q (.bl (i != 0)) H) ∨ ∃ k, xs = [.bl k] ∧ Q (.bl k) H) := by
  intro pins s σ H xs us Q I r h
  rcases h with ⟨i, rfl, q⟩ | ⟨k, rfl, q⟩
  · obtain ⟨u, rfl, t, rfl⟩ := vals1 r
    exact call_bool_int ⟨.bl (i != 0), H, I, rfl, q⟩
  · obtain ⟨u, rfl, r1⟩ := vals1 r
    cases r1
    exact call_bool_bool ⟨.bl k, H, I, rfl, q⟩
theorem call_str_int : CallR X (.type "str") (fun xs H Q => ∃ i, xs = [.int i] ∧ i.natAbs.log2 < 1920 ∧ Q (.str (toString i)) H) := by
  intro pins s σ H xs us Q I r h
  obtain ⟨i, rfl, hz, q⟩ := h
  obtain ⟨u, rfl, t, rfl⟩ := vals1 r
  exact PySem.P.str_of_int hz ⟨.str _, H, I.tok _, ⟨_, rfl⟩, q⟩
theorem call_ord : CallR X (.builtin "ord") (fun xs H Q => ∃ x, xs = [.str x] ∧ x.length = 1 ∧ Q (.int (x.cps.getD 0 0 : Nat)) H) := by
  intro pins s σ H xs us Q I r h
  obtain ⟨x, rfl, hz, q⟩ := h
  obtain ⟨u, rfl, t, rfl⟩ := vals1 r
  exact ord_of_one hz ⟨.int _, H, I.tok _, ⟨_, rfl⟩, q⟩
theorem call_chr : CallR X (.builtin "chr") (fun xs H Q => ∃ i, xs = [.int i] ∧ 0 ≤ i ∧ i ≤ 1114111 ∧ Q (.str ⟨#[i.toNat]⟩) H) := by
  intro pins s σ H xs us Q I r h
  obtain ⟨i, rfl, h0, h1, q⟩ := h
  obtain ⟨u, rfl, t, rfl⟩ := vals1 r
  exact chr_of_range h0 h1 ⟨.str _, H, I.tok _, ⟨_, rfl⟩, q⟩
/-- len of a str, a bytes, a list, a tuple -/
def LenV (K : PySem.W.Frag) (x : V) (H : Hp) (n : Nat) : Prop :=
  match x with
  | .str y => y.length ≤ sizeLine ∧ n = y.length
  | .byt y => y.size ≤ sizeLine ∧ n = y.size
  | .ref p => (∃ xs, SqL K H p xs ∧ n = xs.length) ∨ ∃ xs, SqT K H p xs ∧ n = xs.length
  | _ => False
theorem call_len : CallR X (.builtin "len") (fun xs H Q => ∃ x n, xs = [x] ∧ LenV X.K x H n ∧ Q (.int n) H) := by
  intro pins s σ H xs us Q I r h
  obtain ⟨x, n, rfl, e, q⟩ := h
  obtain ⟨u, rfl, rx⟩ := vals1 r
  have hl := line63
  have hs : sizeLine = 16777216 := sizeLine_eq
  cases x with
  | str y =>
    obtain ⟨t, rfl⟩ := rx
    obtain ⟨hy, e'⟩ : y.length ≤ sizeLine ∧ n = y.length := e
    subst e'
    exact len_str (by omega) ⟨.int _, H, I.tok _, ⟨_, rfl⟩, q⟩
  | byt y =>
    obtain ⟨t, rfl⟩ := rx
    obtain ⟨hy, e'⟩ : y.size ≤ sizeLine ∧ n = y.size := e
    subst e'
    exact PySem.W.len_bytes (by omega) ⟨.int _, H, I.tok _, ⟨_, rfl⟩, q⟩
  | ref p =>
    cases rx
    have e' : (∃ xs, SqL X.K H p xs ∧ n = xs.length) ∨ ∃ xs, SqT X.K H p xs ∧ n = xs.length := e
    rcases e' with ⟨xs, hx, e'⟩ | ⟨xs, hx, e'⟩
    · subst e'
      obtain ⟨its, r', pl, hz⟩ := I.list hx
      have hlen := r'.length
      exact Calls.call_len_list pl.isList (by simp only [List.size_toArray]; omega) ⟨.int xs.length, H, I.tok _, ⟨_, by simp only [List.size_toArray]; rw [hlen]⟩, q⟩
    · subst e'
      obtain ⟨its, r', pl, hz⟩ := I.tuple hx
      have hlen := r'.length
      exact len_tuple pl (by simp only [List.size_toArray]; omega) ⟨.int xs.length, H, I.tok _, ⟨_, by simp only [List.size_toArray]; rw [hlen]⟩, q⟩
  | _ => exact (show False from e).elim
/-- divmod: a new tuple -/
theorem call_divmod : CallR X (.builtin "divmod") (fun xs H Q => ∃ i j, xs = [.int i, .int j] ∧ CDiv i j ∧ ∀ p, H p = none → Q (.ref p) (upd H p (.tup [.int (i / j), .int (i % j)]))) := by
  intro pins s σ H xs us Q I r h
  obtain ⟨i, j, rfl, ⟨h1, h2⟩, q⟩ := h
  obtain ⟨u, w', rfl, ⟨t, rfl⟩, ⟨t', rfl⟩⟩ := vals2 r
  refine divmod_int (by omega) ?_ (.inl (PyProof.noPylong_small (by omega)))
  rw [Int.fdiv_eq_ediv_of_nonneg i (by omega), Int.fmod_eq_emod_of_nonneg i (by omega)]
  have hn : H s.heap.objs.size = none := I.hok.fresh (Nat.le_refl _)
  refine ⟨.ref s.heap.objs.size, _, ?_, rfl, q _ hn⟩
  refine I.laid (fun b o e => Heap.get?_push_of_some _ e) (Nat.le_refl _) ⟨by simp only [List.length_cons, List.length_nil]; rw [sizeLine_eq]; decide, [.int (i / j) s.toks, .int (i % j) (s.toks + 1)], .cons ⟨_, rfl⟩ (.cons ⟨_, rfl⟩ .nil), ?_⟩
  exact ⟨_, Heap.get?_push_size s.heap rfl, rfl, 0, rfl⟩
end
end L2

namespace L2
open PySem PySem.Spec PyProof.Rows

/-! ### an instance, its attributes a map -/
structure ObjM (h : Heap) (x dx C : Addr) (mA : Str → Option Value) : Prop where
  obj : h.get? x = some (PySem.W.instObj C dx)
  ns : h.Ns1 dx mA
  ne : dx ≠ x

theorem lookIn_ns {h : Heap} {dx : Addr} {mA : Str → Option Value} (n : h.Ns1 dx mA) : ∃ od, h.get? dx = some od ∧ ∀ name, PySem.W.lookIn name od = some (mA name) := by
  obtain ⟨o, es, ep, ho, hd, hk, _, hm⟩ := n
  refine ⟨o, ho, fun name => ?_⟩
  have e := hm name
  unfold nsFind findBy at e
  rw [← Array.find?_toList] at e
  unfold PySem.W.lookIn
  rw [hd]
  dsimp only
  split
  · rename_i y q
    rw [q] at e
    exact congrArg some e
  · rename_i q
    rw [q] at e
    have a : es.toList.any (·.refKey) = false := by
      rw [List.any_eq_false]
      intro y hy
      obtain ⟨z, t, hkey⟩ := hk y (Array.mem_toList_iff.mp hy)
      simp [DictEntry.refKey, hkey]
    have a' : ¬ es.toList.any (·.refKey) = true := by rw [a]; exact Bool.false_ne_true
    rw [if_neg a']
    exact congrArg some e

theorem ObjM.look {h : Heap} {x dx C : Addr} {mA : Str → Option Value} (I : ObjM h x dx C mA) : ∃ od, PySem.W.InstAt h x (PySem.W.instObj C dx) C (some od) ∧ ∀ name, PySem.W.lookIn name od = some (mA name) :=
  let ⟨od, ho, hl⟩ := lookIn_ns I.ns
  ⟨od, ⟨I.obj, rfl, rfl, ho⟩, hl⟩

section
variable {prog : Program} {w : World} {A : Around} {E : Value → Shared → Prop} {s : Shared} {K : PySem.W.Frag} {x dx C f : Addr} {mA : Str → Option Value} {name : Str} {v : Value}

theorem get_map {expr : Bool} {Q : Value → Shared → Prop} (X : K.In s.heap) (I : ObjM s.heap x dx C mA) (hg : PySem.W.plainGet K C name = true) (hh : PySem.W.hasDictIn K C = true)
    (ha : PySem.W.findIn K (.ref C) name = some none) (hv : mA name = some v) (hv' : PySem.W.handedIn v = true) (h : Q v { s with toks := s.toks + 1 }) :
    wpAny (model prog w) A (getAttr (.ref x) name expr) Q E s := by
  obtain ⟨od, J, hl⟩ := I.look
  exact PySem.W.get_value X J (PySem.W.plainGet_of hg).1 (PySem.W.findObj_own hh ha rfl (by rw [hl, hv])) hv' h

theorem get_const {expr : Bool} {a : Value} {Q : Value → Shared → Prop} (X : K.In s.heap) (I : ObjM s.heap x dx C mA) (hg : PySem.W.plainGet K C name = true) (hh : PySem.W.hasDictIn K C = true)
    (ha : PySem.W.findIn K (.ref C) name = some (some a)) (hn : PySem.W.specialIn K a "__get__" = some none) (hc : PySem.W.copiedNames.contains name = false) (hv : mA name = none) (hv' : PySem.W.handedIn a = true)
    (h : Q a { s with toks := s.toks + 1 }) : wpAny (model prog w) A (getAttr (.ref x) name expr) Q E s := by
  obtain ⟨od, J, hl⟩ := I.look
  exact PySem.W.get_value X J (PySem.W.plainGet_of hg).1 (PySem.W.findObj_cls hh ha hn hv' hc (by rw [hl, hv])) hv' h

theorem get_meth {pl : Sem Bool} {Q : Value × List Value → Shared → Prop} (X : K.In s.heap) (I : ObjM s.heap x dx C mA) (hg : PySem.W.plainGet K C name = true)
    (hf : PySem.W.findIn K (.ref C) name = some (some (.ref f))) (ht : PySem.W.isFn K (.ref f) = true) (hv : mA name = none) (h : Q (.ref f, [.ref x]) s) :
    wpAny (model prog w) A (getMethod (.ref x) name pl) Q E s := by
  obtain ⟨od, J, hl⟩ := I.look
  exact PySem.W.method_fn X J (PySem.W.plainGet_of hg).1 (PySem.W.plainGet_of hg).2 hf (beq_iff_eq.mp ht) (by show (PySem.W.lookIn name od).map (·.isSome) = some false; rw [hl, hv]; rfl) h

theorem set_map {ns : List Str} {Q : Unit → Shared → Prop} (X : K.In s.heap) (I : ObjM s.heap x dx C mA)
    (hs : PySem.W.findIn K (.ref C) "__setattr__" = some (some (.builtin "object.__setattr__"))) (hp : PySem.W.plainOver K C = true) (ht : PySem.W.takerIn K C name = some none) (hh : PySem.W.hasDictIn K C = true)
    (hw : PySem.Within mA ns) (hsz : ns.length ≤ sizeLine)
    (h : ∀ h', ObjM h' x dx C (fun y => if y = name then some v else mA y) → Heap.SameBut dx s.heap h' → Q () { s with heap := h', toks := s.toks + 2 }) :
    wpAny (model prog w) A (setAttr (.ref x) name v) Q E s := by
  obtain ⟨od, J, hl⟩ := I.look
  refine PySem.W.set_plain X J hs (PySem.W.osa_open (s := { s with toks := s.toks + 1 }) (r := none) X J hp ht fun b => ?_)
  obtain ⟨cd, hc, hd'⟩ := PySem.W.any_some hh
  have hx : s.heap.get? x = some ⟨.ref C, some dx, .plain, #[]⟩ := I.obj
  refine wpAny_bind (wpAny_pure (wpAny_bind (wpAny_bind (wpAny_loadPart hx (wpAny_bind (PySem.W.Looks.here (s := { s with toks := s.toks + 1 }) (PySem.W.looks_clsIn X hc) ?_))))))
  rw [hd']
  refine wpAny_pure (a := some dx) (wpAny_bind (wpAny_pure (wpAny_bind ?_)))
  refine wpAny_nsSet1 (s := { s with toks := s.toks + 1 }) I.ns fun h' hn2 hs2 => ?_
  obtain ⟨oD, esD, epD, hoD, hdD, hcD⟩ := hn2.count (PySem.Within.cons name v hw)
  refine wpAny_bind (wpAny_lookBehind hoD (by rw [hdD]; exact pastItsLine_dict (Nat.le_trans hcD (by rw [List.length_cons]; omega))) ?_)
  exact wpAny_pure (h _ ⟨(hs2.2 _ (Ne.symm I.ne)).trans I.obj, hn2, I.ne⟩ hs2)

/-- C(..): the dict at the heap's end, the instance behind it; then its __init__ -/
theorem make_map {R : Result → Shared → Prop} {vs : List Value} {kw : List (Str × Value)} (X : K.In s.heap) (hm : PySem.W.makesIn K C = true)
    (hi : PySem.W.findIn K (.ref C) "__init__" = some (some (.ref f))) (hf : PySem.W.typeIn K (.ref f) = some (.type "function"))
    (h : codeAny (model prog w) (A.under (.builtin "type.__call__" ⟨.ref C :: vs, kw⟩)) (.call (.ref f) ⟨.ref (s.heap.objs.size + 1) :: vs, kw⟩) (PySem.W.InitBack (s.heap.objs.size + 1) R)
      { s with heap := (s.heap.push PySem.W.emptyDict).push (PySem.W.instObj C s.heap.objs.size) }) :
    codeAny (model prog w) A (.call (.ref C) ⟨vs, kw⟩) R s := by
  obtain ⟨hh, g, d, t, os⟩ := s
  exact PySem.W.make_core (PySem.W.makes_of X hm) (PySem.W.looks_findIn X hi) (fun self => PySem.W.bind_fn X self hf) (.inl rfl) h
/-- C() where there is no __init__ but object's -/
theorem make_map0 {R : Result → Shared → Prop} (X : K.In s.heap) (hm : PySem.W.makesIn K C = true)
    (hi : PySem.W.findIn K (.ref C) "__init__" = some (some (.builtin "object.__init__")))
    (hb : ∀ self, PySem.W.Looks (model prog w) s.heap (bindSpecial (.builtin "object.__init__") self) (.builtin "object.__init__", [self]))
    (h : codeAny (model prog w) (A.under (.builtin "type.__call__" ⟨[.ref C], []⟩)) (.call (.builtin "object.__init__") ⟨[.ref (s.heap.objs.size + 1)], []⟩) (PySem.W.InitBack (s.heap.objs.size + 1) R)
      { s with heap := (s.heap.push PySem.W.emptyDict).push (PySem.W.instObj C s.heap.objs.size) }) :
    codeAny (model prog w) A (.call (.ref C) ⟨[], []⟩) R s := by
  obtain ⟨hh, g, d, t, os⟩ := s
  exact PySem.W.make_core (PySem.W.makes_of X hm) (PySem.W.looks_findIn X hi) hb (.inr ⟨rfl, rfl⟩) h
end

/-! ### the attributes as a list of pairs -/
def putF (f : Str) (v : V) : List (Str × V) → List (Str × V)
  | [] => [(f, v)]
  | (g, x) :: r => if g = f then (g, v) :: r else (g, x) :: putF f v r
theorem lookup_putF (f g : Str) (v : V) : ∀ fs : List (Str × V), (putF f v fs).lookup g = if g = f then some v else fs.lookup g
  | [] => by
    show List.lookup g [(f, v)] = _
    by_cases h : g = f
    · have hb : (g == f) = true := beq_iff_eq.mpr h
      simp only [List.lookup, hb, if_pos h]
    · have hb : (g == f) = false := beq_eq_false_iff_ne.mpr h
      simp only [List.lookup, hb, if_neg h]
  | (k, x) :: r => by
    have ih := lookup_putF f g v r
    rw [show putF f v ((k, x) :: r) = (if k = f then (k, v) :: r else (k, x) :: putF f v r) from rfl]
    by_cases hk : k = f
    · rw [if_pos hk]
      by_cases h : g = k
      · have hb : (g == k) = true := beq_iff_eq.mpr h
        simp only [List.lookup, hb, if_pos (h.trans hk)]
      · have hb : (g == k) = false := beq_eq_false_iff_ne.mpr h
        simp only [List.lookup, hb, if_neg (fun e : g = f => h (e.trans hk.symm))]
    · rw [if_neg hk]
      by_cases h : g = k
      · have hb : (g == k) = true := beq_iff_eq.mpr h
        simp only [List.lookup, hb, if_neg (fun e : g = f => hk (h.symm.trans e))]
      · have hb : (g == k) = false := beq_eq_false_iff_ne.mpr h
        simp only [List.lookup, hb]
        exact ih
theorem keys_putF (f : Str) (v : V) : ∀ fs : List (Str × V), f ∈ (putF f v fs).map (·.1) ∧ ∀ g, g ∈ fs.map (·.1) → g ∈ (putF f v fs).map (·.1)
  | [] => ⟨by simp [putF], fun g h => by simp at h⟩
  | (k, x) :: r => by
    obtain ⟨i1, i2⟩ := keys_putF f v r
    rw [show putF f v ((k, x) :: r) = (if k = f then (k, v) :: r else (k, x) :: putF f v r) from rfl]
    by_cases hk : k = f
    · rw [if_pos hk]
      subst hk
      exact ⟨by simp, fun g h => by simpa using h⟩
    · rw [if_neg hk]
      refine ⟨?_, fun g h => ?_⟩
      · rw [List.map_cons]
        exact List.mem_cons_of_mem _ i1
      · rw [List.map_cons] at h ⊢
        rcases List.mem_cons.mp h with e | e
        · exact List.mem_cons.mpr (.inl e)
        · exact List.mem_cons_of_mem _ (i2 g e)
theorem length_putF (f : Str) (v : V) : ∀ fs : List (Str × V), (putF f v fs).length ≤ fs.length + 1
  | [] => by simp [putF]
  | (k, x) :: r => by
    have ih := length_putF f v r
    rw [show putF f v ((k, x) :: r) = (if k = f then (k, v) :: r else (k, x) :: putF f v r) from rfl]
    by_cases hk : k = f
    · rw [if_pos hk, List.length_cons, List.length_cons]; omega
    · rw [if_neg hk, List.length_cons, List.length_cons]; omega

theorem RelO.some_of {v : V} {o : Option Value} (r : RelO (some v) o) : ∃ u, o = some u ∧ RelV v u := by
  cases o with
  | none => exact (show False from r).elim
  | some u => exact ⟨u, rfl, r⟩
theorem RelO.none_of {o : Option Value} (r : RelO none o) : o = none := by
  cases o with
  | none => rfl
  | some u => exact (show False from r).elim
theorem handed_of {v : V} {u : Value} (r : RelV v u) : PySem.W.handedIn u = true := by
  cases v with
  | non => cases (show u = Value.none from r); rfl
  | bl b => cases (show u = Value.bool b from r); rfl
  | int i => obtain ⟨t, e⟩ := (show ∃ t, u = Value.int i t from r); cases e; rfl
  | str x => obtain ⟨t, e⟩ := (show ∃ t, u = Value.str x t from r); cases e; rfl
  | byt b => obtain ⟨t, e⟩ := (show ∃ t, u = Value.bytes b t from r); cases e; rfl
  | flt b => obtain ⟨t, e⟩ := (show ∃ t, u = Value.float b t from r); cases e; rfl
  | ref a => cases (show u = Value.ref a from r); rfl
  | ty n => cases (show u = Value.type n from r); rfl

section
variable {P : Program} {w : World} {H H' : Hp} {h h' : Heap} {a C dx : Addr} {fs fs' : List (Str × V)}
theorem ins_get (hok : HOk P w H h) (e : H a = some (.ins C dx fs)) : ∃ mA, ObjM h a dx C mA ∧ (∀ f, RelO (fs.lookup f) (mA f)) ∧ PySem.Within mA (fs.map (·.1)) ∧ fs.length ≤ 1000 ∧ H dx = some (.own a) := by
  obtain ⟨d, z, ne, ob, mA, n, r, q⟩ := (show ObjOk P w H h a (.ins C dx fs) from hok a _ e)
  exact ⟨mA, ⟨ob, n, ne⟩, r, q, z, d⟩
end

/-! ### what of the text a class must have -/
structure Cls (K : PySem.W.Frag) (C : Addr) : Prop where
  pg : PySem.W.plainGet K C Str.empty = true
  hd : PySem.W.hasDictIn K C = true
  po : PySem.W.plainOver K C = true
  sa : PySem.W.findIn K (.ref C) "__setattr__" = some (some (.builtin "object.__setattr__"))
theorem Cls.get {K : PySem.W.Frag} {C : Addr} (c : Cls K C) (f : Str) : PySem.W.plainGet K C f = true := c.pg
/-- no class of it has the name -/
def NoAttr (K : PySem.W.Frag) (C : Addr) (f : Str) : Prop := PySem.W.findIn K (.ref C) f = some none
theorem NoAttr.taker {K : PySem.W.Frag} {C : Addr} {f : Str} (n : NoAttr K C f) : PySem.W.takerIn K C f = some none := by
  unfold PySem.W.takerIn
  rw [show PySem.W.findIn K (.ref C) f = some none from n]
  rfl
/-- a constant of the class -/
structure Con (K : PySem.W.Frag) (C : Addr) (f : Str) (v : V) (u : Value) : Prop where
  at_ : PySem.W.findIn K (.ref C) f = some (some u)
  rel : RelV v u
  get : PySem.W.specialIn K u "__get__" = some none
  cp : PySem.W.copiedNames.contains f = false
/-- a method: a plain def of the class or of one above it -/
structure Meth (K : PySem.W.Frag) (C : Addr) (m : Str) (f : Addr) : Prop where
  at_ : PySem.W.findIn K (.ref C) m = some (some (.ref f))
  fn : PySem.W.isFn K (.ref f) = true
  kp : PySem.W.keepIn K (.ref f) = true

section
variable {X : Cx} {pins : List (Addr × Obj)} {σ : St} {H : Hp} {s : Shared} {a C dx : Addr} {fs : List (Str × V)} {f : Str} {v : V} {A : Around} {E : Value → Shared → Prop}

theorem getattr_ok {b : Bool} {Q : Value → Shared → Prop} (I : Inv X pins σ H s) (e : H a = some (.ins C dx fs)) (c : Cls X.K C) (n : NoAttr X.K C f) (l : fs.lookup f = some v)
    (h : ∀ u s', Inv X pins σ H s' → RelV v u → Q u s') : wpAny (model X.prog X.w) A (getAttr (.ref a) f b) Q E s := by
  obtain ⟨mA, O, r, _, _, _⟩ := ins_get I.hok e
  obtain ⟨u, hu, ru⟩ := RelO.some_of (v := v) (o := mA f) (by rw [← l]; exact r f)
  exact get_map I.kIn O (c.get f) c.hd n hu (handed_of ru) (h u _ (I.tok _) ru)

theorem getcon_ok {b : Bool} {u : Value} {Q : Value → Shared → Prop} (I : Inv X pins σ H s) (e : H a = some (.ins C dx fs)) (c : Cls X.K C) (k : Con X.K C f v u) (l : fs.lookup f = none)
    (h : ∀ s', Inv X pins σ H s' → Q u s') : wpAny (model X.prog X.w) A (getAttr (.ref a) f b) Q E s := by
  obtain ⟨mA, O, r, _, _, _⟩ := ins_get I.hok e
  have hn : mA f = none := RelO.none_of (by rw [← l]; exact r f)
  exact get_const I.kIn O (c.get f) c.hd k.at_ k.get k.cp hn (handed_of k.rel) (h _ (I.tok _))

theorem getmeth_ok {m : Str} {g : Addr} {pl : Sem Bool} {Q : Value × List Value → Shared → Prop} (I : Inv X pins σ H s) (e : H a = some (.ins C dx fs)) (c : Cls X.K C) (k : Meth X.K C m g) (l : fs.lookup m = none)
    (h : Q (.ref g, [.ref a]) s) : wpAny (model X.prog X.w) A (getMethod (.ref a) m pl) Q E s := by
  obtain ⟨mA, O, r, _, _, _⟩ := ins_get I.hok e
  have hn : mA m = none := RelO.none_of (by rw [← l]; exact r m)
  exact get_meth I.kIn O (c.get m) k.at_ k.fn hn h

theorem setattr_ok {y : V} {u : Value} {Q : Unit → Shared → Prop} (I : Inv X pins σ H s) (e : H a = some (.ins C dx fs)) (c : Cls X.K C) (n : NoAttr X.K C f) (hl : fs.length < 1000) (ry : RelV y u)
    (h : ∀ s', Inv X pins σ (upd H a (.ins C dx (putF f y fs))) s' → Q () s') : wpAny (model X.prog X.w) A (setAttr (.ref a) f u) Q E s := by
  obtain ⟨mA, O, r, wi, _, ho⟩ := ins_get I.hok e
  have hz : (fs.map (·.1)).length ≤ sizeLine := by rw [List.length_map, sizeLine_eq]; omega
  refine set_map I.kIn O c.sa c.po n.taker c.hd wi hz fun h' O' sb => h _ ?_
  have hd : ∃ o, h'.get? dx = some o := let ⟨o, _, _, e', _⟩ := O'.ns; ⟨o, e'⟩
  refine I.write (x := a) (e := dx) (by rw [e]; exact True.intro) (.inr ho) (fun b q hb z => (sb.2 b hb).trans z) hd ?_
  refine ⟨by rw [upd_ne O.ne]; exact ho, ?_, O.ne, O'.obj, _, O'.ns, fun g => ?_, fun g hg => ?_⟩
  · have := length_putF f y fs; omega
  · show RelO ((putF f y fs).lookup g) (if g = f then some u else mA g)
    rw [lookup_putF]
    by_cases q : g = f
    · rw [if_pos q, if_pos q]; exact ry
    · rw [if_neg q, if_neg q]; exact r g
  · by_cases q : g = f
    · rw [q]; exact (keys_putF f y fs).1
    · refine (keys_putF f y fs).2 g (wi g fun z => hg ?_)
      show (if g = f then some u else mA g) = none
      rw [if_neg q]; exact z

/-- a new instance, tracked, without attributes -/
theorem Inv.made (I : Inv X pins σ H s) : Inv X pins σ (upd (upd H s.heap.objs.size (.own (s.heap.objs.size + 1))) (s.heap.objs.size + 1) (.ins C s.heap.objs.size []))
    { s with heap := (s.heap.push PySem.W.emptyDict).push (PySem.W.instObj C s.heap.objs.size) } := by
  have e1 : (s.heap.push PySem.W.emptyDict).get? s.heap.objs.size = some PySem.W.emptyDict := Heap.get?_push_size s.heap rfl
  have e2 : ((s.heap.push PySem.W.emptyDict).push (PySem.W.instObj C s.heap.objs.size)).get? (s.heap.objs.size + 1) = some (PySem.W.instObj C s.heap.objs.size) := by
    have := Heap.get?_push_size (s.heap.push PySem.W.emptyDict) (o := PySem.W.instObj C s.heap.objs.size) rfl
    rwa [Heap.size_push] at this
  have e3 : (s.heap.push PySem.W.emptyDict).Ns s.heap.objs.size (fun _ => none) := ⟨PySem.W.emptyDict, #[], _, e1, rfl, (fun e he => absurd he (by simp)), fun _ => rfl⟩
  have I1 := I.laid (a := s.heap.objs.size) (o := .own (s.heap.objs.size + 1)) (h' := s.heap.push PySem.W.emptyDict) (t' := s.toks) (fun b u q => Heap.get?_push_of_some _ q) (Nat.le_refl _) ⟨_, e1⟩
  refine I1.laid (a := s.heap.objs.size + 1) (o := .ins C s.heap.objs.size []) (t' := s.toks) (fun b u q => Heap.get?_push_of_some _ q) (Nat.le_of_eq (Heap.size_push _ _)) ?_
  have ne : s.heap.objs.size ≠ s.heap.objs.size + 1 := Nat.ne_of_lt (Nat.lt_succ_self _)
  refine ⟨by rw [upd_ne ne, upd_same], Nat.zero_le _, ne, e2, fun _ => none, (Heap.Ns1.of_empty e3).at fun o q => Heap.get?_push_of_some _ q, fun _ => True.intro, fun y hy => absurd rfl hy⟩

/-- e.f where nothing but the object is asked: through attributeBase (super) and the last hold -/
theorem attr_of {prog : Program} {w : World} {env : Env} {e : Expr} {f : Str} {pos : Pos} {s : Shared} {Q : Value → Shared → Prop} (hb : attributeBase e f env (eval e env) = eval e env)
    (h : wpAny (model prog w) A (eval e env) (fun o s₁ => wpAny (model prog w) A (getAttr o f true) Q E s₁) E s) : wpAny (model prog w) A (eval (.Attribute e f pos) env) Q E s :=
  Attribute_any_ h (by rw [arm_eval_Attribute, hb])
end

/-! ### readings and rules -/
/-- e.f, an attribute of the instance -/
def tFld (K : PySem.W.Frag) (ta : TE) (f : Str) : TE := fun σ H Q => ta σ H fun x H1 => ∃ a C dx fs v, x = .ref a ∧ H1 a = some (.ins C dx fs) ∧ Cls K C ∧ NoAttr K C f ∧ fs.lookup f = some v ∧ Q v H1
/-- e.f, a constant of the class -/
def tCon (K : PySem.W.Frag) (ta : TE) (f : Str) : TE := fun σ H Q => ta σ H fun x H1 => ∃ a C dx fs v u, x = .ref a ∧ H1 a = some (.ins C dx fs) ∧ Cls K C ∧ Con K C f v u ∧ fs.lookup f = none ∧ Q v H1
/-- e.f = value -/
def sFld (K : PySem.W.Frag) (ta tv : TE) (f : Str) : TS := fun D σ H => tv σ H fun y H1 => ta σ H1 fun x H2 => ∃ a C dx fs, x = .ref a ∧ H2 a = some (.ins C dx fs) ∧ Cls K C ∧ NoAttr K C f ∧ fs.length < 1000 ∧
  D.nx σ (upd H2 a (.ins C dx (putF f y fs)))
/-- an augmented operator on two values -/
def InOp (X : Cx) (op : Operator) (rd : V → V → Hp → VK → Prop) : Prop :=
  ∀ (pins : List (Addr × Obj)) (s : Shared) (σ : St) (H : Hp) (x y : V) (u v : Value) (Q : VK), Inv X pins σ H s → RelV x u → RelV y v → rd x y H Q → wpAny (model X.prog X.w) X.A (inplaceOp op u v) (EP X pins σ Q) X.xe s
/-- e.f op= value -/
def sFldAug (K : PySem.W.Frag) (ta tv : TE) (rd : V → V → Hp → VK → Prop) (f : Str) : TS := fun D σ H => ta σ H fun x H1 => ∃ a C dx fs v, x = .ref a ∧ H1 a = some (.ins C dx fs) ∧ Cls K C ∧ NoAttr K C f ∧ fs.lookup f = some v ∧
  tv σ H1 fun y H2 => rd v y H2 fun z H3 => ∃ dx' fs', H3 a = some (.ins C dx' fs') ∧ fs'.length < 1000 ∧ D.nx σ (upd H3 a (.ins C dx' (putF f z fs')))

section
variable {X : Cx} {o e value : Expr} {f : Str} {pos pos' tpos : Pos} {ta tv : TE}
theorem pe_fld (he : PE X e ta) (hb : attributeBase e f X.env (eval e X.env) = eval e X.env) : PE X (.Attribute e f pos) (tFld X.K ta f) := by
  intro pins s σ H Q I h
  refine attr_of hb (thn (he pins s σ H _ I h) fun u s1 ⟨x, H1, I1, rx, a, C, dx, fs, v, ex, ea, c, n, l, q⟩ => ?_)
  subst ex
  obtain rfl : u = Value.ref a := rx
  exact getattr_ok I1 ea c n l fun u' s2 I2 ru => ⟨v, H1, I2, ru, q⟩
theorem pe_con (he : PE X e ta) (hb : attributeBase e f X.env (eval e X.env) = eval e X.env) : PE X (.Attribute e f pos) (tCon X.K ta f) := by
  intro pins s σ H Q I h
  refine attr_of hb (thn (he pins s σ H _ I h) fun u s1 ⟨x, H1, I1, rx, a, C, dx, fs, v, u0, ex, ea, c, k, l, q⟩ => ?_)
  subst ex
  obtain rfl : u = Value.ref a := rx
  exact getcon_ok I1 ea c k l fun s2 I2 => ⟨v, H1, I2, k.rel, q⟩
theorem ps_fld (ha : PE X o ta) (hv : PE X value tv) (hs : swapsWith value (some (.Attribute o f pos')) pos.line X.env = pure false) : PS X (.Assign [.Attribute o f pos'] value pos) (sFld X.K ta tv f) := by
  intro pins s σ H D I h
  refine plainObj_wpAny_Assign_Attribute (thn (hv pins s σ H _ I h) fun u s1 ⟨y, H1, I1, ry, q⟩ => thn (ha pins s1 σ H1 _ I1 q) fun ov s2 ⟨x, H2, I2, rx, a, C, dx, fs, ex, ea, c, n, l, q2⟩ => ?_) hs
  subst ex
  obtain rfl : ov = Value.ref a := rx
  exact setattr_ok I2 ea c n l ry fun s3 I3 => ⟨σ, _, I3, q2⟩
theorem ps_fldaug {op : Operator} {rd : V → V → Hp → VK → Prop} (ha : PE X o ta) (hv : PE X value tv) (hop : InOp X op rd) : PS X (.AugAssign (.Attribute o f tpos) op value pos) (sFldAug X.K ta tv rd f) := by
  intro pins s σ H D I h
  refine wpAny_AugAssign_AttributeAny (thn (ha pins s σ H _ I h) fun ov s1 ⟨x, H1, I1, rx, a, C, dx, fs, v, ex, ea, c, n, l, q⟩ => ?_)
  subst ex
  obtain rfl : ov = Value.ref a := rx
  refine getattr_ok I1 ea c n l fun u s2 I2 ru => thn (hv pins s2 σ H1 _ I2 q) fun w3 s3 ⟨y, H2, I3, ry, q3⟩ => thn (hop pins s3 σ H2 v y u w3 _ I3 ru ry q3) fun w4 s4 ⟨z, H3, I4, rz, dx', fs', ea', l', q4⟩ => ?_
  exact setattr_ok I4 ea' c n l' rz fun s5 I5 => ⟨σ, _, I5, q4⟩
def rAdd : V → V → Hp → VK → Prop := fun x y H Q => ∃ i j, x = .int i ∧ y = .int j ∧ Q (.int (i + j)) H
def rSub : V → V → Hp → VK → Prop := fun x y H Q => ∃ i j, x = .int i ∧ y = .int j ∧ Q (.int (i - j)) H
theorem in_add : InOp X .Add rAdd := by
  rintro pins s σ H x y u v Q I rx ry ⟨i, j, rfl, rfl, q⟩
  obtain ⟨t, rfl⟩ := (show ∃ t, u = Value.int i t from rx)
  obtain ⟨t', rfl⟩ := (show ∃ t', v = Value.int j t' from ry)
  exact PyProof.Rows.iadd_int ⟨.int (i + j), H, I.tok _, ⟨_, rfl⟩, q⟩
theorem in_sub : InOp X .Sub rSub := by
  rintro pins s σ H x y u v Q I rx ry ⟨i, j, rfl, rfl, q⟩
  obtain ⟨t, rfl⟩ := (show ∃ t, u = Value.int i t from rx)
  obtain ⟨t', rfl⟩ := (show ∃ t', v = Value.int j t' from ry)
  exact PyProof.Rows.isub_int ⟨.int (i - j), H, I.tok _, ⟨_, rfl⟩, q⟩

/-- what is between an instance and its method: the tree of a method call -/
theorem methcall_of {pl : Sem Bool} {m : Str} {apos : Pos} {args : List Expr} {pins : List (Addr × Obj)} {s : Shared} {σ : St} {H : Hp} {Q : Value → Shared → Prop} {te : TE} (he : PE X e te) (I : Inv X pins σ H s)
    (h : te σ H fun x H1 => ∃ a C dx fs g, x = .ref a ∧ H1 a = some (.ins C dx fs) ∧ Cls X.K C ∧ Meth X.K C m g ∧ fs.lookup m = none ∧
      ∀ s1, Inv X pins σ H1 s1 → wpAny (model X.prog X.w) X.A (callWith pos (.ref g) [.ref a] (backTo pos (starEach args X.env)) (backToKw pos (keywordEach [] X.env))) Q X.xe s1)
    (ht : eval (.Call (.Attribute e m apos) args [] pos) X.env = (do
      let ov ← eval e X.env
      standAt apos.atName
      let (f, first) ← holding [ov] (getMethod ov m pl)
      callWith pos f first (backTo pos (starEach args X.env)) (backToKw pos (keywordEach [] X.env)))) :
    wpAny (model X.prog X.w) X.A (eval (.Call (.Attribute e m apos) args [] pos) X.env) Q X.xe s := by
  refine PySem.W.methodCall_KW (pl := pl) (thn (he pins s σ H _ I h) fun u s1 ⟨x, H1, I1, rx, a, C, dx, fs, g, ex, ea, c, k, l, q⟩ => ?_) ht
  subst ex
  obtain rfl : u = Value.ref a := rx
  exact getmeth_ok I1 ea c k l (q s1 I1)
end

/-! ### isinstance -/
section
variable {X : Cx} {pins : List (Addr × Obj)} {σ : St} {H : Hp} {s : Shared} {A : Around} {E : Value → Shared → Prop} {Q : Value → Shared → Prop} {c : Value} {b : Bool}
/-- the type of a value, as the fragment's deciders take it; for an instance its class -/
inductive TyOf (K : PySem.W.Frag) (H : Hp) : V → Value → Prop where
  | non : TyOf K H .non (.type "NoneType")
  | bl (x : Bool) : TyOf K H (.bl x) (.type "bool")
  | int (i : Int) : TyOf K H (.int i) (.type "int")
  | str (x : Str) : TyOf K H (.str x) (.type "str")
  | flt (x : UInt64) : TyOf K H (.flt x) (.type "float")
  | lst {a : Addr} {xs : List V} (e : H a = some (.lst xs)) : TyOf K H (.ref a) (.type "list")
  | frz {a : Addr} {o : Obj} {xs : List V} (e : H a = some (.frz o (.lst xs))) : TyOf K H (.ref a) (.type "list")
  | tup {a : Addr} {xs : List V} (e : H a = some (.tup xs)) : TyOf K H (.ref a) (.type "tuple")
  | dK {a : Addr} {kvs : List (Key × V)} (e : H a = some (.dK kvs)) : TyOf K H (.ref a) (.type "dict")
  | dT {a : Addr} {kvs : List (List Key × V)} (e : H a = some (.dT kvs)) : TyOf K H (.ref a) (.type "dict")
  | ins {a C dx : Addr} {fs : List (Str × V)} (e : H a = some (.ins C dx fs)) (cl : Cls K C) (ha : PySem.W.findIn K (.ref C) "__class__" = some (some (.builtin "object.__class__")))
      (hn : PySem.W.specialIn K (.builtin "object.__class__") "__get__" = some (some (.builtin "getset_descriptor.__get__"))) (htk : PySem.W.takesIn K (.builtin "object.__class__") = some true)
      (hm : PySem.W.mroIn K C (.type "object") = some true) : TyOf K H (.ref a) (.ref C)
/-- isinstance(x, c) for one class c, a built-in or an own one: kitOne's answer -/
theorem isinst_ok {x : V} {u t : Value} (I : Inv X pins σ H s) (rx : RelV x u) (ty : TyOf X.K H x t) (e : PySem.W.kitOne X.K t c = some b) (h : ∀ tk, Q (.bool b) { s with toks := tk }) :
    wpAny (model X.prog X.w) A (call (.builtin "isinstance") [u, c]) Q E s := by
  cases ty with
  | non => cases (show u = Value.none from rx); exact PySem.W.kia_one PySem.W.kitx_none I.kIn True.intro e (fun z => nomatch z) h
  | bl y => cases (show u = Value.bool y from rx); exact PySem.W.kia_one PySem.W.kitx_bool I.kIn True.intro e (fun z => nomatch z) h
  | int i => obtain ⟨t, q⟩ := (show ∃ t, u = Value.int i t from rx); cases q; exact PySem.W.kia_one PySem.W.kitx_int I.kIn True.intro e (fun z => nomatch z) h
  | str y => obtain ⟨t, q⟩ := (show ∃ t, u = Value.str y t from rx); cases q; exact PySem.W.kia_one PySem.W.kitx_str I.kIn True.intro e (fun z => nomatch z) h
  | flt y => obtain ⟨t, q⟩ := (show ∃ t, u = Value.float y t from rx); cases q; exact PySem.W.kia_one PySem.W.kitx_float I.kIn True.intro e (fun z => nomatch z) h
  | @lst a xs ea =>
    cases (show u = Value.ref a from rx)
    obtain ⟨_, _, n, _, h1⟩ := (show ObjOk X.prog X.w H s.heap a (.lst xs) from I.hok a _ ea)
    exact PySem.W.kia_one PySem.W.kitx_list I.kIn ⟨_, h1, rfl⟩ e (fun z => nomatch z) h
  | @frz a ob xs ea =>
    cases (show u = Value.ref a from rx)
    obtain ⟨_, _, _, n, _, h1⟩ := (show ObjOk X.prog X.w H s.heap a (.frz ob (.lst xs)) from I.hok a _ ea)
    exact PySem.W.kia_one PySem.W.kitx_list I.kIn ⟨_, h1, rfl⟩ e (fun z => nomatch z) h
  | @tup a xs ea =>
    cases (show u = Value.ref a from rx)
    obtain ⟨_, _, _, p⟩ := (show ObjOk X.prog X.w H s.heap a (.tup xs) from I.hok a _ ea)
    obtain ⟨o, h1, h2, _⟩ := p
    exact PySem.W.kia_one PySem.W.kitx_tuple I.kIn ⟨o, h1, h2⟩ e (fun z => nomatch z) h
  | @dK a kvs ea =>
    cases (show u = Value.ref a from rx)
    obtain ⟨_, _, vs, _, p⟩ := (show ObjOk X.prog X.w H s.heap a (.dK kvs) from I.hok a _ ea)
    obtain ⟨o, es, ep, h1, h2, _⟩ := p
    exact PySem.W.kia_one PySem.W.kitx_dict I.kIn ⟨o, h1, h2.1⟩ e (fun z => nomatch z) h
  | @dT a kvs ea =>
    cases (show u = Value.ref a from rx)
    obtain ⟨_, _, xs, _, o, es, ep, h1, h2, _⟩ := (show ObjOk X.prog X.w H s.heap a (.dT kvs) from I.hok a _ ea)
    exact PySem.W.kia_one PySem.W.kitx_dict I.kIn ⟨o, h1, h2.1⟩ e (fun z => nomatch z) h
  | @ins a C dx fs ea cl ha hn htk hm =>
    cases (show u = Value.ref a from rx)
    obtain ⟨mA, O, _⟩ := ins_get I.hok ea
    obtain ⟨od, J, _⟩ := O.look
    exact PySem.W.kia_one (PySem.W.kitx_own (cl.get _) cl.hd ha hn htk hm) I.kIn J e (fun z => nomatch z) h
end
end L2

namespace L2
open PySem PySem.Spec PyProof.Rows

/-! ### room -/
structure Room (k : Nat) (A : Around) : Prop where
  hd : A.handled = none
  dp : A.depth + 3 * k + 5 < recursionLimit
  un : A.units + 16 * k + 200 < cLine
theorem Room.mono {j k : Nat} {A : Around} (r : Room k A) (h : j ≤ k) : Room j A := ⟨r.hd, by have := r.dp; omega, by have := r.un; omega⟩
theorem Room.deeper {k : Nat} {A : Around} (r : Room (k + 1) A) (env : Env) : Room k (A.deeper env) :=
  ⟨r.hd, by have := r.dp; show A.depth + 1 + 3 * k + 5 < _; omega, by have := r.un; show A.units + 3 + 16 * k + 200 < _; omega⟩
theorem Room.in1 {k : Nat} {A : Around} (r : Room (k + 1) A) : Room k A.in1 :=
  ⟨r.hd, by have := r.dp; show A.depth + 3 * k + 5 < _; omega, by have := r.un; show A.units + 1 + 16 * k + 200 < _; omega⟩
theorem make_depth {A : Around} {C : Addr} {us : List Value} {kw : List (Str × Value)} : (A.under (.builtin "type.__call__" ⟨.ref C :: us, kw⟩)).depth = A.depth + 1 := by
  first | rfl | simp [Around.under, Code.weight, Code.isCreation, Code.isGuard, Code.isCaller, Code.frames, Code.isFrame, guardIds]
theorem make_units {A : Around} {C : Addr} {us : List Value} {kw : List (Str × Value)} : (A.under (.builtin "type.__call__" ⟨.ref C :: us, kw⟩)).units = A.units + 1 := by
  first | rfl | simp [Around.under, Code.cUnits, Code.frames, Code.isFrame]
theorem Room.make {k : Nat} {A : Around} (r : Room (k + 1) A) (C : Addr) (us : List Value) (kw : List (Str × Value)) : Room k (A.under (.builtin "type.__call__" ⟨.ref C :: us, kw⟩)) :=
  ⟨r.hd, by have := r.dp; rw [make_depth]; omega, by have := r.un; rw [make_units]; omega⟩
theorem Room.depth {k : Nat} {A : Around} (r : Room k A) : A.depth < recursionLimit := by have := r.dp; omega
theorem Room.units {k : Nat} {A : Around} (r : Room k A) : A.units + 64 < cLine := by have := r.un; omega
theorem Room.units0 {k : Nat} {A : Around} (r : Room k A) : A.units < cLine := by have := r.un; omega

/-! ### argument lists and displays -/
def tNil : TA := fun _ H Q => Q [] H
def tCons (ta : TE) (tr : TA) : TA := fun σ H Q => ta σ H fun x H1 => tr σ H1 fun xs H2 => Q (x :: xs) H2
section
variable {X : Cx} {e : Expr} {es : List Expr} {te : TE} {t : TA} {pos : Pos}
theorem pa_nil : PA X [] tNil := fun _ _ _ _ H Q I h => Calls.spliced_nil ⟨[], H, I, .nil, h⟩
theorem pa_cons (ha : PE X e te) (hr : PA X es t) (hs : starEach (e :: es) X.env = (false, eval e X.env) :: starEach es X.env := by rfl) : PA X (e :: es) (tCons te t) := by
  intro pos pins s σ H Q I h
  rw [hs]
  show wpAny _ _ (spliced ((false, eval e X.env) :: backTo pos (starEach es X.env))) _ _ s
  refine Calls.spliced_cons (thn (ha pins s σ H _ I h) fun u s1 ⟨x, H1, I1, r1, q1⟩ => ?_)
  exact thn (hr pos pins s1 σ H1 _ I1 q1) fun us s2 ⟨xs, H2, I2, r2, q2⟩ => ⟨x :: xs, H2, I2, .cons r1 r2, q2⟩

/-- a tuple, a list of written items -/
def tTup (t : TA) : TE := fun σ H Q => t σ H fun xs H1 => xs.length ≤ sizeLine ∧ ∀ p, H1 p = none → Q (.ref p) (upd H1 p (.tup xs))
def tLst (t : TA) : TE := fun σ H Q => t σ H fun xs H1 => xs.length ≤ sizeLine ∧ ∀ p, H1 p = none → Q (.ref p) (upd H1 p (.lst xs))
theorem pe_tup {x1} (h : PA X es t) : PE X (.Tuple es x1 pos) (tTup t) := by
  intro pins s σ H Q I hq
  refine wpAny_Tuple_spliced (thn (h pos pins s σ H _ I hq) fun us s1 ⟨xs, H1, I1, r, z, q⟩ => ⟨by rw [← r.length]; exact z, ?_⟩)
  have hf : H1 s1.heap.objs.size = none := I1.hok.fresh (Nat.le_refl _)
  refine ⟨.ref s1.heap.objs.size, upd H1 s1.heap.objs.size (.tup xs), I1.laid (t' := s1.toks) (fun b u e => Heap.get?_push_of_some _ e) (Nat.le_refl _) ?_, rfl, q _ hf⟩
  exact ⟨z, us, r, ⟨_, Heap.get?_push_size _ rfl, rfl, _, rfl⟩⟩
theorem pe_lst (h : PA X es t) : PE X (.List es pos) (tLst t) := by
  intro pins s σ H Q I hq
  refine wpAny_List_spliced (thn (h pos pins s σ H _ I hq) fun us s1 ⟨xs, H1, I1, r, z, q⟩ => ⟨by rw [← r.length]; exact z, ?_⟩)
  have hf : H1 s1.heap.objs.size = none := I1.hok.fresh (Nat.le_refl _)
  refine ⟨.ref s1.heap.objs.size, upd H1 s1.heap.objs.size (.lst xs), I1.laid (t' := s1.toks) (fun b u e => Heap.get?_push_of_some _ e) (Nat.le_refl _) ?_, rfl, q _ hf⟩
  exact ⟨z, us, 0, r, Heap.get?_push_size _ rfl⟩
end

/-! ### what a def promises -/
/-- a def's promise: the bound arguments in the parameters' order, the heap, the wanted end, the wanted exception -/
abbrev Sp := List V → Hp → VK → XK → Prop
/-- how an exception lies behind a call (file 08 gives it): the callers' frames, abstract heap and state ahead of the call, the wish, the exception, the state -/
abbrev CXT := List Env → Hp → Shared → XK → Value → Shared → Prop

/-- the state at a call -/
structure Env0 (P : Program) (w : World) (K : PySem.W.Frag) (mg : Str → Option Value) (base : Heap) (A : Around) (outer : List Env) (s : Shared) (H : Hp) : Prop where
  frames : A.frames = some outer
  mod : Mod K mg base
  bs : ∀ b o, base.get? b = some o → s.heap.get? b = some o ∧ H b = none
  bsz : base.objs.size ≤ s.heap.objs.size
  funs : s.heap.FunFrames base outer
  frf : ∀ b ∈ frs outer, H b = none
  hok : HOk P w H s.heap
  bare : AllBare s.gens
/-- a call's end -/
def CE (outer : List Env) (P : Program) (w : World) (H : Hp) (s : Shared) (Q : VK) (u : Value) (s' : Shared) : Prop :=
  ∃ v H', s'.os = s.os ∧ AllBare s'.gens ∧ Un (frs outer) [] H H' s.heap s'.heap ∧ HOk P w H' s'.heap ∧ RelV v u ∧ Q v H'
def CR (CX : CXT) (outer : List Env) (P : Program) (w : World) (H : Hp) (s : Shared) (Q : VK) (E : XK) (r : Result) (s' : Shared) : Prop :=
  match r with
  | .ok (.ret u) => CE outer P w H s Q u s'
  | .ok _ => False
  | .error e => CX outer H s E e s'
structure FnOk (P : Program) (w : World) (K : PySem.W.Frag) (mg : Str → Option Value) (base : Heap) (CX : CXT) (k : Nat) (f : Addr) (fd : FuncData) (ps : List Str) (sp : Sp) : Prop where
  len : ∀ vs H Q E, sp vs H Q E → vs.length = ps.length
  run : ∀ (A : Around) (outer : List Env) (s : Shared) (H : Hp) (args : Args) (us : List Value) (vs : List V) (Q : VK) (E : XK), Room k A → Env0 P w K mg base A outer s H → BindsTo s fd args (ps.zip us) → Vals vs us → sp vs H Q E →
    codeAny (model P w) A (.call (.ref f) args) (CR CX outer P w H s Q E) s
theorem FnOk.mono {P : Program} {w : World} {K : PySem.W.Frag} {mg : Str → Option Value} {base : Heap} {CX : CXT} {j k : Nat} {f : Addr} {fd : FuncData} {ps : List Str} {sp : Sp} (F : FnOk P w K mg base CX j f fd ps sp) (h : j ≤ k) :
    FnOk P w K mg base CX k f fd ps sp := ⟨F.len, fun A outer s H args us vs Q E hr => F.run A outer s H args us vs Q E (hr.mono h)⟩
/-- a weaker promise -/
theorem FnOk.imp {P : Program} {w : World} {K : PySem.W.Frag} {mg : Str → Option Value} {base : Heap} {CX : CXT} {k : Nat} {f : Addr} {fd : FuncData} {ps : List Str} {sp sp' : Sp} (F : FnOk P w K mg base CX k f fd ps sp)
    (h : ∀ vs H Q E, sp' vs H Q E → sp vs H Q E) : FnOk P w K mg base CX k f fd ps sp' :=
  ⟨fun vs H Q E q => F.len vs H Q E (h _ _ _ _ q), fun A outer s H args us vs Q E hr he hb hv hs => F.run A outer s H args us vs Q E hr he hb hv (h _ _ _ _ hs)⟩

theorem Env0.make {P : Program} {w : World} {K : PySem.W.Frag} {mg : Str → Option Value} {base : Heap} {A : Around} {outer : List Env} {s : Shared} {H : Hp} (e : Env0 P w K mg base A outer s H) (C : Addr) (us : List Value) (kw : List (Str × Value)) :
    Env0 P w K mg base (A.under (.builtin "type.__call__" ⟨.ref C :: us, kw⟩)) outer s H := ⟨by first | exact e.frames | (simpa [Around.under, Code.envs, Code.isFrame, pushEnvs] using e.frames), e.mod, e.bs, e.bsz, e.funs, e.frf, e.hok, e.bare⟩
theorem Env0.in1 {P : Program} {w : World} {K : PySem.W.Frag} {mg : Str → Option Value} {base : Heap} {A : Around} {outer : List Env} {s : Shared} {H : Hp} (e : Env0 P w K mg base A outer s H) :
    Env0 P w K mg base A.in1 outer s H := ⟨e.frames, e.mod, e.bs, e.bsz, e.funs, e.frf, e.hok, e.bare⟩

section
variable {X : Cx} {pins : List (Addr × Obj)} {σ : St} {H : Hp} {s s' : Shared}
/-- from a body: what a callee wants -/
theorem Inv.env0 (I : Inv X pins σ H s) : Env0 X.prog X.w X.K X.mg X.base X.A X.stack s H :=
  ⟨I.ok.frames, I.ok.mod, I.bs, Nat.le_trans I.ok.bsz I.sz, I.stack, I.stkFree, I.hok, I.bare⟩
/-- behind a call -/
theorem Inv.after {Q : VK} {u : Value} (I : Inv X pins σ H s) (h : CE X.stack X.prog X.w H s Q u s') : EP X pins σ Q u s' := by
  obtain ⟨v, H', os, bare, un, hok, r, q⟩ := h
  obtain ⟨hh, g, d, t, os'⟩ := s'
  obtain rfl : os' = s.os := os
  exact ⟨v, H', I.call (h' := hh) (g' := g) (d' := d) (t' := t) (ch := []) un hok bare (fun b z => absurd z (by simp)), r, q⟩
end

/-! ### calls -/
/-- f(..): the written arguments, then the defaults dvs; E: what is wanted of an exception -/
def tCall (sp : Sp) (dvs : List V) (E : XK) (t : TA) : TE := fun σ H Q => t σ H fun vs H1 => sp (vs ++ dvs) H1 Q E
/-- o.m(..) of an instance of the class at C -/
def tMeth (C : Addr) (m : Str) (sp : Sp) (dvs : List V) (E : XK) (ta : TE) (t : TA) : TE := fun σ H Q => ta σ H fun x H1 => ∃ a dx fs, x = .ref a ∧ H1 a = some (.ins C dx fs) ∧ fs.lookup m = none ∧
  t σ H1 fun vs H2 => sp (x :: (vs ++ dvs)) H2 Q E
/-- C(..): a new instance and its dict, then __init__ -/
def tMake (C : Addr) (sp : Sp) (dvs : List V) (E : XK) (t : TA) : TE := fun σ H Q => t σ H fun vs H1 => ∀ x dx, H1 x = none → H1 dx = none → dx ≠ x →
  sp (.ref x :: (vs ++ dvs)) (upd (upd H1 dx (.own x)) x (.ins C dx [])) (fun v H2 => v = .non ∧ Q (.ref x) H2) E

/-- how the parameters are bound: us the positional arguments, kw the keywords' values by name, ds the defaults that fill up -/
def Binds (K : PySem.W.Frag) (fd : FuncData) (ps : List Str) (ds : List Value) : Prop :=
  ∀ (s : Shared) (us : List Value), K.In s.heap → (us ++ ds).length = ps.length → BindsTo s fd ⟨us, []⟩ (ps.zip (us ++ ds))
/-- every parameter is given -/
theorem Binds.all {K : PySem.W.Frag} {fd : FuncData} {ps : List Str} (h : ∀ us : List Value, us.length = ps.length → bindArgs fd ⟨us, []⟩ = pure (ps.zip us)) : Binds K fd ps [] := fun s us _ hl => by
  rw [List.append_nil] at hl ⊢
  exact .of_eq (h us hl)

/-- an exception of a callee reaches what this body wants of exceptions -/
def Passes (CX : CXT) (X : Cx) (E : XK) : Prop := ∀ (pins : List (Addr × Obj)) (σ : St) (H : Hp) (s : Shared) (e : Value) (s' : Shared), Inv X pins σ H s → CX X.stack H s E e s' → X.xe e s'

section
variable {X : Cx} {CX : CXT} {k : Nat} {f C : Addr} {fd : FuncData} {ps : List Str} {sp : Sp} {dvs : List V} {ds : List Value} {E : XK} {x m : Str} {p pos apos : Pos} {e o : Expr} {es : List Expr} {ta : TE} {t : TA}

/-- the callee runs -/
theorem run_fn {pins : List (Addr × Obj)} {σ : St} {H : Hp} {s : Shared} {Q : VK} {us : List Value} {vs : List V} (F : FnOk X.prog X.w X.K X.mg X.base CX k f fd ps sp) (hr : Room k X.A) (hb : Binds X.K fd ps ds) (hd : Vals dvs ds) (hx : Passes CX X E)
    (I : Inv X pins σ H s) (r : Vals vs us) (h : sp (vs ++ dvs) H Q E) : wpAny (model X.prog X.w) X.A (call (.ref f) us) (EP X pins σ Q) X.xe s := by
  have r2 : Vals (vs ++ dvs) (us ++ ds) := r.append hd
  have hl : (us ++ ds).length = ps.length := by rw [← r2.length]; exact F.len _ _ _ _ h
  refine wpAny_call (codeAny_mono (F.run X.A X.stack s H ⟨us, []⟩ (us ++ ds) (vs ++ dvs) Q E hr I.env0 (hb s us I.kIn hl) r2 h) fun r s' hq => ?_)
  cases r with
  | error e => exact hx pins σ H s e s' I hq
  | ok fl =>
    cases fl with
    | ret u => exact I.after hq
    | next => exact False.elim hq
    | brk => exact False.elim hq
    | cont => exact False.elim hq

theorem pe_call (F : FnOk X.prog X.w X.K X.mg X.base CX k f fd ps sp) (hr : Room k X.A) (hg : Gl X x) (hm : X.mg x = some (.ref f)) (hk : PySem.W.keepIn X.K (.ref f) = true) (hb : Binds X.K fd ps ds) (hd : Vals dvs ds) (hx : Passes CX X E)
    (ha : PA X (e :: es) t) (hdb : (x == ("__debug__" : Str)) = false := by decide) (he : starEach (e :: es) X.env = (false, eval e X.env) :: starEach es X.env := by rfl) (hpl : (backTo pos (starEach es X.env)).any (·.1) = false := by rfl) :
    PE X (.Call (.Name x p) (e :: es) [] pos) (tCall sp dvs E t) := by
  intro pins s σ H Q I h
  refine wpAny_Call_Name_kw (ld_glob I hg hm ?_ hdb)
  refine PySem.W.callWith_K (h₀ := X.base) I.ok.mod.kin hk (thn (ha pos pins s σ H _ I h) fun us s1 ⟨vs, H1, I1, r, q⟩ => ⟨I1.kIn, ?_⟩) he hpl
  exact run_fn F hr hb hd hx I1 r q
theorem pe_call0 (F : FnOk X.prog X.w X.K X.mg X.base CX k f fd ps sp) (hr : Room k X.A) (hg : Gl X x) (hm : X.mg x = some (.ref f)) (hk : PySem.W.keepIn X.K (.ref f) = true) (hb : Binds X.K fd ps ds) (hd : Vals dvs ds) (hx : Passes CX X E)
    (hdb : (x == ("__debug__" : Str)) = false := by decide) : PE X (.Call (.Name x p) [] [] pos) (tCall sp dvs E tNil) := by
  intro pins s σ H Q I h
  refine wpAny_Call_Name_kw (ld_glob I hg hm ?_ hdb)
  exact PySem.W.callWith_K0 I.kIn hk (run_fn (us := []) F hr hb hd hx I .nil h)

/-- o.m(e, ..) -/
theorem pe_meth {pl : Sem Bool} (he : PE X o ta) (c : Cls X.K C) (hm : Meth X.K C m f) (F : FnOk X.prog X.w X.K X.mg X.base CX k f fd ps sp) (hr : Room k X.A) (hb : Binds X.K fd ps ds) (hd : Vals dvs ds) (hx : Passes CX X E) (ha : PA X (e :: es) t)
    (hst : starEach (e :: es) X.env = (false, eval e X.env) :: starEach es X.env := by rfl) (hpl : (backTo pos (starEach es X.env)).any (·.1) = false := by rfl)
    (ht : eval (.Call (.Attribute o m apos) (e :: es) [] pos) X.env = (do
      let ov ← eval o X.env
      standAt apos.atName
      let (f, first) ← holding [ov] (getMethod ov m pl)
      callWith pos f first (backTo pos (starEach (e :: es) X.env)) (backToKw pos (keywordEach [] X.env))) := by rfl) :
    PE X (.Call (.Attribute o m apos) (e :: es) [] pos) (tMeth C m sp dvs E ta t) := by
  intro pins s σ H Q I h
  refine PySem.W.methodCall_KW (pl := pl) (thn (he pins s σ H _ I h) fun u s1 ⟨x, H1, I1, rx, a, dx, fs, ex, ea, l, q⟩ => ?_) ht
  subst ex
  obtain rfl : u = Value.ref a := rx
  refine getmeth_ok I1 ea c hm l ?_
  refine PySem.W.callWith_K (first := [.ref a]) (h₀ := X.base) I.ok.mod.kin hm.kp (thn (ha pos pins s1 σ H1 _ I1 q) fun us s2 ⟨vs, H2, I2, r, q2⟩ => ⟨I2.kIn, ?_⟩) hst hpl
  exact run_fn (us := .ref a :: us) (vs := .ref a :: vs) F hr hb hd hx I2 (.cons rfl r) q2
/-- o.m() -/
theorem pe_meth0 {pl : Sem Bool} (he : PE X o ta) (c : Cls X.K C) (hm : Meth X.K C m f) (F : FnOk X.prog X.w X.K X.mg X.base CX k f fd ps sp) (hr : Room k X.A) (hb : Binds X.K fd ps ds) (hd : Vals dvs ds) (hx : Passes CX X E)
    (ht : eval (.Call (.Attribute o m apos) [] [] pos) X.env = (do
      let ov ← eval o X.env
      standAt apos.atName
      let (f, first) ← holding [ov] (getMethod ov m pl)
      callWith pos f first (backTo pos (starEach [] X.env)) (backToKw pos (keywordEach [] X.env))) := by rfl) :
    PE X (.Call (.Attribute o m apos) [] [] pos) (tMeth C m sp dvs E ta tNil) := by
  intro pins s σ H Q I h
  refine PySem.W.methodCall_KW (pl := pl) (thn (he pins s σ H _ I h) fun u s1 ⟨x, H1, I1, rx, a, dx, fs, ex, ea, l, q⟩ => ?_) ht
  subst ex
  obtain rfl : u = Value.ref a := rx
  refine getmeth_ok I1 ea c hm l ?_
  exact PySem.W.callWith_K0 (first := [.ref a]) I1.kIn hm.kp (run_fn (us := [.ref a]) (vs := [.ref a]) F hr hb hd hx I1 (.cons rfl .nil) q)

/-- what a class must have to be made -/
structure Mk (K : PySem.W.Frag) (C f : Addr) : Prop where
  makes : PySem.W.makesIn K C = true
  init : PySem.W.findIn K (.ref C) "__init__" = some (some (.ref f))
  fn : PySem.W.isFn K (.ref f) = true
  kp : PySem.W.keepIn K (.ref C) = true

theorem run_make {pins : List (Addr × Obj)} {σ : St} {H : Hp} {s : Shared} {Q : VK} {us : List Value} {vs : List V} (M : Mk X.K C f) (F : FnOk X.prog X.w X.K X.mg X.base CX k f fd ps sp) (hr : Room (k + 1) X.A) (hb : Binds X.K fd ps ds) (hd : Vals dvs ds)
    (hx : Passes CX X E) (I : Inv X pins σ H s) (r : Vals vs us)
    (h : ∀ x dx, H x = none → H dx = none → dx ≠ x → sp (.ref x :: (vs ++ dvs)) (upd (upd H dx (.own x)) x (.ins C dx [])) (fun v H2 => v = .non ∧ Q (.ref x) H2) E) :
    wpAny (model X.prog X.w) X.A (call (.ref C) us) (EP X pins σ Q) X.xe s := by
  have hq := h (s.heap.objs.size + 1) s.heap.objs.size (I.hok.fresh (Nat.le_succ _)) (I.hok.fresh (Nat.le_refl _)) (Nat.ne_of_lt (Nat.lt_succ_self _))
  have I2 := Inv.made (C := C) I
  have r2 : Vals (V.ref (s.heap.objs.size + 1) :: (vs ++ dvs)) (Value.ref (s.heap.objs.size + 1) :: (us ++ ds)) := .cons rfl (r.append hd)
  have hl : (Value.ref (s.heap.objs.size + 1) :: us ++ ds).length = ps.length := by
    have e := r2.length
    rw [F.len _ _ _ _ hq] at e
    exact e.symm
  refine wpAny_call (make_map (f := f) I.kIn M.makes M.init (beq_iff_eq.mp M.fn) (codeAny_mono (F.run _ X.stack _ _ ⟨Value.ref (s.heap.objs.size + 1) :: us, []⟩ (Value.ref (s.heap.objs.size + 1) :: (us ++ ds)) _ _ E (hr.make C us [])
    (I2.env0.make C us []) (hb _ (Value.ref (s.heap.objs.size + 1) :: us) I2.kIn hl) r2 hq) fun r s' hq' => ?_))
  cases r with
  | error e => exact hx pins σ _ _ e s' I2 hq'
  | ok fl =>
    cases fl with
    | ret u =>
      obtain ⟨v, H', I3, rv, ev, q3⟩ := I2.after hq'
      subst ev
      exact ⟨rv, ⟨V.ref (s.heap.objs.size + 1), H', I3, rfl, q3⟩⟩
    | next => exact False.elim hq'
    | brk => exact False.elim hq'
    | cont => exact False.elim hq'
theorem pe_make (M : Mk X.K C f) (F : FnOk X.prog X.w X.K X.mg X.base CX k f fd ps sp) (hr : Room (k + 1) X.A) (hg : Gl X x) (hm : X.mg x = some (.ref C)) (hb : Binds X.K fd ps ds) (hd : Vals dvs ds) (hx : Passes CX X E)
    (ha : PA X (e :: es) t) (hdb : (x == ("__debug__" : Str)) = false := by decide) (he : starEach (e :: es) X.env = (false, eval e X.env) :: starEach es X.env := by rfl) (hpl : (backTo pos (starEach es X.env)).any (·.1) = false := by rfl) :
    PE X (.Call (.Name x p) (e :: es) [] pos) (tMake C sp dvs E t) := by
  intro pins s σ H Q I h
  refine wpAny_Call_Name_kw (ld_glob I hg hm ?_ hdb)
  refine PySem.W.callWith_K (h₀ := X.base) I.ok.mod.kin M.kp (thn (ha pos pins s σ H _ I h) fun us s1 ⟨vs, H1, I1, r, q⟩ => ⟨I1.kIn, ?_⟩) he hpl
  exact run_make M F hr hb hd hx I1 r q
theorem pe_make0 (M : Mk X.K C f) (F : FnOk X.prog X.w X.K X.mg X.base CX k f fd ps sp) (hr : Room (k + 1) X.A) (hg : Gl X x) (hm : X.mg x = some (.ref C)) (hb : Binds X.K fd ps ds) (hd : Vals dvs ds) (hx : Passes CX X E)
    (hdb : (x == ("__debug__" : Str)) = false := by decide) : PE X (.Call (.Name x p) [] [] pos) (tMake C sp dvs E tNil) := by
  intro pins s σ H Q I h
  refine wpAny_Call_Name_kw (ld_glob I hg hm ?_ hdb)
  exact PySem.W.callWith_K0 I.kIn M.kp (run_make (us := []) M F hr hb hd hx I .nil h)
end

/-! ### keywords -/
/-- the values of the keywords, from the left -/
def PK (X : Cx) (kws : List Keyword) (t : TA) : Prop :=
  ∀ (pos : Pos) (pins : List (Addr × Obj)) (s : Shared) (σ : St) (H : Hp) (Q : List V → Hp → Prop), Inv X pins σ H s → t σ H Q → wpAny (model X.prog X.w) X.A (evalAll ((backToKw pos (keywordEach kws X.env)).map (·.2))) (AP X pins σ Q) X.xe s
section
variable {X : Cx} {CX : CXT} {k : Nat} {f C : Addr} {fd : FuncData} {ps ks : List Str} {sp : Sp} {E : XK} {x m : Str} {p pos apos kpos : Pos} {e o : Expr} {es : List Expr} {kws : List Keyword} {te ta : TE} {t tk : TA} {nm : Option Str}
theorem pk_nil : PK X [] tNil := fun _ _ _ _ H Q I h => wpAny_evalAll_nil ⟨[], H, I, .nil, h⟩
theorem pk_cons (ha : PE X e te) (hr : PK X kws t) : PK X (⟨nm, e, kpos⟩ :: kws) (tCons te t) := by
  intro pos pins s σ H Q I h
  show wpAny _ _ (evalAll ((do let v ← eval e X.env; standAt pos; pure v) :: (backToKw pos (keywordEach kws X.env)).map (·.2))) _ _ s
  refine wpAny_evalAll_cons (wpAny_bind (thn (ha pins s σ H _ I h) fun u s1 ⟨x, H1, I1, r1, q1⟩ => wpAny_bind (wpAny_standAt (wpAny_pure ?_))))
  exact thn (hr pos pins s1 σ H1 _ I1 q1) fun us s2 ⟨xs, H2, I2, r2, q2⟩ => ⟨x :: xs, H2, I2, .cons r1 r2, q2⟩

/-- how a call with keywords binds: g puts the positional values us and the keywords' values ws (names ks) in the parameters' order, defaults among them -/
structure KBinds (K : PySem.W.Frag) (fd : FuncData) (ps ks : List Str) (g : List Value → List Value → List Value) (gV : List V → List V → List V) : Prop where
  to : ∀ (s : Shared) (us ws : List Value), K.In s.heap → (g us ws).length = ps.length → BindsTo s fd ⟨us, ks.zip ws⟩ (ps.zip (g us ws))
  rel : ∀ {vs : List V} {us : List Value} {zs : List V} {ws : List Value}, Vals vs us → Vals zs ws → Vals (gV vs zs) (g us ws)
def tCallK (sp : Sp) (gV : List V → List V → List V) (E : XK) (t tk : TA) : TE := fun σ H Q => t σ H fun vs H1 => tk σ H1 fun zs H2 => sp (gV vs zs) H2 Q E
variable {g : List Value → List Value → List Value} {gV : List V → List V → List V}
theorem run_fnk {pins : List (Addr × Obj)} {σ : St} {H : Hp} {s : Shared} {Q : VK} {us ws : List Value} {vs zs : List V} (F : FnOk X.prog X.w X.K X.mg X.base CX k f fd ps sp) (hr : Room k X.A) (hb : KBinds X.K fd ps ks g gV) (hx : Passes CX X E)
    (I : Inv X pins σ H s) (r : Vals vs us) (rz : Vals zs ws) (h : sp (gV vs zs) H Q E) : wpAny (model X.prog X.w) X.A (call (.ref f) us (ks.zip ws)) (EP X pins σ Q) X.xe s := by
  have r2 := hb.rel r rz
  have hl : (g us ws).length = ps.length := by rw [← r2.length]; exact F.len _ _ _ _ h
  refine wpAny_call (codeAny_mono (F.run X.A X.stack s H ⟨us, ks.zip ws⟩ (g us ws) (gV vs zs) Q E hr I.env0 (hb.to s us ws I.kIn hl) r2 h) fun r s' hq => ?_)
  cases r with
  | error e => exact hx pins σ H s e s' I hq
  | ok fl =>
    cases fl with
    | ret u => exact I.after hq
    | next => exact False.elim hq
    | brk => exact False.elim hq
    | cont => exact False.elim hq
/-- f(e, .., k = v, ..) -/
theorem pe_callK (F : FnOk X.prog X.w X.K X.mg X.base CX k f fd ps sp) (hr : Room k X.A) (hg : Gl X x) (hm : X.mg x = some (.ref f)) (hk : PySem.W.keepIn X.K (.ref f) = true) (hb : KBinds X.K fd ps ks g gV) (hx : Passes CX X E)
    (ha : PA X (e :: es) t) (hkw : PK X kws tk) (hall : (backToKw pos (keywordEach kws X.env)).all (·.1.isSome) = true := by rfl) (hks : (backToKw pos (keywordEach kws X.env)).filterMap (·.1) = ks := by rfl)
    (hdb : (x == ("__debug__" : Str)) = false := by decide) (he : starEach (e :: es) X.env = (false, eval e X.env) :: starEach es X.env := by rfl)
    (hpl : ((backTo pos (starEach (e :: es) X.env)).any (·.1) || (backToKw pos (keywordEach kws X.env)).any (·.1.isNone)) = false := by rfl) :
    PE X (.Call (.Name x p) (e :: es) kws pos) (tCallK sp gV E t tk) := by
  intro pins s σ H Q I h
  refine wpAny_Call_Name_kw (ld_glob I hg hm ?_ hdb)
  refine PySem.W.callWith_KW (h₀ := X.base) I.ok.mod.kin hk hall (thn (ha pos pins s σ H _ I h) fun us s1 ⟨vs, H1, I1, r, q⟩ => ?_) hpl he
  refine thn (hkw pos pins s1 σ H1 _ I1 q) fun ws s2 ⟨zs, H2, I2, rz, q2⟩ => ⟨I2.kIn, ?_⟩
  rw [hks]
  exact run_fnk F hr hb hx I2 r rz q2
end

/-! ### a def's body keeps its promise -/
/-- names: the parameters first -/
structure FnScope (N P : List Str) (sc : Scope) : Prop where
  kind : sc.kind = .function
  co : sc.isCoroutine = false
  gen : sc.isGenerator = false
  nd : N.Nodup
  pre : N.take P.length = P
  par : ∀ x ∈ P, sc.names.lookup x = some .local ∨ sc.names.lookup x = some .cell
  nofree : ∀ y ∈ sc.names, y.2 ≠ .free

theorem bindL_out {kindOf : Str → Option NameKind} {x : Str} : ∀ {binds : List (Str × Value)} {m : Str → Option Value}, (∀ v, (x, v) ∉ binds) → bindL kindOf binds m x = m x
  | [], _, _ => rfl
  | (n, v) :: r, m, h => by
    unfold bindL
    rw [bindL_out fun w hw => h w (List.mem_cons_of_mem _ hw)]
    split
    · have : x ≠ n := by rintro rfl; exact h v List.mem_cons_self
      simp [this]
    · rfl
theorem bindC_out {kindOf : Str → Option NameKind} {x : Str} : ∀ {binds : List (Str × Value)} {m : Str → Option Value}, (∀ v, (x, v) ∉ binds) → bindC kindOf binds m x = m x
  | [], _, _ => rfl
  | (n, v) :: r, m, h => by
    unfold bindC
    rw [bindC_out fun w hw => h w (List.mem_cons_of_mem _ hw)]
    split
    · rfl
    · have : x ≠ n := by rintro rfl; exact h v List.mem_cons_self
      simp [this]
theorem bindL_get {kindOf : Str → Option NameKind} {x : Str} {v : Value} : ∀ {P : List Str} {vs : List Value} {i : Nat} {m : Str → Option Value}, P.Nodup → P[i]? = some x → vs[i]? = some v → kindOf x = some .local →
    bindL kindOf (P.zip vs) m x = some v
  | [], _, _, _, _, h, _, _ => by simp at h
  | _ :: _, [], _, _, _, _, h, _ => by simp at h
  | p :: P, w :: vs, 0, m, nd, h1, h2, hk => by
    simp at h1 h2; subst h1; subst h2
    show bindL kindOf ((p, w) :: P.zip vs) m p = _
    unfold bindL
    rw [bindL_out fun v hv => (List.nodup_cons.mp nd).1 (List.of_mem_zip hv).1, if_pos hk]
    simp
  | p :: P, w :: vs, i + 1, m, nd, h1, h2, hk => by
    show bindL kindOf ((p, w) :: P.zip vs) m x = _
    unfold bindL
    exact bindL_get (i := i) (List.nodup_cons.mp nd).2 (by simpa using h1) (by simpa using h2) hk
theorem bindC_get {kindOf : Str → Option NameKind} {x : Str} {v : Value} : ∀ {P : List Str} {vs : List Value} {i : Nat} {m : Str → Option Value}, P.Nodup → P[i]? = some x → vs[i]? = some v → kindOf x ≠ some .local →
    bindC kindOf (P.zip vs) m x = some v
  | [], _, _, _, _, h, _, _ => by simp at h
  | _ :: _, [], _, _, _, _, h, _ => by simp at h
  | p :: P, w :: vs, 0, m, nd, h1, h2, hk => by
    simp at h1 h2; subst h1; subst h2
    show bindC kindOf ((p, w) :: P.zip vs) m p = _
    unfold bindC
    rw [bindC_out fun v hv => (List.nodup_cons.mp nd).1 (List.of_mem_zip hv).1, if_neg hk]
    simp
  | p :: P, w :: vs, i + 1, m, nd, h1, h2, hk => by
    show bindC kindOf ((p, w) :: P.zip vs) m x = _
    unfold bindC
    exact bindC_get (i := i) (List.nodup_cons.mp nd).2 (by simpa using h1) (by simpa using h2) hk

/-- the names' values at the entry -/
def start (N : List Str) (vs : List V) : St := vs.map some ++ List.replicate (N.length - vs.length) none

/-- the context of a def's body, at its entry; an exception leaves the frame, then lies as CX says -/
def cxOf (CX : CXT) (P : Program) (w : World) (K : PySem.W.Frag) (mg : Str → Option Value) (base : Heap) (N : List Str) (qual : Str) (scope : Scope) (f : Addr) (cd : Value) (A : Around) (outer : List Env) (s : Shared) (H : Hp) (E : XK) : Cx where
  prog := P
  w := w
  K := K
  mg := mg
  base := base
  A := A.deeper (envOfC qual scope s.heap.objs.size f cd)
  N := N
  s₀ := s
  H₀ := H
  env := envOfC qual scope s.heap.objs.size f cd
  outer := outer
  stack := envOfC qual scope s.heap.objs.size f cd :: outer
  ex := []
  calm := true
  fn := fun _ => true
  pn := []
  xe := fun e s' => wpAny (model P w) (A.deeper (envOfC qual scope s.heap.objs.size f cd)) (leaving (envOfC qual scope s.heap.objs.size f cd) e) (fun _ s'' => CX outer H s E e s'') (fun e' s'' => CX outer H s E e' s'') s'

theorem cell_has {sc : Scope} {n : Nat} {x : Str} (h : sc.names.lookup x = some .cell) : ∃ c, (cellsFrom n sc.names []).lookup x = some c := by
  have q := PySem.W.cellsFrom_some sc.names n [] (.inl h)
  exact Option.isSome_iff_exists.mp q

theorem inv_start {CX : CXT} {P : Program} {w : World} {K : PySem.W.Frag} {mg : Str → Option Value} {base : Heap} {N ps : List Str} {qual : Str} {scope : Scope} {f : Addr} {cd : Value} {A : Around} {outer : List Env} {s s1 : Shared} {H : Hp} {E : XK} {us : List Value} {vs : List V}
    (S : FnScope N ps scope) (hd : A.handled = none) (e0 : Env0 P w K mg base A outer s H) (hl : vs.length = ps.length) (r : Vals vs us)
    (x : InCallC s s.heap.objs.size (bindL (envOfC qual scope s.heap.objs.size f cd).kindOf (ps.zip us) fun _ => none) (cellsFrom (s.heap.objs.size + 1) scope.names []) (bindC (envOfC qual scope s.heap.objs.size f cd).kindOf (ps.zip us) fun _ => none) s1) :
    Inv (cxOf CX P w K mg base N qual scope f cd A outer s H E) [] (start N vs) H s1 := by
  have hpl : ps.length ≤ N.length := by have := congrArg List.length S.pre; rw [List.length_take] at this; omega
  obtain ⟨h1, tk, rfl, hk⟩ := x.done
  have noA : ∀ b : Addr, b ∉ (cxOf CX P w K mg base N qual scope f cd A outer s H E).ex := fun b z => absurd (show b ∈ ([] : List Addr) from z) (by simp)
  refine ⟨⟨e0.mod, S.kind, rfl, rfl, Nat.le_refl _, fun y z c h1 h2 => ?_, fun y hy => ?_, fun y c _ h => ?_, fun _ => hd, Around.frames_deeper e0.frames, .inr ⟨rfl, rfl⟩, fun b z => absurd z (noA b), e0.bs, e0.bsz, fun b _ _ => noA b, fun b z => absurd z (noA b), e0.funs, e0.frf⟩,
    rfl, e0.bare, Un.kept hk, ⟨_, x.toInCall.ns, fun i y v h1 h2 h3 => ?_⟩, fun y c h => ⟨_, x.cell y c h⟩, e0.hok.fresh (Nat.le_refl _), fun y c h => ?_, fun p hp => absurd (show p ∈ ([] : List (Addr × Obj)) from hp) (by simp), e0.hok.kept hk, ?_⟩
  · exact name_of_addr x.apart (PySem.mem_of_lookup h1) (PySem.mem_of_lookup h2)
  · have hy : scope.names.lookup y = some .cell ∨ scope.names.lookup y = some .free := hy
    rcases hy with hy | hy
    · exact cell_has hy
    · exact absurd rfl (S.nofree _ (PySem.mem_of_lookup hy))
  · exact Nat.le_of_lt (x.above y c (PySem.mem_of_lookup h))
  · have hi : i < vs.length := by
      unfold start at h2
      by_cases hi : i < vs.length
      · exact hi
      · rw [List.getElem?_append_right (by simpa using hi)] at h2
        rw [List.getElem?_replicate] at h2
        split at h2 <;> cases h2
    have ha : vs[i]? = some v := by
      unfold start at h2
      rw [List.getElem?_append_left (by simpa using hi), List.getElem?_map] at h2
      cases e : vs[i]? with
      | none => rw [e] at h2; cases h2
      | some a => rw [e] at h2; cases h2; rfl
    obtain ⟨u, hu, rv⟩ := r.get ha
    have hp : ps[i]? = some y := by
      rw [← S.pre, List.getElem?_take_of_lt (by omega)]; exact h1
    have ndP : ps.Nodup := by rw [← S.pre]; exact S.nd.sublist (List.take_sublist _ _)
    refine ⟨u, rv, ?_⟩
    rcases S.par y (List.mem_of_getElem? hp) with k | k
    · exact .inl ⟨k, bindL_get ndP hp hu k⟩
    · obtain ⟨c, e⟩ := cell_has (n := s.heap.objs.size + 1) k
      refine .inr ⟨.inl k, c, e, ?_⟩
      have q := x.cell y c e
      rw [bindC_get ndP hp hu (by show scope.names.lookup y ≠ _; rw [k]; decide)] at q
      exact q
  · exact e0.hok.fresh (Nat.le_of_lt (x.above y c (PySem.mem_of_lookup h)))
  · unfold start
    show _ = N.length
    rw [List.length_append, List.length_map, List.length_replicate]
    omega

/-- THE RULE: a def (or a method) of the text, by its body. The body's reading t is chosen for each entry; it is run at the parameters' values -/
theorem fn_of {CX : CXT} {P : Program} {w : World} {K : PySem.W.Frag} {mg : Str → Option Value} {base : Heap} {k : Nat} {f : Addr} {name qual : Str} {params : Arguments} {body : List Stmt} {scope : Scope} {dV kV doc pm cdv ct oc : Value} {an od : Option Addr}
    {osl : Array (Option Value)} {N ps : List Str} {sp : Sp} (lk : K.lookup f = some ⟨oc, od, .func (PySem.W.fnOf name qual params body scope dV kV doc pm an cdv ct), osl⟩) (hcd : PySem.W.codeIn K cdv qual = true) (S : FnScope N ps scope)
    (len : ∀ vs H Q E, sp vs H Q E → vs.length = ps.length)
    (hbody : ∀ (A : Around) (outer : List Env) (s : Shared) (H : Hp) (vs : List V) (Q : VK) (E : XK), Room k (A.deeper (envOfC qual scope s.heap.objs.size f cdv)) → sp vs H Q E →
      ∃ t, PSs (cxOf CX P w K mg base N qual scope f cdv A outer s H E) body t ∧ t { nx := fun _ H' => Q .non H', rt := Q } (start N vs) H) :
    FnOk P w K mg base CX (k + 1) f (PySem.W.fnOf name qual params body scope dV kV doc pm an cdv ct) ps sp := by
  refine ⟨len, fun A outer s H args us vs Q E hr e0 hb r hsp => ?_⟩
  have hl := len _ _ _ _ hsp
  have KX : K.In s.heap := e0.mod.kin.keeps fun b o e => (e0.bs b o e).1
  have lim : s.heap.NoLimit := e0.mod.nolimit.keeps fun b o e => (e0.bs b o e).1
  have hkind : ∀ y ∈ ps.zip us, scope.names.lookup y.1 = some .local ∨ (scope.names.lookup y.1 = some .cell ∧ ((cellsFrom (s.heap.objs.size + 1) scope.names []).lookup y.1).isSome = true) := fun ⟨n, v⟩ hy => by
    rcases S.par n (List.of_mem_zip hy).1 with q | q
    · exact .inl q
    · exact .inr ⟨q, PySem.W.cellsFrom_some _ _ _ (.inl q)⟩
  refine codeAny_call_function hr.depth (KX _ _ lk) rfl S.co S.gen rfl (PySem.W.codeRec_of KX hcd) (hb _ _ _ _ ?_)
  refine wpAny_newFunctionEnv_cells S.kind hkind fun env he s1 x => ?_
  subst he
  refine ⟨lim.keeps x.toInCall.keep, codeAny_func ?_⟩
  obtain ⟨t, ht, hq⟩ := hbody A outer s H vs Q E (hr.deeper _) hsp
  have I : Inv (cxOf CX P w K mg base N qual scope f cdv A outer s H E) [] (start N vs) H s1 := inv_start S hr.hd e0 hl r x
  refine wpAny_mono (ht [] s1 (start N vs) H _ I hq) (fun fl s' hs => ?_) fun e s' hs => hs
  have fin : ∀ {σ' : St} {H' : Hp} {v : V} {u : Value}, Inv (cxOf CX P w K mg base N qual scope f cdv A outer s H E) [] σ' H' s' → RelV v u → Q v H' → CE outer P w H s Q u s' :=
    fun {σ' H' v u} J rv q => ⟨v, H', J.os, J.bare, J.base, J.hok, rv, q⟩
  cases fl with
  | ret u =>
    obtain ⟨v, σ', H', J, rv, q⟩ := hs
    exact fin J rv q
  | next =>
    obtain ⟨σ', H', J, q⟩ := hs
    exact fin (v := V.non) (u := Value.none) J rfl q
  | brk =>
    obtain ⟨_, _, _, q⟩ := hs
    exact False.elim q
  | cont =>
    obtain ⟨_, _, _, q⟩ := hs
    exact False.elim q
end L2

namespace L2
open PySem PySem.Spec PyProof.Rows
section
variable {X : Cx} {x : Str} {p pos : Pos} {e : Expr} {es : List Expr} {t : TA} {id T : String} {r : List V → Hp → VK → Prop}

def tCB (r : List V → Hp → VK → Prop) (t : TA) : TE := fun σ H Q => t σ H fun vs H1 => r vs H1 Q
/-- f(e, ..), f a built-in function -/
theorem pe_callB (hc : CallR X (.builtin id) r) (hg : Gl X x) (hm : X.mg x = none) (hv : bootBuiltins x = some (.builtin id)) (ha : PA X (e :: es) t) (hn : x ≠ "__name__" := by decide) (hdb : (x == ("__debug__" : Str)) = false := by decide)
    (he : starEach (e :: es) X.env = (false, eval e X.env) :: starEach es X.env := by rfl) (hpl : (backTo pos (starEach es X.env)).any (·.1) = false := by rfl) : PE X (.Call (.Name x p) (e :: es) [] pos) (tCB r t) := by
  intro pins s σ H Q I h
  refine wpAny_Call_Name_kw (ld_blt I hg hm hv ?_ hn hdb)
  exact PyProof.Rows.callWith_builtin1 (thn (ha pos pins s σ H _ I h) fun us s1 ⟨vs, H1, I1, r1, q1⟩ => hc pins s1 σ H1 vs us Q I1 r1 q1) he hpl
/-- T(e, ..), T a built-in type -/
theorem pe_callTy (hc : CallR X (.type T) r) (hg : Gl X x) (hm : X.mg x = none) (hv : bootBuiltins x = some (.type T)) (ha : PA X (e :: es) t) (hn : x ≠ "__name__" := by decide) (hdb : (x == ("__debug__" : Str)) = false := by decide)
    (he : starEach (e :: es) X.env = (false, eval e X.env) :: starEach es X.env := by rfl) (hpl : (backTo pos (starEach es X.env)).any (·.1) = false := by rfl) : PE X (.Call (.Name x p) (e :: es) [] pos) (tCB r t) := by
  intro pins s σ H Q I h
  refine wpAny_Call_Name_kw (ld_blt I hg hm hv ?_ hn hdb)
  exact PyProof.Rows.callWith_type1 (thn (ha pos pins s σ H _ I h) fun us s1 ⟨vs, H1, I1, r1, q1⟩ => hc pins s1 σ H1 vs us Q I1 r1 q1) he hpl
/-- T() -/
theorem pe_callTy0 (hc : CallR X (.type T) r) (hg : Gl X x) (hm : X.mg x = none) (hv : bootBuiltins x = some (.type T)) (hn : x ≠ "__name__" := by decide) (hdb : (x == ("__debug__" : Str)) = false := by decide) :
    PE X (.Call (.Name x p) [] [] pos) (tCB r tNil) := by
  intro pins s σ H Q I h
  refine wpAny_Call_Name_kw (ld_blt I hg hm hv ?_ hn hdb)
  exact PyProof.Rows.callWith_type0 (hc pins s σ H [] [] Q I .nil h)
end
end L2

namespace HT
open PySem PyProof.Rows

/-- t < u of tuples of ints -/
def lexLt : List Int → List Int → Bool
  | [], [] => false
  | [], _ :: _ => true
  | _ :: _, [] => false
  | x :: xs, y :: ys => if x = y then lexLt xs ys else decide (x < y)
theorem lexLt_cons (x y : Int) (xs ys : List Int) : lexLt (x :: xs) (y :: ys) = if x = y then lexLt xs ys else decide (x < y) := rfl
theorem lexLt_nil_nil : lexLt [] [] = false := rfl
theorem lexLt_nil_cons (y : Int) (ys : List Int) : lexLt [] (y :: ys) = true := rfl
theorem lexLt_cons_nil (x : Int) (xs : List Int) : lexLt (x :: xs) [] = false := rfl

theorem eqAt_int (A : Around) (s : Shared) (a : Int) (t : Tok) (c : Int) (u : Tok) : ∃ e, SeqAt.EqAt A s (.int a t) (.int c u) e ∧ (e = true ↔ a = c) :=
  ⟨(a == c), SeqAt.EqAt.int_int a t c u, by simp⟩
theorem rcLt_int (A : Around) (s : Shared) (a : Int) (t : Tok) (c : Int) (u : Tok) (prog : Program) (w : World) (E : Value → Shared → Prop) (Q : Value → Shared → Prop) (h : Q (.bool (decide (a < c))) s) :
    wpAny (model prog w) A (richCompare .Lt (.int a t) (.int c u)) Q E s :=
  (PyProof.Rows.lt_int h : wpAny (model prog w) A (compareOp .Lt (.int a t) (.int c u)) Q E s)

section
open PySem.SeqAt
open PySem.AutoSeq1 (wpAny_loadPart')
open PySem.MeetsSeq PySem.MeetsSeq2 PySem.MeetsSeq3

theorem tuple_lt_ints (l b : Addr) (items items2 : Array Value) (n n2 : Nat) (dd dd2 : Option Addr) (sl sl2 : Array (Option Value)) (ns ms : List Int) (hi : IntsAre items.toList ns) (hj : IntsAre items2.toList ms) :
    Meets (Builtin.«tuple.__lt__» ⟨[.ref l, .ref b], []⟩)
      (fun _ R s => s.heap.get? l = some { cls := .type "tuple", dict := dd, data := .seq items n, slots := sl } ∧ s.heap.get? b = some { cls := .type "tuple", dict := dd2, data := .seq items2 n2, slots := sl2 } ∧
        R (.ok (.ret (.bool (lexLt ns ms)))) s) :=
  .of_wp fun prog w A R s h => by
    obtain ⟨hp, g, d, tk, os⟩ := s; obtain ⟨hl, hb, h⟩ := h
    have f2 := AutoSeq1.sub_tuple_tuple
    have z1 : items.size = ns.length := by rw [← hi.length]; simp
    have z2 : items2.size = ms.length := by rw [← hj.length]; simp
    wp_walk using wpAny_loadPart' hl, wpAny_loadPart' hb, wpAny_forIn_list _ (fun rest b s' => b.1 = none ∧ s' = ⟨hp, g, d, tk, os⟩ ∧ ∃ (vs ws : List Value) (ns' ms' : List Int), rest = vs.zip ws ∧
      IntsAre vs ns' ∧ IntsAre ws ms' ∧ ns'.length + items2.size = ms'.length + items.size ∧ R (.ok (.ret (.bool (lexLt ns' ms')))) ⟨hp, g, d, tk, os⟩) _
    case turn =>
      rintro ⟨y, x⟩ rest b s' ⟨hb', rfl, vs, ws, ns', ms', hz, hvi, hwi, hlen, hR⟩
      cases hvi with
      | nil => rw [List.zip_nil_left] at hz; cases hz
      | cons a t hvi' =>
        cases hwi with
        | nil => rw [List.zip_nil_right] at hz; cases hz
        | cons c u hwi' =>
          rw [List.zip_cons_cons] at hz
          injection hz with hyx hrest
          injection hyx with hy hx
          subst hy hx
          rw [lexLt_cons] at hR
          simp only [List.length_cons] at hlen
          obtain ⟨e, he, hiff⟩ := eqAt_int A.in1 ⟨hp, g, d, tk, os⟩ a t c u
          refine wpAny_bind (he prog w _ _ ?_)
          cases e with
          | true =>
            rw [if_pos (hiff.mp rfl)] at hR
            wp_walk
            exact ⟨rfl, rfl, _, _, _, _, hrest, hvi', hwi', by omega, hR⟩
          | false =>
            rw [if_neg (fun q => absurd (hiff.mpr q) Bool.false_ne_true)] at hR
            have hri := rcLt_int A.in1 ⟨hp, g, d, tk, os⟩ a t c u prog w
            wp_walk using hri
            exact ⟨_, rfl, by simpa using hR⟩
    case fin =>
      rintro ⟨b1, b2⟩ s' ⟨hb', rfl, vs, ws, ns', ms', hz, hvi, hwi, hlen, hR⟩
      simp only at hb'
      subst hb'
      have hv : lexLt ns' ms' = decide (items.size < items2.size) := by
        cases hvi with
        | nil =>
          cases hwi with
          | nil =>
            simp only [List.length_nil] at hlen
            rw [lexLt_nil_nil]
            exact (decide_eq_false (by omega)).symm
          | cons c u hw =>
            simp only [List.length_nil, List.length_cons] at hlen
            rw [lexLt_nil_cons]
            exact (decide_eq_true (by omega)).symm
        | cons a t hv =>
          cases hwi with
          | nil =>
            simp only [List.length_nil, List.length_cons] at hlen
            rw [lexLt_cons_nil]
            exact (decide_eq_false (by omega)).symm
          | cons c u hw =>
            rw [List.zip_cons_cons] at hz
            cases hz
      rw [hv] at hR
      wp_walk
      exact ⟨_, rfl, by simpa [Builtin.Tuple.tupleCompareSizes] using hR⟩
    case h =>
      exact ⟨rfl, rfl, items.toList, items2.toList, ns, ms, rfl, hi, hj, by omega, h⟩
end

section
variable {prog : Program} {w : World} {A : Around} {E : Value → Shared → Prop} {s : Shared}

theorem lt_tupInts {l b : Addr} {items items2 : Array Value} {ns ms : List Int} {Q : Value → Shared → Prop} (hl : IsTup s.heap l items) (hb : IsTup s.heap b items2) (hi : IntsAre items.toList ns) (hj : IntsAre items2.toList ms)
    (hu : A.units < cLine) (h : Q (.bool (lexLt ns ms)) s) : wpAny (model prog w) A (compareOp .Lt (.ref l) (.ref b)) Q E s := by
  obtain ⟨⟨cls, dd, data, sl⟩, ho, hc, n, hd⟩ := id hl
  obtain ⟨⟨cls2, dd2, data2, sl2⟩, ho2, hc2, n2, hd2⟩ := id hb
  simp only at hc hd hc2 hd2
  subst hc hd hc2 hd2
  exact richCompare_meets_room (op := .Lt) ⟨_, ho, rfl⟩ ⟨_, ho2, rfl⟩ PySem.F.slot_tuple_lt PySem.F.entry_tuple_lt (PySem.F.args_tuple_lt_2 _ _) (tuple_lt_ints l b items items2 n n2 dd dd2 sl sl2 ns ms hi hj)
    ⟨ho, ho2, show Value.bool (lexLt ns ms) ≠ Value.notImplemented ∧ Q (.bool (lexLt ns ms)) s from ⟨(fun x => nomatch x), h⟩⟩ hu

/-- t + u, t not empty -/
theorem cat_tup {t b : Addr} {vs ws : List Value} {Q : Value → Shared → Prop} (ht : IsTup s.heap t vs.toArray) (hb : IsTup s.heap b ws.toArray) (hv : vs ≠ [])
    (h1 : ws = [] → Q (.ref t) s) (h2 : ws ≠ [] → Q (.ref s.heap.objs.size) { s with heap := s.heap.push { cls := .type "tuple", data := .seq (vs ++ ws).toArray } })
    (hsz : vs.length + ws.length ≤ sizeLine) : wpAny (model prog w) A (binaryOp .Add (.ref t) (.ref b)) Q E s := by
  obtain ⟨⟨cls, dd, data, sl⟩, ho, hc, n, hd⟩ := id ht
  obtain ⟨⟨cls2, dd2, data2, sl2⟩, ho2, hc2, n2, hd2⟩ := id hb
  simp only at hc hd hc2 hd2
  subst hc hd hc2 hd2
  have e : vs.toArray ++ ws.toArray = (vs ++ ws).toArray := by simp
  by_cases hw : ws = []
  · exact concat_meets ⟨_, ho, rfl⟩ ⟨_, ho2, rfl⟩ noFill_tuple_add seq_tuple_add PySem.F.slot_tuple_add PySem.F.entry_tuple_add (PySem.F.args_tuple_add_2 _ _)
      (tuple_addW1 t b vs.toArray ws.toArray n n2 dd dd2 sl sl2 (by simpa using hv) (by simp [hw])) ⟨ho, ho2, h1 hw⟩
  · refine concat_meets ⟨_, ho, rfl⟩ ⟨_, ho2, rfl⟩ noFill_tuple_add seq_tuple_add PySem.F.slot_tuple_add PySem.F.entry_tuple_add (PySem.F.args_tuple_add_2 _ _)
      (tuple_addW2 t b vs.toArray ws.toArray n n2 dd dd2 sl sl2 (by simpa using hv) (by simpa using hw) (by rw [List.size_toArray, List.size_toArray]; exact hsz)) ⟨ho, ho2, ?_⟩
    rw [e]
    exact h2 hw

/-! ### t[a:b], not the whole -/
/-- a slice's bound as a place among n (d where it is left out) -/
def sIx (n d : Nat) : Option Int → Nat
  | none => d
  | some v => if v < 0 then (v + (n : Int)).toNat else min v.toNat n
theorem sIx_none (n d : Nat) : sIx n d none = d := rfl
theorem sIx_nat (n d k : Nat) : sIx n d (some (k : Int)) = min k n := by
  show (if (k : Int) < 0 then ((k : Int) + (n : Int)).toNat else min (k : Int).toNat n) = min k n
  rw [if_neg (by omega), Int.toNat_natCast]
theorem sIx_le (n d : Nat) (hd : d ≤ n) (o : Option Int) : sIx n d o ≤ n := by
  cases o with
  | none => exact hd
  | some v =>
    show (if v < 0 then (v + (n : Int)).toNat else min v.toNat n) ≤ n
    by_cases hv : v < 0
    · rw [if_pos hv]; omega
    · rw [if_neg hv]; exact Nat.min_le_right _ _
theorem clip_eq (v : Int) (n d : Nat) : (if v < 0 then max (v + (n : Int)) 0 else min v (n : Int)) = ((sIx n d (some v) : Nat) : Int) := by
  show (if v < 0 then max (v + (n : Int)) 0 else min v (n : Int)) = (((if v < 0 then (v + (n : Int)).toNat else min v.toNat n) : Nat) : Int)
  by_cases hv : v < 0
  · simp only [if_pos hv]; omega
  · simp only [if_neg hv]; omega
theorem adjust_gen (lo hi : Option Int) (n : Nat) : Builtin.Slice.sliceAdjust lo hi 1 (n : Int) = (((sIx n 0 lo : Nat) : Int), ((sIx n n hi : Nat) : Int)) := by
  have h1 : ¬ ((1 : Int) < 0) := by omega
  unfold Builtin.Slice.sliceAdjust
  simp only [h1, if_false]
  refine Prod.ext ?_ ?_
  · cases lo with
    | none => rfl
    | some v => exact clip_eq v n 0
  · cases hi with
    | none => rfl
    | some v => exact clip_eq v n n
theorem places_gen (i j : Nat) : Builtin.Slice.slicePlaces (i : Int) (j : Int) 1 = j - i := by
  unfold Builtin.Slice.slicePlaces
  have h1 : (1 : Int) > 0 := by omega
  simp only [h1, if_true, Int.ediv_one]
  split <;> omega
theorem slicePart_ {v : Value} {o : Option Int} {Q : Option Int → Shared → Prop} (p : IsPart v o) (h : Q o s) : wpAny (model prog w) A (Builtin.Slice.slicePartIndex v) Q E s := by
  cases p with
  | none => exact slicePart_none h
  | int i t => exact slicePart_int h
theorem sliceApplied_gen {sl : Addr} {vl vu : Value} {lo hi : Option Int} {n : Nat} {Q : Int × Int × Nat → Shared → Prop} (hs : s.heap.IsSliceOf sl vl vu .none) (pl : IsPart vl lo) (pu : IsPart vu hi)
    (h : Q (((sIx n 0 lo : Nat) : Int), 1, sIx n n hi - sIx n 0 lo) s) : wpAny (model prog w) A (Builtin.Slice.sliceApplied (.ref sl) (pure (n : Int))) Q E s := by
  obtain ⟨os, hos, hcs, hds⟩ := id hs
  unfold Builtin.Slice.sliceApplied Builtin.Slice.sliceFields
  refine wpAny_bind (wpAny_bind (wpAny_field hos hds (x := vl) rfl (wpAny_bind (wpAny_field hos hds (x := vu) rfl (wpAny_bind (wpAny_field hos hds (x := .none) rfl (wpAny_pure ?_)))))))
  refine wpAny_bind (slicePart_none ?_)
  show wpAny _ _ (if ((1 : Int) == 0) = true then _ else _) _ _ s
  rw [if_neg (by decide)]
  refine wpAny_bind (slicePart_ pl (wpAny_bind (slicePart_ pu (wpAny_bind (wpAny_pure ?_)))))
  show wpAny _ _ (match Builtin.Slice.sliceAdjust lo hi 1 (n : Int) with | (lo, hi) => pure (lo, (1 : Int), Builtin.Slice.slicePlaces lo hi 1)) _ _ s
  rw [adjust_gen lo hi n]
  show wpAny _ _ (pure (((sIx n 0 lo : Nat) : Int), (1 : Int), Builtin.Slice.slicePlaces ((sIx n 0 lo : Nat) : Int) ((sIx n n hi : Nat) : Int) 1)) _ _ s
  rw [places_gen]
  exact wpAny_pure h
theorem pick_gen (xs : Array Value) (i k : Nat) : ((List.range k).filterMap fun (m : Nat) => xs[((i : Int) + (m : Int) * 1).toNat]?).toArray = ((xs.toList.drop i).take k).toArray := by
  have e : (fun (m : Nat) => xs[((i : Int) + (m : Int) * 1).toNat]?) = fun m => xs[i + m]? := by
    funext m
    have : ((i : Int) + (m : Int) * 1).toNat = i + m := by omega
    rw [this]
  rw [e]
  have := pick_run xs i k
  rw [List.filterMap_map] at this
  have e2 : ((fun x => xs[x]?) ∘ fun x => i + x) = fun m => xs[i + m]? := rfl
  rw [e2] at this
  rw [this]

theorem getItem_tuple_cut {t sl : Addr} {items : Array Value} {vl vu : Value} {lo hi : Option Int} {Q : Value → Shared → Prop} (ht : IsTup s.heap t items) (hs : s.heap.IsSliceOf sl vl vu .none) (pl : IsPart vl lo) (pu : IsPart vu hi)
    (hw : ¬ (sIx items.size 0 lo = 0 ∧ sIx items.size items.size hi = items.size))
    (h : Q (.ref s.heap.objs.size) { s with heap := s.heap.push { cls := .type "tuple", data := .seq ((items.toList.drop (sIx items.size 0 lo)).take (sIx items.size items.size hi - sIx items.size 0 lo)).toArray } })
    (hsz : items.size ≤ sizeLine) : wpAny (model prog w) A (getItem (.ref t) (.ref sl)) Q E s := by
  have htake : sizeOk (.seq ((items.toList.drop (sIx items.size 0 lo)).take (sIx items.size items.size hi - sIx items.size 0 lo)).toArray) := by
    show ((items.toList.drop (sIx items.size 0 lo)).take (sIx items.size items.size hi - sIx items.size 0 lo)).toArray.size ≤ sizeLine
    rw [List.size_toArray, List.length_take, List.length_drop, Array.length_toList]
    omega
  have hj : sIx items.size items.size hi ≤ items.size := sIx_le _ _ (Nat.le_refl _) hi
  obtain ⟨os, hos, hcs, hds⟩ := id hs
  have hTs : s.TypeIs (.ref sl) "slice" := ⟨os, hos, hcs⟩
  unfold getItem
  try with_reducible refine wpAny_holding ?_
  first | refine wpAny_bind (wpAny_pure ?_) | skip
  refine wpAny_bind (wpAny_sequenceKey ht.typeIs (by decide) ?_)
  refine wpAny_bind (wpAny_callSpecial?_slot (name := Str.ofString "__getitem__") ht.typeIs PyProof.Rows.slot_tuple_getitem
    (wpAny_call_entry PyProof.Rows.slot_tuple_getitem ht.typeIs entry_tuple_getitem ?_ (args_tuple_getitem _ _)))
  show wpAny _ _ (Builtin.Tuple.tupleItemsOf (.ref t) >>= _) _ _ s
  refine wpAny_bind (tupleItemsOf_ ht ?_)
  refine wpAny_bind (wpAny_typeOf hTs ?_)
  rw [if_pos (by decide)]
  refine wpAny_bind (sliceApplied_gen hs pl pu ?_)
  have hno : ¬ ((((sIx items.size 0 lo : Nat) : Int) == 0 && (1 : Int) == 1 && (sIx items.size items.size hi - sIx items.size 0 lo) == items.size) = true) := by
    intro q
    rw [Bool.and_eq_true, Bool.and_eq_true] at q
    have q1 : ((sIx items.size 0 lo : Nat) : Int) = 0 := eq_of_beq q.1.1
    have q2 : sIx items.size items.size hi - sIx items.size 0 lo = items.size := eq_of_beq q.2
    exact hw ⟨by omega, by omega⟩
  show wpAny _ _ (if (((sIx items.size 0 lo : Nat) : Int) == 0 && (1 : Int) == 1 && (sIx items.size items.size hi - sIx items.size 0 lo) == items.size) = true then _ else _) _ _ s
  rw [if_neg hno, pick_gen]
  first
    | exact wpAny_bind (m := Builtin.Tuple.tupleExact _) (wpAny_newObj_type (wpAny_pure ⟨_, rfl, wpAny_pure h⟩) htake)
    | exact wpAny_bind (m := Builtin.Tuple.tupleExact _) (wpAny_newObj_type (wpAny_bind (wpAny_pure (wpAny_pure ⟨_, rfl, wpAny_pure h⟩))) htake)
    | exact wpAny_bind (wpAny_bind (m := Builtin.Tuple.tupleExact _) (wpAny_newObj_type (wpAny_pure (wpAny_pure ⟨_, rfl, wpAny_pure h⟩)) htake))
    | exact wpAny_bind (wpAny_bind (m := Builtin.Tuple.tupleExact _) (wpAny_newObj_type (wpAny_pure ⟨_, rfl, wpAny_pure h⟩) htake))
end
end HT

namespace L2
open PySem PySem.Spec PyProof.Rows

/-! ### the parts of a slice -/
abbrev TO := St → Hp → (Option Int → Hp → Prop) → Prop
/-- a slice's part (left out, or an int) -/
def PO (X : Cx) (e : Option Expr) (t : TO) : Prop :=
  ∀ (pins : List (Addr × Obj)) (s : Shared) (σ : St) (H : Hp) (Q : Option Int → Hp → Prop), Inv X pins σ H s → t σ H Q →
    wpAny (model X.prog X.w) X.A (evalPart e X.env) (fun u s' => ∃ o H', Inv X pins σ H' s' ∧ IsPart u o ∧ Q o H') X.xe s
def tNoPart : TO := fun _ H Q => Q none H
def tPart (t : TE) : TO := fun σ H Q => t σ H fun x H1 => ∃ i, x = .int i ∧ Q (some i) H1

theorem intsAre_of {ns : List Int} : ∀ {us : List Value}, Vals (ns.map V.int) us → IntsAre us ns := by
  induction ns with
  | nil => intro us r; rw [List.map_nil] at r; cases r; exact .nil
  | cons n ns ih =>
    intro us r
    rw [List.map_cons] at r
    cases r with
    | cons r1 r2 =>
      obtain ⟨t, e⟩ := r1
      subst e
      exact .cons n t (ih r2)

section
variable {X : Cx} {e : Expr} {te : TE} {lo hi : Option Expr} {tl th : TO} {pos p2 : Pos}

theorem po_none : PO X none tNoPart := by
  intro pins s σ H Q I h
  rw [evalPart_none]
  exact wpAny_pure ⟨none, H, I, .none, h⟩
theorem po_some (h : PE X e te) : PO X (some e) (tPart te) := by
  intro pins s σ H Q I hw
  rw [evalPart_some]
  refine thn (h pins s σ H _ I hw) fun u s1 ⟨x, H1, I1, r1, q1⟩ => ?_
  obtain ⟨i, rfl, q⟩ := q1
  obtain ⟨t, rfl⟩ := r1
  exact ⟨some i, H1, I1, .int i t, q⟩

/-- what a slice of a value is, by values: the slice object stands at sl -/
def SlR (X : Cx) (r : V → Option Int → Option Int → Hp → VK → Prop) : Prop :=
  ∀ (pins : List (Addr × Obj)) (s : Shared) (σ : St) (H : Hp) (x : V) (v vl vu : Value) (lo hi : Option Int) (sl : Addr) (Q : VK), Inv X pins σ H s → RelV x v → s.heap.IsSliceOf sl vl vu .none → IsPart vl lo → IsPart vu hi → r x lo hi H Q →
    ∃ T id, typeLookup (.type T) "__getitem__" = pure (some (.builtin id)) ∧ s.TypeIs v T ∧ wpAny (model X.prog X.w) X.A (getItem v (.ref sl)) (EP X pins σ Q) X.xe s
theorem SlR.or {r r' : V → Option Int → Option Int → Hp → VK → Prop} (h : SlR X r) (h' : SlR X r') : SlR X (fun x lo hi H Q => r x lo hi H Q ∨ r' x lo hi H Q) := by
  intro pins s σ H x v vl vu lo hi sl Q I rx hs pl pu q
  rcases q with q | q
  · exact h pins s σ H x v vl vu lo hi sl Q I rx hs pl pu q
  · exact h' pins s σ H x v vl vu lo hi sl Q I rx hs pl pu q
def tSl (r : V → Option Int → Option Int → Hp → VK → Prop) (te : TE) (tl th : TO) : TE := fun σ H Q => te σ H fun x H1 => tl σ H1 fun l H2 => th σ H2 fun u H3 => r x l u H3 Q
/-- a[lo:hi], any a -/
theorem pe_slice {r : V → Option Int → Option Int → Hp → VK → Prop} (hr : SlR X r) (he : PE X e te) (hl : PO X lo tl) (hu : PO X hi th) : PE X (.Subscript e (.Slice lo hi none p2) pos) (tSl r te tl th) := by
  intro pins s σ H Q I h
  refine Subscript_ (thn (he pins s σ H _ I h) fun v s1 ⟨x, H1, I1, r1, q1⟩ => ?_)
  refine wpAny_Slice (thn (hl pins s1 σ H1 _ I1 q1) fun vl s2 ⟨l, H2, I2, pl, q2⟩ => thn (hu pins s2 σ H2 _ I2 q2) fun vu s3 ⟨u, H3, I3, pu, q3⟩ => ?_)
  rw [evalPart_none]
  refine wpAny_pure ?_
  have I4 : Inv X pins σ H3 { s3 with heap := s3.heap.push { cls := .type "slice", data := .fields #[vl, vu, .none] } } := I3.kept (t' := s3.toks) fun b ob q => Heap.get?_push_of_some _ q
  obtain ⟨T, id, hT, ht, hg⟩ := hr pins { s3 with heap := s3.heap.push { cls := .type "slice", data := .fields #[vl, vu, .none] } } σ H3 x v vl vu l u s3.heap.objs.size Q I4 r1 (Heap.IsSliceOf.new ..) pl pu q3
  show wpAny (model X.prog X.w) X.A (subscriptTail e (.Slice lo hi none p2) v (.ref s3.heap.objs.size)) (EP X pins σ Q) X.xe { s3 with heap := s3.heap.push { cls := .type "slice", data := .fields #[vl, vu, .none] } }
  exact tail_any (ops := [.ref s3.heap.objs.size, v]) ht hT hg (by with_unfolding_all rfl)

/-- the items of xs[lo:hi] -/
def cutV (xs : List V) (lo hi : Option Int) : List V := (xs.drop (HT.sIx xs.length 0 lo)).take (HT.sIx xs.length xs.length hi - HT.sIx xs.length 0 lo)
theorem cutV_length (xs : List V) (lo hi : Option Int) : (cutV xs lo hi).length ≤ xs.length := by
  unfold cutV
  rw [List.length_take, List.length_drop]
  omega
/-- t[lo:hi], not the whole of it (the whole would be t itself) -/
def rSlT (K : PySem.W.Frag) : V → Option Int → Option Int → Hp → VK → Prop := fun x lo hi H Q => ∃ a xs, x = .ref a ∧ SqT K H a xs ∧
  ¬ (HT.sIx xs.length 0 lo = 0 ∧ HT.sIx xs.length xs.length hi = xs.length) ∧ ∀ p, H p = none → Q (.ref p) (upd H p (.tup (cutV xs lo hi)))
theorem sl_tup : SlR X (rSlT X.K) := by
  intro pins s σ H x v vl vu lo hi sl Q I rx hs pl pu h
  obtain ⟨a, xs, rfl, hx, hw, q⟩ := h
  cases rx
  obtain ⟨its, r, ht, hz⟩ := I.tuple hx
  have hlen : its.toArray.size = xs.length := by rw [List.size_toArray]; exact r.length.symm
  refine ⟨"tuple", _, PyProof.Rows.slot_tuple_getitem.lookup, ht.typeIs, ?_⟩
  refine HT.getItem_tuple_cut ht hs pl pu (by rw [hlen]; exact hw) ?_ (by rw [hlen]; exact hz)
  rw [hlen]
  refine ⟨.ref s.heap.objs.size, _, I.laid (t' := s.toks) (o := .tup (cutV xs lo hi)) (fun b ob q => Heap.get?_push_of_some _ q) (Nat.le_refl _) ?_, rfl, q _ (I.hok.fresh (Nat.le_refl _))⟩
  exact ⟨Nat.le_trans (cutV_length xs lo hi) hz, _, (r.drop (HT.sIx xs.length 0 lo)).take (HT.sIx xs.length xs.length hi - HT.sIx xs.length 0 lo), IsTup.new _ _⟩

/-! ### t < u, t + u -/
def rLtT (K : PySem.W.Frag) : R2 := fun x y H Q => ∃ a b ns ms, x = .ref a ∧ y = .ref b ∧ SqT K H a (ns.map V.int) ∧ SqT K H b (ms.map V.int) ∧ Q (.bl (HT.lexLt ns ms)) H
theorem op_ltT (hu : X.A.units < cLine) : OpR X (compareOp .Lt) (rLtT X.K) := by
  intro pins s σ H x y v u Q I rx ry h
  obtain ⟨a, b, ns, ms, rfl, rfl, ha, hb, q⟩ := h
  cases rx
  cases ry
  obtain ⟨its, r1, p1, _⟩ := I.tuple ha
  obtain ⟨its2, r2, p2, _⟩ := I.tuple hb
  have i1 : IntsAre its.toArray.toList ns := intsAre_of r1
  have i2 : IntsAre its2.toArray.toList ms := intsAre_of r2
  exact HT.lt_tupInts p1 p2 i1 i2 hu ⟨.bl (HT.lexLt ns ms), H, I, rfl, q⟩
/-- t + u, t not empty: u empty gives t itself -/
def rCatT (K : PySem.W.Frag) : R2 := fun x y H Q => ∃ a b xs ys, x = .ref a ∧ y = .ref b ∧ SqT K H a xs ∧ SqT K H b ys ∧ xs ≠ [] ∧ xs.length + ys.length ≤ sizeLine ∧
  (ys = [] → Q (.ref a) H) ∧ (ys ≠ [] → ∀ p, H p = none → Q (.ref p) (upd H p (.tup (xs ++ ys))))
theorem Vals.nil_iff {xs : List V} {us : List Value} (r : Vals xs us) : us = [] ↔ xs = [] := by
  cases r with
  | nil => simp
  | cons _ _ => simp
theorem op_catT : OpR X (binaryOp .Add) (rCatT X.K) := by
  intro pins s σ H x y v u Q I rx ry h
  obtain ⟨a, b, xs, ys, rfl, rfl, ha, hb, hx, hz, q1, q2⟩ := h
  cases rx
  cases ry
  obtain ⟨its, r1, p1, _⟩ := I.tuple ha
  obtain ⟨its2, r2, p2, _⟩ := I.tuple hb
  refine HT.cat_tup p1 p2 (fun z => hx (r1.nil_iff.mp z)) (fun z => ⟨.ref a, H, I, rfl, q1 (r2.nil_iff.mp z)⟩) (fun z => ?_) (by rw [← r1.length, ← r2.length]; exact hz)
  refine ⟨.ref s.heap.objs.size, _, I.laid (t' := s.toks) (o := .tup (xs ++ ys)) (fun b ob q => Heap.get?_push_of_some _ q) (Nat.le_refl _) ?_, rfl, q2 (fun w => z (r2.nil_iff.mpr w)) _ (I.hok.fresh (Nat.le_refl _))⟩
  exact ⟨by rw [List.length_append]; exact hz, _, r1.append r2, IsTup.new _ _⟩
/-- tuple(t) -/
theorem call_tupleT : CallR X (.type "tuple") (fun xs H Q => ∃ a ys, xs = [.ref a] ∧ SqT X.K H a ys ∧ Q (.ref a) H) := by
  intro pins s σ H xs us Q I r h
  obtain ⟨a, ys, rfl, ha, q⟩ := h
  obtain ⟨u, rfl, ru⟩ := vals1 r
  cases ru
  obtain ⟨its, _, p1, _⟩ := I.tuple ha
  exact call_tuple_same (items := its.toArray) p1 ⟨.ref a, H, I, rfl, q⟩
end
end L2

namespace L2
open PySem PySem.Spec PyProof.Rows

/-! ### places -/
/-- the place that an index of any sign means -/
def ixN (n : Nat) (i : Int) : Option Nat := if 0 ≤ i then (if i < n then some i.toNat else none) else if -(n : Int) ≤ i then some (i + n).toNat else none
def atI {α : Type} (xs : List α) (i : Int) : Option α := (ixN xs.length i).bind fun j => xs[j]?
theorem ixN_seq {n : Nat} {i : Int} {j : Nat} (h : ixN n i = some j) : seqIndex? i n = some j ∧ j < n ∧ -(n : Int) ≤ i ∧ i < n := by
  unfold ixN at h
  by_cases h0 : 0 ≤ i
  · rw [if_pos h0] at h
    by_cases h1 : i < n
    · rw [if_pos h1] at h
      have e : i.toNat = j := Option.some.inj h
      exact ⟨by rw [seqIndex_of h0 h1, e], by omega, by omega, h1⟩
    · rw [if_neg h1] at h; cases h
  · rw [if_neg h0] at h
    by_cases h1 : -(n : Int) ≤ i
    · rw [if_pos h1] at h
      have e : (i + n).toNat = j := Option.some.inj h
      exact ⟨by rw [seqIndex_neg (by omega) h1, e], by omega, h1, by omega⟩
    · rw [if_neg h1] at h; cases h
theorem atI_get {α : Type} {xs : List α} {i : Int} {v : α} (h : atI xs i = some v) : ∃ j, seqIndex? i xs.length = some j ∧ xs[j]? = some v ∧ j < xs.length ∧ -(xs.length : Int) ≤ i ∧ i < xs.length := by
  unfold atI at h
  cases e : ixN xs.length i with
  | none => rw [e] at h; cases h
  | some j =>
    rw [e] at h
    obtain ⟨h1, h2, h3, h4⟩ := ixN_seq e
    exact ⟨j, h1, h, h2, h3, h4⟩
theorem atI_nat {α : Type} {xs : List α} {j : Nat} {v : α} (h : xs[j]? = some v) : atI xs (j : Int) = some v := by
  have hj : j < xs.length := (List.getElem?_eq_some_iff.mp h).1
  have e : ixN xs.length (j : Int) = some j := by
    unfold ixN
    rw [if_pos (by omega), if_pos (by omega)]; simp
  unfold atI; rw [e]; exact h
theorem atI_last {α : Type} (xs : List α) (v : α) : atI (xs ++ [v]) (-1) = some v := by
  have hl : (xs ++ [v]).length = xs.length + 1 := by simp
  have e : ixN (xs ++ [v]).length (-1) = some xs.length := by
    unfold ixN
    rw [hl, if_neg (by decide), if_pos (by omega)]
    congr 1
    omega
  unfold atI
  rw [e]
  show (xs ++ [v])[xs.length]? = some v
  simp

/-! ### what may be subscripted -/
/-- what stands as an index of a plain subscript -/
def PlainIx (b : Expr) : Prop := ∀ o i, subscripted b false o i = operate [o, i] (getItem o i)
/-- a subscript by values -/
def IxR (X : Cx) (r : R2) : Prop :=
  ∀ (value slice : Expr) (pins : List (Addr × Obj)) (s : Shared) (σ : St) (H : Hp) (x y : V) (v u : Value) (Q : VK), Inv X pins σ H s → RelV x v → RelV y u → r x y H Q →
    subscripted slice false v u = operate [v, u] (getItem v u) → wpAny (model X.prog X.w) X.A (subscriptTail value slice v u) (EP X pins σ Q) X.xe s
/-- a call of a builtin's method by values: the receiver, the arguments -/
def MtR (X : Cx) (id : String) (r : V → List V → Hp → VK → Prop) : Prop :=
  ∀ (pins : List (Addr × Obj)) (s : Shared) (σ : St) (H : Hp) (x : V) (xs : List V) (v : Value) (us : List Value) (Q : VK), Inv X pins σ H s → RelV x v → Vals xs us → r x xs H Q →
    wpAny (model X.prog X.w) X.A (call (.builtin id) (v :: us)) (EP X pins σ Q) X.xe s
section
variable {X : Cx} {a b : Expr} {ta tb : TE} {pos : Pos}
theorem IxR.or {r r' : R2} (h : IxR X r) (h' : IxR X r') : IxR X (fun x y H Q => r x y H Q ∨ r' x y H Q) := by
  intro value slice pins s σ H x y v u Q I rx ry q hs
  rcases q with q | q
  · exact h value slice pins s σ H x y v u Q I rx ry q hs
  · exact h' value slice pins s σ H x y v u Q I rx ry q hs
theorem MtR.or {id : String} {r r' : V → List V → Hp → VK → Prop} (h : MtR X id r) (h' : MtR X id r') : MtR X id (fun x xs H Q => r x xs H Q ∨ r' x xs H Q) := by
  intro pins s σ H x xs v us Q I rx rs q
  rcases q with q | q
  · exact h pins s σ H x xs v us Q I rx rs q
  · exact h' pins s σ H x xs v us Q I rx rs q
/-- a[b] -/
theorem pe_ix {r : R2} (hr : IxR X r) (ha : PE X a ta) (hb : PE X b tb) (hs : PlainIx b) : PE X (.Subscript a b pos) (tOp r ta tb) := by
  intro pins s σ H Q I h
  exact Subscript_ (binT ha hb I h fun v u s2 x y H2 I2 rx ry q => hr a b pins s2 σ H2 x y v u Q I2 rx ry q (hs _ _))

def rIxL (K : PySem.W.Frag) : R2 := fun x y H Q => ∃ p xs i v, x = .ref p ∧ y = .int i ∧ SqL K H p xs ∧ atI xs i = some v ∧ Q v H
def rIxT (K : PySem.W.Frag) : R2 := fun x y H Q => ∃ p xs i v, x = .ref p ∧ y = .int i ∧ SqT K H p xs ∧ atI xs i = some v ∧ Q v H
def rIxS : R2 := fun x y H Q => ∃ z i c, x = .str z ∧ y = .int i ∧ z.length ≤ sizeLine ∧ atI z.cps.toList i = some c ∧ Q (.str ⟨#[c]⟩) H
theorem ix_list : IxR X (rIxL X.K) := by
  intro value slice pins s σ H x y v u Q I rx ry h hs
  obtain ⟨p, xs, i, z, rfl, rfl, hq, he, q⟩ := h
  cases rx
  obtain ⟨t, rfl⟩ := ry
  obtain ⟨its, r, pl, hz⟩ := I.list hq
  obtain ⟨j, h1, h2, h3, h4, h5⟩ := atI_get he
  obtain ⟨w, ew, rw'⟩ := r.get h2
  have hl := r.length
  have hn := line63
  have fin : EP X pins σ Q w s := ⟨z, H, I, rw', q⟩
  by_cases h0 : 0 ≤ i
  · have hj : i.toNat = j := by
      rw [seqIndex_of h0 h5] at h1
      exact Option.some.inj h1
    exact item_listR pl.isList h0 (by omega) (by rw [hj]; simpa using ew) fin hs
  · have hj : (i + (its.toArray.size : Int)).toNat = j := by
      rw [seqIndex_neg (by omega) h4] at h1
      rw [List.size_toArray, ← hl]
      exact Option.some.inj h1
    exact subscriptTail_builtinR (x := w) pl.isList.typeIs slot_list_getitem.lookup
      (wpAny_getItem_list_neg (Q := fun r s' => r = w ∧ EP X pins σ Q r s') pl.isList (by omega) (by rw [List.size_toArray] <;> omega) (by omega) (by rw [hj]; simpa using ew) ⟨rfl, fin⟩) hs
theorem ix_tup : IxR X (rIxT X.K) := by
  intro value slice pins s σ H x y v u Q I rx ry h hs
  obtain ⟨p, xs, i, z, rfl, rfl, hq, he, q⟩ := h
  cases rx
  obtain ⟨t, rfl⟩ := ry
  obtain ⟨its, r, pl, hz⟩ := I.tuple hq
  obtain ⟨j, h1, h2, h3, h4, h5⟩ := atI_get he
  obtain ⟨w, ew, rw'⟩ := r.get h2
  have hl := r.length
  have hn := line63
  have fin : EP X pins σ Q w s := ⟨z, H, I, rw', q⟩
  exact subscriptTail_builtinR (x := w) pl.typeIs slot_tuple_getitem.lookup
    (getItem_tuple (j := j) (Q := fun r s' => r = w ∧ EP X pins σ Q r s') pl (by omega) (by omega) (by rw [List.size_toArray, ← hl]; exact h1) (by simpa using ew) ⟨rfl, fin⟩) hs
theorem ix_str : IxR X rIxS := by
  intro value slice pins s σ H x y v u Q I rx ry h hs
  obtain ⟨z, i, c, rfl, rfl, hz, he, q⟩ := h
  obtain ⟨t, rfl⟩ := rx
  obtain ⟨t', rfl⟩ := ry
  obtain ⟨j, h1, h2, h3, h4, h5⟩ := atI_get he
  have hl : z.cps.toList.length = z.length := by simp [Str.length]
  rw [hl] at h1 h4 h5
  have hn := line63
  exact tail_any (typeIs_str s z t) slot_str_getitem.lookup (getItem_str (c := c) (by
    have e1 : decide (i < -(2 ^ 63 : Int)) = false := decide_eq_false (by omega)
    have e2 : decide (i ≥ 2 ^ 63) = false := decide_eq_false (by omega)
    rw [e1, e2, Bool.or_false]) (by rw [h1]; simpa using h2) ⟨.str ⟨#[c]⟩, H, I.tok _, ⟨_, rfl⟩, q⟩) hs
/-- list, tuple or str -/
def rIx (K : PySem.W.Frag) : R2 := fun x y H Q => rIxL K x y H Q ∨ rIxT K x y H Q ∨ rIxS x y H Q
theorem ix_seq : IxR X (rIx X.K) := ix_list.or (ix_tup.or ix_str)

/-! ### xs[i] = v, any sign -/
/-- the list's object behind a store -/
theorem mapSeq_set (its : List Value) (n j : Nat) (u : Value) : Obj.mapSeq (·.setIfInBounds j u) { cls := .type "list", data := .seq its.toArray n } = { cls := .type "list", data := .seq (its.set j u).toArray n } := by
  simp [Obj.mapSeq]
theorem Inv.lst {pins : List (Addr × Obj)} {σ : St} {H : Hp} {s : Shared} {p : Addr} {xs : List V} (I : Inv X pins σ H s) (h : H p = some (.lst xs)) :
    ∃ (its : List Value) (n : Nat), Vals xs its ∧ s.heap.get? p = some { cls := .type "list", data := .seq its.toArray n } ∧ xs.length ≤ sizeLine := by
  obtain ⟨z, its, n, r, e⟩ := I.hok p _ h
  exact ⟨its, n, r, e, z⟩
/-- the list at p is written by an update of its object -/
theorem Inv.lstUpd {pins : List (Addr × Obj)} {σ : St} {H : Hp} {s : Shared} {p : Addr} {xs ys : List V} {its its' : List Value} {n n' : Nat} {f : Obj → Obj} (I : Inv X pins σ H s) (h : H p = some (.lst xs))
    (ho : s.heap.get? p = some { cls := .type "list", data := .seq its.toArray n }) (hf : f { cls := .type "list", data := .seq its.toArray n } = { cls := .type "list", data := .seq its'.toArray n' }) (r : Vals ys its') (hz : ys.length ≤ sizeLine) (t : Nat) :
    Inv X pins σ (upd H p (.lst ys)) { s with heap := s.heap.update p f, toks := t } := by
  have e : (s.heap.update p f).get? p = some { cls := .type "list", data := .seq its'.toArray n' } := by
    rw [Heap.get?_update_self f ho (by rw [hf] <;> rfl), hf]
  refine I.write (x := p) (e := p) (by rw [h]; trivial) (.inl rfl) (fun b u hb q => (Heap.get?_update_other _ _ (Ne.symm hb)).trans q) ⟨_, e⟩ ?_
  exact ⟨hz, its', n', r, e⟩
def rSetL : V → V → V → Hp → (Hp → Prop) → Prop := fun o i v H Q => ∃ p xs k j, o = .ref p ∧ i = .int k ∧ H p = some (.lst xs) ∧ ixN xs.length k = some j ∧ Q (upd H p (.lst (xs.set j v)))
theorem set_list : PSet X rSetL := by
  intro pins s σ H o i v ov iv u Q I ro ri rv h
  obtain ⟨p, xs, k, j, rfl, rfl, hp, hj, q⟩ := h
  cases ro
  obtain ⟨t, rfl⟩ := ri
  obtain ⟨its, n, r, ho, hz⟩ := I.lst hp
  obtain ⟨h1, h2, h3, h4⟩ := ixN_seq hj
  have hl := r.length
  have hn := line63
  have I' : Inv X pins σ (upd H p (.lst (xs.set j v))) { s with heap := s.heap.update p (Obj.mapSeq (·.setIfInBounds j u)) } :=
    I.lstUpd hp ho (mapSeq_set its n j u) (r.set rv j) (by rw [List.length_set]; exact hz) s.toks
  by_cases h0 : 0 ≤ k
  · have hk : k.toNat = j := by
      rw [seqIndex_of h0 h4] at h1
      exact Option.some.inj h1
    exact PySem.W.ki_setAt ho h0 (by omega) (by rw [List.size_toArray, ← hl]; exact h4) (by rw [hk]; exact ⟨_, I', q⟩)
  · have hk : (k + (its.toArray.size : Int)).toNat = j := by
      rw [seqIndex_neg (by omega) h3] at h1
      rw [List.size_toArray, ← hl]
      exact Option.some.inj h1
    exact PySem.W.ki_setBack ho (by omega) (by rw [List.size_toArray, ← hl]; exact h3) (by omega) (by rw [hk]; exact ⟨_, I', q⟩)

/-! ### slices -/
theorem slice_bounds (lo hi : Option Int) (n : Nat) : (sliceBounds lo hi none n).1 = ((HT.sIx n 0 lo : Nat) : Int) ∧ (sliceBounds lo hi none n).2.1 = ((HT.sIx n n hi : Nat) : Int) ∧ (sliceBounds lo hi none n).2.2 = 1 := by
  refine ⟨?_, ?_, rfl⟩
  · cases lo with
    | none => simp [sliceBounds, HT.sIx]
    | some i =>
      simp only [sliceBounds, HT.sIx, Option.getD_none, show (1 : Int) > 0 by decide, if_true]
      by_cases h : i < 0
      · simp only [h, if_true] <;> omega
      · simp only [h, if_false] <;> omega
  · cases hi with
    | none => simp [sliceBounds, HT.sIx]
    | some i =>
      simp only [sliceBounds, HT.sIx, Option.getD_none, show (1 : Int) > 0 by decide, if_true]
      by_cases h : i < 0
      · simp only [h, if_true] <;> omega
      · simp only [h, if_false] <;> omega
theorem slicePick_cut (its : List Value) (lo hi : Option Int) : slicePick its.toArray lo hi none = ((its.drop (HT.sIx its.length 0 lo)).take (HT.sIx its.length its.length hi - HT.sIx its.length 0 lo)).toArray := by
  obtain ⟨h1, h2, h3⟩ := slice_bounds lo hi its.toArray.size
  unfold slicePick
  rw [h1, h2, h3]
  simp only [sliceRange_one, pick_run, List.size_toArray] <;> rfl
/-- xs[lo:hi] of a list: a new list -/
def rSlL (K : PySem.W.Frag) : V → Option Int → Option Int → Hp → VK → Prop := fun x lo hi H Q => ∃ a xs, x = .ref a ∧ SqL K H a xs ∧ ∀ p, H p = none → Q (.ref p) (upd H p (.lst (cutV xs lo hi)))
theorem sl_list : SlR X (rSlL X.K) := by
  intro pins s σ H x v vl vu lo hi sl Q I rx hs pl pu h
  obtain ⟨a, xs, rfl, hx, q⟩ := h
  cases rx
  obtain ⟨its, r, ht, hz⟩ := I.list hx
  have hlen := r.length
  refine ⟨"list", _, slot_list_getitem.lookup, ht.isList.typeIs, ?_⟩
  refine wpAny_getItem_list_slice ht.isList hs pl pu .none (by simp) ?_ (by rw [List.size_toArray] <;> omega)
  rw [slicePick_cut, ← hlen]
  refine ⟨.ref s.heap.objs.size, _, I.laid (t' := s.toks) (o := .lst (cutV xs lo hi)) (fun b ob q => Heap.get?_push_of_some _ q) (Nat.le_refl _) ?_, rfl, q _ (I.hok.fresh (Nat.le_refl _))⟩
  exact ⟨Nat.le_trans (cutV_length xs lo hi) hz, _, 0, (r.drop (HT.sIx xs.length 0 lo)).take (HT.sIx xs.length xs.length hi - HT.sIx xs.length 0 lo), Heap.get?_push_size _ rfl⟩

/-! ### in, not in: flat items -/
def flatV : V → Bool
  | .non => true
  | .bl _ => true
  | .int _ => true
  | .str _ => true
  | _ => false
/-- == of flat values -/
def eqV : V → V → Bool
  | .non, .non => true
  | .bl a, .bl b => a == b
  | .bl a, .int b => (if a then 1 else 0) == b
  | .int a, .bl b => a == (if b then 1 else 0)
  | .int a, .int b => a == b
  | .str a, .str b => a == b
  | _, _ => false
theorem eqAt_V {A : Around} {s : Shared} {y x : V} {u v : Value} (ry : RelV y u) (rx : RelV x v) (fy : flatV y = true) (fx : flatV x = true) : SeqAt.EqAt A s u v (eqV y x) := by
  cases y with
  | non =>
    cases ry
    cases x with
    | non => cases rx; exact SeqAt.EqAt.same _
    | bl b => cases rx; exact SeqAt.EqAt.none_bool b
    | int b => obtain ⟨t, rfl⟩ := rx; exact SeqAt.EqAt.none_int b t
    | str b => obtain ⟨t, rfl⟩ := rx; exact SeqAt.EqAt.none_str b t
    | _ => exact absurd (show false = true from fx) Bool.false_ne_true
  | bl a =>
    cases ry
    cases x with
    | non => cases rx; exact SeqAt.EqAt.bool_none a
    | bl b => cases rx; exact SeqAt.EqAt.bool_bool a b
    | int b => obtain ⟨t, rfl⟩ := rx; exact SeqAt.EqAt.bool_int a b t
    | str b => obtain ⟨t, rfl⟩ := rx; exact SeqAt.EqAt.bool_str a b t
    | _ => exact absurd (show false = true from fx) Bool.false_ne_true
  | int a =>
    obtain ⟨t', rfl⟩ := ry
    cases x with
    | non => cases rx; exact SeqAt.EqAt.int_none a t'
    | bl b => cases rx; exact SeqAt.EqAt.int_bool a t' b
    | int b => obtain ⟨t, rfl⟩ := rx; exact SeqAt.EqAt.int_int a t' b t
    | str b => obtain ⟨t, rfl⟩ := rx; exact SeqAt.EqAt.int_str a t' b t
    | _ => exact absurd (show false = true from fx) Bool.false_ne_true
  | str a =>
    obtain ⟨t', rfl⟩ := ry
    cases x with
    | non => cases rx; exact SeqAt.EqAt.str_none a t'
    | bl b => cases rx; exact SeqAt.EqAt.str_bool a t' b
    | int b => obtain ⟨t, rfl⟩ := rx; exact SeqAt.EqAt.str_int a t' b t
    | str b => obtain ⟨t, rfl⟩ := rx; exact SeqAt.EqAt.str_str a t' b t
    | _ => exact absurd (show false = true from fx) Bool.false_ne_true
  | _ => exact absurd (show false = true from fy) Bool.false_ne_true
/-- the items' answers, read off the values (a value's own answer does not lean on its token) -/
def eqU (x : V) (u : Value) : Bool := match u with
  | .none => eqV .non x
  | .bool b => eqV (.bl b) x
  | .int i _ => eqV (.int i) x
  | .str z _ => eqV (.str z) x
  | _ => false
theorem eqU_of {x y : V} {u : Value} (r : RelV y u) (f : flatV y = true) : eqU x u = eqV y x := by
  cases y with
  | non => cases r; rfl
  | bl b => cases r; rfl
  | int i => obtain ⟨t, rfl⟩ := r; rfl
  | str z => obtain ⟨t, rfl⟩ := r; rfl
  | _ => exact absurd (show false = true from f) Bool.false_ne_true
theorem any_eqU {x : V} : ∀ {xs : List V} {us : List Value}, Vals xs us → xs.all flatV = true → us.any (eqU x) = xs.any fun y => eqV y x
  | _, _, .nil, _ => rfl
  | y :: xs, u :: us, .cons r t, f => by
    rw [List.all_cons, Bool.and_eq_true] at f
    rw [List.any_cons, List.any_cons, eqU_of r f.1, any_eqU t f.2]
theorem mem_eqAt {A : Around} {s : Shared} {x : V} {v : Value} (rx : RelV x v) (fx : flatV x = true) : ∀ {xs : List V} {us : List Value}, Vals xs us → xs.all flatV = true → ∀ u ∈ us, SeqAt.EqAt A s u v (eqU x u)
  | _, _, .nil, _ => fun u hu => by cases hu
  | y :: xs, u :: us, .cons r t, f => fun u' hu => by
    rw [List.all_cons, Bool.and_eq_true] at f
    rcases List.mem_cons.mp hu with rfl | hu
    · rw [eqU_of r f.1]; exact eqAt_V r rx f.1 fx
    · exact mem_eqAt rx fx t f.2 u' hu
def inV (x : V) (xs : List V) : Bool := xs.any fun y => eqV y x
/-- x in a list or tuple of flat items -/
def rIn (K : PySem.W.Frag) (neg : Bool) : R2 := fun x y H Q => ∃ p xs, y = .ref p ∧ (SqL K H p xs ∨ SqT K H p xs) ∧ flatV x = true ∧ xs.all flatV = true ∧ Q (.bl (if neg then !inV x xs else inV x xs)) H
theorem op_in_seq : OpR X (compareOp .In) (rIn X.K false) := by
  intro pins s σ H x y v u Q I rx ry h
  obtain ⟨p, xs, rfl, hq, fx, fs, q⟩ := h
  cases ry
  rcases hq with hq | hq
  · obtain ⟨its, r, pl, hz⟩ := I.list hq
    refine SeqAt.in_listAt (eqU x) pl.isList (fun w hw => mem_eqAt rx fx r fs w (by simpa using hw)) ⟨.bl _, H, I, rfl, ?_⟩
    rw [show its.toArray.any (eqU x) = its.any (eqU x) by simp, any_eqU r fs]
    exact q
  · obtain ⟨its, r, pl, hz⟩ := I.tuple hq
    refine SeqAt.in_tupleAt (eqU x) pl (fun w hw => mem_eqAt rx fx r fs w (by simpa using hw)) ⟨.bl _, H, I, rfl, ?_⟩
    rw [show its.toArray.any (eqU x) = its.any (eqU x) by simp, any_eqU r fs]
    exact q
theorem op_notIn_seq : OpR X (compareOp .NotIn) (rIn X.K true) := by
  intro pins s σ H x y v u Q I rx ry h
  obtain ⟨p, xs, rfl, hq, fx, fs, q⟩ := h
  cases ry
  rcases hq with hq | hq
  · obtain ⟨its, r, pl, hz⟩ := I.list hq
    refine SeqAt.notIn_listAt (eqU x) pl.isList (fun w hw => mem_eqAt rx fx r fs w (by simpa using hw)) ⟨.bl _, H, I, rfl, ?_⟩
    rw [show its.toArray.any (eqU x) = its.any (eqU x) by simp, any_eqU r fs]
    exact q
  · obtain ⟨its, r, pl, hz⟩ := I.tuple hq
    refine SeqAt.notIn_tupleAt (eqU x) pl (fun w hw => mem_eqAt rx fx r fs w (by simpa using hw)) ⟨.bl _, H, I, rfl, ?_⟩
    rw [show its.toArray.any (eqU x) = its.any (eqU x) by simp, any_eqU r fs]
    exact q
theorem op_notIn_str : OpR X (compareOp .NotIn) (fun x y H Q => ∃ i j, x = .str i ∧ y = .str j ∧ Q (.bl (!(!(Builtin.Str.occurrences j i 0 j.length 1).isEmpty))) H) := by
  intro pins s σ H x y v u Q I rx ry h
  obtain ⟨i, j, rfl, rfl, q⟩ := h
  obtain ⟨t, rfl⟩ := rx
  obtain ⟨t', rfl⟩ := ry
  exact notIn_str ⟨.bl _, H, I, rfl, q⟩

/-! ### len, list(x), tuple(x) of any list or tuple that is read -/
theorem call_len_seq : CallR X (.builtin "len") (fun xs H Q => ∃ p ys, xs = [.ref p] ∧ (SqL X.K H p ys ∨ SqT X.K H p ys) ∧ Q (.int ys.length) H) := by
  intro pins s σ H xs us Q I r h
  obtain ⟨p, ys, rfl, hq, q⟩ := h
  obtain ⟨u, rfl, rx⟩ := vals1 r
  cases rx
  have hn := line63
  rcases hq with hq | hq
  · obtain ⟨its, r', pl, hz⟩ := I.list hq
    have hlen := r'.length
    exact Calls.call_len_list pl.isList (by simp only [List.size_toArray] <;> omega) ⟨.int ys.length, H, I.tok _, ⟨s.toks + 1, by rw [List.size_toArray, hlen]⟩, q⟩
  · obtain ⟨its, r', pl, hz⟩ := I.tuple hq
    have hlen := r'.length
    exact len_tuple pl (by simp only [List.size_toArray] <;> omega) ⟨.int ys.length, H, I.tok _, ⟨s.toks + 1, by rw [List.size_toArray, hlen]⟩, q⟩
theorem call_len_str : CallR X (.builtin "len") (fun xs H Q => ∃ z, xs = [.str z] ∧ z.length ≤ sizeLine ∧ Q (.int z.length) H) := by
  intro pins s σ H xs us Q I r h
  obtain ⟨z, rfl, hz, q⟩ := h
  obtain ⟨u, rfl, t, rfl⟩ := vals1 r
  have hn := line63
  exact len_str (by omega) ⟨.int z.length, H, I.tok _, ⟨_, rfl⟩, q⟩
theorem CallR.or {f : Value} {r r' : List V → Hp → VK → Prop} (h : CallR X f r) (h' : CallR X f r') : CallR X f (fun xs H Q => r xs H Q ∨ r' xs H Q) := by
  intro pins s σ H xs us Q I rs q
  rcases q with q | q
  · exact h pins s σ H xs us Q I rs q
  · exact h' pins s σ H xs us Q I rs q
theorem call_list_of : CallR X (.type "list") (fun xs H Q => ∃ p ys, xs = [.ref p] ∧ (SqL X.K H p ys ∨ SqT X.K H p ys) ∧ ∀ l, H l = none → Q (.ref l) (upd H l (.lst ys))) := by
  intro pins s σ H xs us Q I r h
  obtain ⟨p, ys, rfl, hq, q⟩ := h
  obtain ⟨u, rfl, rx⟩ := vals1 r
  cases rx
  have fin : ∀ (its : List Value), Vals ys its → ys.length ≤ sizeLine → ∀ (h' : Heap) (c' : Nat), (∀ b o', s.heap.get? b = some o' → h'.get? b = some o') →
      h'.get? s.heap.objs.size = some { cls := .type "list", dict := none, data := .seq its.toArray c', slots := #[] } → EP X pins σ Q (.ref s.heap.objs.size) { s with heap := h' } := fun its r' hz h' c' kp e =>
    ⟨.ref s.heap.objs.size, _, I.laid (t' := s.toks) kp (Nat.le_refl _) (show ObjOk X.prog X.w _ h' _ (.lst ys) from ⟨hz, its, c', r', e⟩), rfl, q _ (I.hok.fresh (Nat.le_refl _))⟩
  rcases hq with hq | hq
  · obtain ⟨its, r', pl, hz⟩ := I.list hq
    have hlen := r'.length
    obtain ⟨o, ho, hc, n, hd⟩ := pl.isList
    exact call_list_seq p (.inl rfl) ho hc hd (fun h' c' kp e => fin its r' hz h' c' kp e) (by simp only [List.size_toArray] <;> omega)
  · obtain ⟨its, r', pl, hz⟩ := I.tuple hq
    have hlen := r'.length
    obtain ⟨o, ho, hc, n, hd⟩ := pl
    exact call_list_seq p (.inr rfl) ho hc hd (fun h' c' kp e => fin its r' hz h' c' kp e) (by simp only [List.size_toArray] <;> omega)
theorem call_tuple_of : CallR X (.type "tuple") (fun xs H Q => ∃ p ys, xs = [.ref p] ∧ ((SqL X.K H p ys ∧ ∀ l, H l = none → Q (.ref l) (upd H l (.tup ys))) ∨ (SqT X.K H p ys ∧ Q (.ref p) H))) := by
  intro pins s σ H xs us Q I r h
  obtain ⟨p, ys, rfl, h⟩ := h
  obtain ⟨u, rfl, rx⟩ := vals1 r
  cases rx
  rcases h with ⟨hq, q⟩ | ⟨hq, q⟩
  · obtain ⟨its, r', pl, hz⟩ := I.list hq
    have hlen := r'.length
    refine call_tuple_list pl.isList (fun h' kp => ?_) (by simp only [List.size_toArray] <;> omega)
    have I1 : Inv X pins σ H { s with heap := h' } := I.kept (t' := s.toks) kp
    have I2 : Inv X pins σ (upd H h'.objs.size (.tup ys)) { s with heap := h'.push { cls := .type "tuple", data := .seq its.toArray } } :=
      I1.laid (t' := s.toks) (fun b o e => Heap.get?_push_of_some _ e) (Nat.le_refl _) (show ObjOk X.prog X.w _ _ _ (.tup ys) from ⟨hz, its, r', IsTup.new _ _⟩)
    exact ⟨.ref h'.objs.size, _, I2, rfl, q _ (I1.hok.fresh (Nat.le_refl _))⟩
  · obtain ⟨its, r', pl, hz⟩ := I.tuple hq
    exact call_tuple_same pl ⟨.ref p, H, I, rfl, q⟩

/-! ### the call of a builtin's method: o.m(..) -/
/-- the value is of that builtin type -/
def tyV (K : PySem.W.Frag) (T : String) (x : V) (H : Hp) : Prop := match x with
  | .str _ => T = "str"
  | .int _ => T = "int"
  | .ref p => (T = "list" ∧ ∃ xs, SqL K H p xs) ∨ (T = "tuple" ∧ ∃ o, K.lookup p = some o ∧ o.cls = .type "tuple" ∧ o.dict = none) ∨
      (T = "dict" ∧ ((∃ kvs, H p = some (.dK kvs)) ∨ ∃ kvs, H p = some (.dT kvs))) ∨ (T = "set" ∧ ∃ S n, H p = some (.set S n))
  | _ => False
theorem tyV_is {pins : List (Addr × Obj)} {σ : St} {H : Hp} {s : Shared} {T : String} {x : V} {v : Value} (I : Inv X pins σ H s) (r : RelV x v) (ty : tyV X.K T x H) :
    s.TypeIs v T ∧ ∀ a, v = .ref a → ∃ ob, s.heap.get? a = some ob ∧ ob.dict = none := by
  cases x with
  | str z =>
    obtain ⟨t, rfl⟩ := r
    cases (show T = "str" from ty)
    exact ⟨typeIs_str s z t, fun _ e => nomatch e⟩
  | int i =>
    obtain ⟨t, rfl⟩ := r
    cases (show T = "int" from ty)
    exact ⟨typeIs_int s i t, fun _ e => nomatch e⟩
  | ref p =>
    cases r
    rcases ty with ⟨rfl, xs, hq⟩ | ⟨rfl, o, hk, hc, hd⟩ | ⟨rfl, hk⟩ | ⟨rfl, S, n, hk⟩
    · obtain ⟨its, _, pl, _⟩ := I.list hq
      refine ⟨pl.isList.typeIs, fun a e => ?_⟩
      cases e
      obtain ⟨o, n, e, c, hd, _⟩ := pl
      exact ⟨o, e, hd⟩
    · refine ⟨⟨o, I.kIn p o hk, hc⟩, fun a e => ?_⟩
      cases e
      exact ⟨o, I.kIn _ o hk, hd⟩
    · have z : ∃ o, s.heap.get? p = some o ∧ o.ExactDict := by
        rcases hk with ⟨kvs, hk⟩ | ⟨kvs, hk⟩
        · obtain ⟨_, _, _, _, o, _, _, e, ex, _⟩ := I.hok p _ hk
          exact ⟨o, e, ex⟩
        · obtain ⟨_, _, _, _, o, _, _, e, ex, _⟩ := I.hok p _ hk
          exact ⟨o, e, ex⟩
      obtain ⟨o, e, ex⟩ := z
      refine ⟨⟨o, e, ex.1⟩, fun a e2 => ?_⟩
      cases e2
      exact ⟨o, e, ex.2.1⟩
    · obtain ⟨o, _, _, _, e, ex, _⟩ := I.hok p _ hk
      refine ⟨⟨o, e, ex.1⟩, fun a e2 => ?_⟩
      cases e2
      exact ⟨o, e, ex.2.1⟩
  | _ => exact False.elim ty
def tBM0 (K : PySem.W.Frag) (T : String) (r : V → List V → Hp → VK → Prop) (to : TE) : TE := fun σ H Q => to σ H fun x H1 => tyV K T x H1 ∧ r x [] H1 Q
def tBM (K : PySem.W.Frag) (T : String) (r : V → List V → Hp → VK → Prop) (to : TE) (t : TA) : TE := fun σ H Q => to σ H fun x H1 => tyV K T x H1 ∧ t σ H1 fun xs H2 => r x xs H2 Q
variable {o e : Expr} {es : List Expr} {to : TE} {t : TA} {name : Str} {apos cpos : Pos} {T id : String} {r : V → List V → Hp → VK → Prop}
theorem pe_bm0 (pa : PlainAttrs T) (slot : Slot T name id) (hty : typeOf (.builtin id) = pure (.type "method_descriptor")) (hm : MtR X id r) (ho : PE X o to)
    (hbase : attributeBase o name X.env (eval o X.env) = eval o X.env := by rfl) (hline : (apos.endLine == cpos.line) = true := by rfl) : PE X (.Call (.Attribute o name apos) [] [] cpos) (tBM0 X.K T r to) := by
  intro pins s σ H Q I h
  refine wpAny_Call_method0_late hbase hline (thn (ho pins s σ H _ I h) fun v s1 ⟨x, H1, I1, r1, ty, q1⟩ => ?_)
  obtain ⟨h1, h2⟩ := tyV_is I1 r1 ty
  exact ⟨T, id, pa, slot, hty, h1, h2, Calls.callWith_builtin rfl (PySem.evalArgs_none (hm pins s1 σ H1 x [] v [] Q I1 r1 .nil q1))⟩
theorem pe_bm (pa : PlainAttrs T) (slot : Slot T name id) (hty : typeOf (.builtin id) = pure (.type "method_descriptor")) (hm : MtR X id r) (ho : PE X o to) (ha : PA X (e :: es) t)
    (hbase : attributeBase o name X.env (eval o X.env) = eval o X.env := by rfl)
    (hfew : ((backTo cpos (starEach (e :: es) X.env)).all (fun x => !x.1) && (backToKw cpos (keywordEach [] X.env)).all (fun x => x.1.isSome)
      && decide ((e :: es).length + ([] : List Keyword).length + (if ([] : List Keyword).isEmpty then 0 else 1) < 30)) = true := by rfl)
    (hline : (apos.endLine == cpos.line) = true := by rfl) (hs : starEach (e :: es) X.env = (false, eval e X.env) :: starEach es X.env := by rfl) (hplain : (backTo cpos (starEach es X.env)).any (·.1) = false := by rfl) :
    PE X (.Call (.Attribute o name apos) (e :: es) [] cpos) (tBM X.K T r to t) := by
  intro pins s σ H Q I h
  refine wpAny_Call_method_late hbase hfew hline rfl (thn (ho pins s σ H _ I h) fun v s1 ⟨x, H1, I1, r1, ty, q1⟩ => ?_)
  obtain ⟨h1, h2⟩ := tyV_is I1 r1 ty
  refine ⟨T, id, pa, slot, hty, h1, h2, ?_⟩
  have hA := ha cpos pins s1 σ H1 _ I1 q1
  rw [hs] at hA ⊢
  refine Calls.callWith_builtin (by show (false || (backTo cpos (starEach es X.env)).any (·.1)) = false; rw [hplain] <;> rfl) (Calls.evalArgs_plain ?_)
  exact thn hA fun us s2 ⟨vs, H2, I2, r2, q2⟩ => hm pins s2 σ H2 x vs v us Q I2 r1 r2 q2
/- xs.append(e), list.index on a module's tuple .. are MtR facts of 06m -/
end
end L2

namespace L2
open PySem PySem.Spec PyProof.Rows

def MtM (X : Cx) (id : String) (r : V → List V → Hp → VK → Prop) : Prop :=
  ∀ (pins : List (Addr × Obj)) (s : Shared) (σ : St) (H : Hp) (x : V) (xs : List V) (v : Value) (us : List Value) (Q : VK), Inv X pins σ H s → RelV x v → Vals xs us → r x xs H Q →
    wpAny (model X.prog X.w) X.A (call (.builtin id) (v :: us)) (EP X pins σ Q) X.xe s

/-! ### lists of values -/
theorem Vals.one : ∀ {x : V} {us : List Value}, Vals [x] us → ∃ u, us = [u] ∧ RelV x u
  | _, _, .cons r .nil => ⟨_, rfl, r⟩
theorem Vals.two : ∀ {x y : V} {us : List Value}, Vals [x, y] us → ∃ u v, us = [u, v] ∧ RelV x u ∧ RelV y v
  | _, _, _, .cons r (.cons q .nil) => ⟨_, _, rfl, r, q⟩
theorem Vals.zero : ∀ {us : List Value}, Vals [] us → us = []
  | _, .nil => rfl
theorem Vals.dropLast {xs : List V} {us : List Value} (h : Vals xs us) : Vals xs.dropLast us.dropLast := by
  induction h with
  | nil => exact .nil
  | cons r t ih =>
    cases t with
    | nil => exact .nil
    | cons q t' => exact .cons r ih
theorem Vals.eraseIdx : ∀ {xs : List V} {us : List Value} (i : Nat), Vals xs us → Vals (xs.eraseIdx i) (us.eraseIdx i)
  | _, _, _, .nil => .nil
  | _, _, 0, .cons _ t => t
  | _, _, i + 1, .cons r t => .cons r (Vals.eraseIdx i t)
theorem Vals.reverse {xs : List V} {us : List Value} (h : Vals xs us) : Vals xs.reverse us.reverse := by
  induction h with
  | nil => exact .nil
  | cons r t ih => rw [List.reverse_cons, List.reverse_cons]; exact Vals.append ih (.cons r .nil)
theorem Vals.rep {xs : List V} {us : List Value} (h : Vals xs us) : ∀ k : Nat, Vals (List.replicate k xs).flatten (List.replicate k us).flatten
  | 0 => .nil
  | k + 1 => by
    rw [List.replicate_succ, List.replicate_succ, List.flatten_cons, List.flatten_cons]
    exact Vals.append h (Vals.rep h k)
theorem erase_last {α : Type} (l : List α) : l.eraseIdx (l.length - 1) = l.dropLast := by
  induction l with
  | nil => rfl
  | cons a r ih =>
    cases r with
    | nil => rfl
    | cons b r =>
      have e : (a :: b :: r).length - 1 = ((b :: r).length - 1) + 1 := by
        have h1 : (a :: b :: r).length = r.length + 2 := rfl
        have h2 : (b :: r).length = r.length + 1 := rfl
        omega
      rw [e, List.eraseIdx_cons_succ, ih]
      all_goals rfl
theorem len_erase {α : Type} : ∀ (l : List α) (i : Nat), (l.eraseIdx i).length ≤ l.length
  | [], _ => Nat.le_refl _
  | _ :: _, 0 => Nat.le_succ _
  | _ :: r, i + 1 => Nat.succ_le_succ (len_erase r i)
theorem foldl_rep (its : List Value) : ∀ (k : Nat) (acc : List Value),
    List.foldl (fun x1 x2 => x1 ++ x2) acc.toArray (List.replicate k its.toArray) = (acc ++ (List.replicate k its).flatten).toArray
  | 0, acc => by simp
  | k + 1, acc => by
    have e : acc.toArray ++ its.toArray = (acc ++ its).toArray := by simp
    have e2 : (acc ++ its) ++ (List.replicate k its).flatten = acc ++ (List.replicate (k + 1) its).flatten := by
      rw [List.replicate_succ, List.flatten_cons, List.append_assoc]
    rw [← e2, ← foldl_rep its k (acc ++ its), ← e, List.replicate_succ, List.foldl_cons]

section
variable {X : Cx} {pins : List (Addr × Obj)} {σ : St} {H : Hp} {s : Shared} {l b : Addr} {xs ys zs : List V}

/-! ### the two steps: a tracked list is rewritten, a new list is laid -/
theorem Inv.lset {its its' : List Value} {n : Nat} {f : Array Value → Array Value} {t' : Nat} (I : Inv X pins σ H s) (hH : H l = some (.lst xs))
    (e : s.heap.get? l = some { cls := .type "list", data := .seq its.toArray n }) (hf : f its.toArray = its'.toArray) (hv : Vals ys its') (hz : ys.length ≤ sizeLine) :
    Inv X pins σ (upd H l (.lst ys)) { s with heap := s.heap.update l (Obj.mapSeq f), toks := t' } := by
  have q := PySem.IsL.update e f
  rw [hf] at q
  refine I.write (x := l) (e := l) (by rw [hH]; exact trivial) (.inl rfl) (fun b' u hb hu => (Heap.get?_update_other s.heap (Obj.mapSeq f) (Ne.symm hb)).trans hu) ⟨_, q⟩ ?_
  exact ⟨hz, its', _, hv, q⟩
theorem Inv.lnew {its : List Value} {t' : Nat} (I : Inv X pins σ H s) (hv : Vals ys its) (hz : ys.length ≤ sizeLine) :
    Inv X pins σ (upd H s.heap.objs.size (.lst ys)) { s with heap := s.heap.push { cls := .type "list", data := .seq its.toArray }, toks := t' } :=
  I.laid (fun _ _ q => Heap.get?_push_of_some _ q) (Nat.le_refl _) ⟨hz, its, 0, hv, Heap.get?_push_size _ rfl⟩
theorem Inv.fresh (I : Inv X pins σ H s) : H s.heap.objs.size = none := I.hok.fresh (Nat.le_refl _)
theorem Inv.lstM (I : Inv X pins σ H s) (hH : H l = some (.lst xs)) : xs.length ≤ sizeLine ∧ ∃ (its : List Value) (n : Nat), Vals xs its ∧ xs.length = its.length ∧ s.heap.get? l = some { cls := .type "list", data := .seq its.toArray n } := by
  obtain ⟨z, its, n, r, e⟩ := I.hok l _ hH
  exact ⟨z, its, n, r, r.length, e⟩

theorem notLongL {n : Nat} (h : n ≤ sizeLine) : Builtin.List.listTooLong n = false := by
  unfold Builtin.List.listTooLong
  exact decide_eq_false (by omega)
end

section
variable {X : Cx}

/-! ### methods -/
def rAppend : V → List V → Hp → VK → Prop := fun x vs H Q => ∃ l xs y, x = .ref l ∧ vs = [y] ∧ H l = some (.lst xs) ∧ xs.length < sizeLine ∧ Q .non (upd H l (.lst (xs ++ [y])))
theorem mt_append : MtM X "list.append" rAppend := by
  intro pins s σ H x vs v us Q I rx rv h
  obtain ⟨l, xs, y, rfl, rfl, hH, hz, q⟩ := h
  cases rx
  obtain ⟨u, rfl, ru⟩ := rv.one
  obtain ⟨z, its, n, r, hl, e⟩ := I.lstM hH
  refine call_meets F.slot_list_append ⟨_, e, rfl⟩ F.entry_list_append (F.args_list_append_2 _ _) (PySem.list_append l its.toArray n u (by rw [List.size_toArray]; omega)) ⟨e, ?_⟩
  refine ⟨.non, _, I.lset (its' := its ++ [u]) hH e (by simp) (r.append (.cons ru .nil)) ?_, rfl, q⟩
  rw [List.length_append, List.length_singleton]
  omega

def rExtend : V → List V → Hp → VK → Prop := fun x vs H Q => ∃ l b xs zs, x = .ref l ∧ vs = [.ref b] ∧ H l = some (.lst xs) ∧ H b = some (.lst zs) ∧ xs.length + zs.length ≤ sizeLine ∧ Q .non (upd H l (.lst (xs ++ zs)))
theorem mt_extend : MtM X "list.extend" rExtend := by
  intro pins s σ H x vs v us Q I rx rv h
  obtain ⟨l, b, xs, zs, rfl, rfl, hH, hB, hz, q⟩ := h
  cases rx
  obtain ⟨u, rfl, ru⟩ := rv.one
  cases ru
  obtain ⟨z, its, n, r, hl, e⟩ := I.lstM hH
  obtain ⟨z2, its2, n2, r2, hl2, e2⟩ := I.lstM hB
  have hsz : its.toArray.size + its2.toArray.size ≤ sizeLine := by rw [List.size_toArray, List.size_toArray]; omega
  have hlong : ¬ (!its.toArray.isEmpty && Builtin.List.listTooLong (its.toArray.size + its2.toArray.size)) = true := by
    rw [notLongL hsz, Bool.and_false]
    exact Bool.false_ne_true
  refine call_meets F.slot_list_extend ⟨_, e, rfl⟩ F.entry_list_extend (F.args_list_extend_2 _ _)
    (AutoSeq1.list_extend_list_list_0 l its.toArray n b its2.toArray n2 hlong (by rw [List.size_toArray]; omega) (by omega)) ⟨e, e2, ?_⟩
  refine ⟨.non, _, I.lset (its' := its ++ its2) hH e (by simp) (r.append r2) ?_, rfl, q⟩
  rw [List.length_append]
  omega

def rPop : V → List V → Hp → VK → Prop := fun x vs H Q => ∃ l xs y, x = .ref l ∧ vs = [] ∧ H l = some (.lst xs) ∧ xs[xs.length - 1]? = some y ∧ Q y (upd H l (.lst xs.dropLast))
theorem mt_pop : MtM X "list.pop" rPop := by
  intro pins s σ H x vs v us Q I rx rv h
  obtain ⟨l, xs, y, rfl, rfl, hH, hy, q⟩ := h
  cases rx
  have hus := rv.zero
  subst hus
  obtain ⟨z, its, n, r, hl, e⟩ := I.lstM hH
  obtain ⟨u, hu, ru⟩ := r.get hy
  have hy' : its.toArray[its.toArray.size - 1]? = some u := by
    show its.toArray[its.length - 1]? = some u
    rw [← Array.getElem?_toList, ← hl]
    exact hu
  refine call_meets F.slot_list_pop ⟨_, e, rfl⟩ F.entry_list_pop (F.args_list_pop_1 _) (MeetsSeq.list_pop_last l its.toArray n u hy' (by rw [List.size_toArray]; omega)) ⟨e, ?_⟩
  refine ⟨y, _, I.lset (its' := its.dropLast) hH e ?_ r.dropLast ?_, ru, q⟩
  · show its.toArray.eraseIdxIfInBounds (its.toArray.size - 1) = its.dropLast.toArray
    rw [List.size_toArray, List.eraseIdxIfInBounds_toArray, erase_last]
  · rw [List.length_dropLast]
    omega

def rPopAt : V → List V → Hp → VK → Prop := fun x vs H Q => ∃ l xs i k y, x = .ref l ∧ vs = [.int i] ∧ H l = some (.lst xs) ∧ -(2 ^ 63) ≤ i ∧ i < 2 ^ 63 ∧ seqIndex? i xs.length = some k ∧ xs[k]? = some y ∧ Q y (upd H l (.lst (xs.eraseIdx k)))
theorem mt_popAt : MtM X "list.pop" rPopAt := by
  intro pins s σ H x vs v us Q I rx rv h
  obtain ⟨l, xs, i, k, y, rfl, rfl, hH, h1, h2, hk, hy, q⟩ := h
  cases rx
  obtain ⟨u, rfl, ru⟩ := rv.one
  obtain ⟨t, rfl⟩ := ru
  obtain ⟨z, its, n, r, hl, e⟩ := I.lstM hH
  obtain ⟨w, hw, rw'⟩ := r.get hy
  refine call_meets F.slot_list_pop ⟨_, e, rfl⟩ F.entry_list_pop (F.args_list_pop_2 _ _)
    (MeetsSeq.list_pop_at l its.toArray n i t k w (fitsIndex_both h1 h2) (by rw [List.size_toArray, ← hl]; exact hk) (by rw [← Array.getElem?_toList]; exact hw) (by rw [List.size_toArray]; omega)) ⟨e, ?_⟩
  refine ⟨y, _, I.lset (its' := its.eraseIdx k) hH e ?_ (r.eraseIdx k) ?_, rw', q⟩
  · show its.toArray.eraseIdxIfInBounds k = (its.eraseIdx k).toArray
    rw [List.eraseIdxIfInBounds_toArray]
  · have := len_erase xs k
    omega

def rReverse : V → List V → Hp → VK → Prop := fun x vs H Q => ∃ l xs, x = .ref l ∧ vs = [] ∧ H l = some (.lst xs) ∧ Q .non (upd H l (.lst xs.reverse))
theorem mt_reverse : MtM X "list.reverse" rReverse := by
  intro pins s σ H x vs v us Q I rx rv h
  obtain ⟨l, xs, rfl, rfl, hH, q⟩ := h
  cases rx
  have hus := rv.zero
  subst hus
  obtain ⟨z, its, n, r, hl, e⟩ := I.lstM hH
  refine call_meets F.slot_list_reverse ⟨_, e, rfl⟩ F.entry_list_reverse (F.args_list_reverse_1 _) (AutoSeq1.list_reverse_list_0 l its.toArray n (by rw [List.size_toArray]; omega)) ⟨e, ?_⟩
  refine ⟨.non, _, I.lset (its' := its.reverse) hH e (by simp) r.reverse ?_, rfl, q⟩
  rw [List.length_reverse]
  omega

def rClear : V → List V → Hp → VK → Prop := fun x vs H Q => ∃ l xs, x = .ref l ∧ vs = [] ∧ H l = some (.lst xs) ∧ Q .non (upd H l (.lst []))
theorem mt_clear : MtM X "list.clear" rClear := by
  intro pins s σ H x vs v us Q I rx rv h
  obtain ⟨l, xs, rfl, rfl, hH, q⟩ := h
  cases rx
  have hus := rv.zero
  subst hus
  obtain ⟨z, its, n, r, hl, e⟩ := I.lstM hH
  refine call_meets F.slot_list_clear ⟨_, e, rfl⟩ F.entry_list_clear (F.args_list_clear_1 _) (AutoSeq1.list_clear_list_0 l its.toArray n (by rw [List.size_toArray]; omega)) ⟨e, ?_⟩
  exact ⟨.non, _, I.lset (its' := []) (ys := []) hH e rfl .nil (Nat.zero_le _), rfl, q⟩

/-! ### list + list, list += list, list * int -/
def rCat : R2 := fun x y H Q => ∃ l b xs zs, x = .ref l ∧ y = .ref b ∧ H l = some (.lst xs) ∧ H b = some (.lst zs) ∧ xs.length + zs.length ≤ sizeLine ∧ ∀ p, H p = none → Q (.ref p) (upd H p (.lst (xs ++ zs)))
theorem op_cat : OpR X (binaryOp .Add) rCat := by
  intro pins s σ H x y v u Q I rx ry h
  obtain ⟨l, b, xs, zs, rfl, rfl, hH, hB, hz, q⟩ := h
  cases rx
  cases ry
  obtain ⟨z, its, n, r, hl, e⟩ := I.lstM hH
  obtain ⟨z2, its2, n2, r2, hl2, e2⟩ := I.lstM hB
  refine PySem.P.add_list e e2 ?_ (by rw [List.size_toArray, List.size_toArray]; omega)
  have ea : its.toArray ++ its2.toArray = (its ++ its2).toArray := by simp
  rw [ea]
  exact ⟨.ref _, _, I.lnew (t' := s.toks) (r.append r2) (by rw [List.length_append]; omega), rfl, q _ I.fresh⟩
/-- a list times an int (a negative one is nothing) -/
def rRep : R2 := fun x y H Q => ∃ l k xs, x = .ref l ∧ y = .int k ∧ H l = some (.lst xs) ∧ -(2 ^ 63) ≤ k ∧ k < 2 ^ 63 ∧ xs.length * k.toNat ≤ sizeLine ∧
  ∀ p, H p = none → Q (.ref p) (upd H p (.lst (List.replicate k.toNat xs).flatten))
theorem len_rep {α : Type} (xs : List α) (k : Nat) : (List.replicate k xs).flatten.length = k * xs.length := by
  induction k with
  | zero => simp
  | succ k ih => rw [List.replicate_succ, List.flatten_cons, List.length_append, ih, Nat.succ_mul, Nat.add_comm]
theorem op_rep : OpR X (binaryOp .Mult) rRep := by
  intro pins s σ H x y v u Q I rx ry h
  obtain ⟨l, k, xs, rfl, rfl, hH, h1, h2, hz, q⟩ := h
  cases rx
  obtain ⟨t, rfl⟩ := ry
  obtain ⟨z, its, n, r, hl, e⟩ := I.lstM hH
  have hlen : its.toArray.size * k.toNat ≤ sizeLine := by rw [List.size_toArray, ← hl]; exact hz
  have hcap : ¬ its.toArray.size * k.toNat > (2 ^ 63 - 1) / 8 := by
    have : (sizeLine : Nat) ≤ (2 ^ 63 - 1) / 8 := by decide
    omega
  have hfit : ¬ (!Builtin.List.listFitsIndex k) = true := by
    rw [fitsIndex_both h1 h2]
    exact Bool.false_ne_true
  have hlong : ¬ Builtin.List.listTooLong (its.toArray.size * k.toNat) = true := by
    rw [notLongL hlen]
    exact Bool.false_ne_true
  have hnew : List.foldl (fun x1 x2 => x1 ++ x2) #[] (List.replicate (if its.toArray.isEmpty = true then 0 else k.toNat) its.toArray) = (List.replicate k.toNat its).flatten.toArray := by
    have f0 : ∀ m : Nat, List.foldl (fun x1 x2 => x1 ++ x2) #[] (List.replicate m its.toArray) = (List.replicate m its).flatten.toArray := fun m => by
      have := foldl_rep its m []
      rw [List.nil_append] at this
      exact this
    rw [f0]
    cases its with
    | nil => simp
    | cons a r' => rw [if_neg (by simp)]
  refine wpAny_binaryOp_repeat_ref (T := "list") (U := "int") (by decide) ⟨_, e, rfl⟩ (fun s' => typeIs_int s' k t) noFill_list_mul F.fills_int_mul F.slot_int_rmul repeat_list F.slot_int_index.lookup
    (call_meets F.slot_int_rmul (typeIs_int s k t) F.entry_int_rmul (F.args_int_rmul_2 _ _) (int___rmul___int_list k t l its.toArray n)
      ⟨e, rfl, ⟨_, e, rfl⟩, call_meets F.slot_list_mul ⟨_, e, rfl⟩ F.entry_list_mul (F.args_list_mul_2 _ _) (AutoListH.list___mul___list_int_3 l its.toArray n k t hfit hcap hlong) ⟨e, ?_⟩⟩)
  rw [hnew]
  exact ⟨.ref _, _, I.lnew (t' := s.toks) (r.rep k.toNat) (by rw [len_rep, Nat.mul_comm]; exact hz), rfl, q _ I.fresh⟩

/-! ### del xs[i] -/
theorem del_list {pins : List (Addr × Obj)} {s : Shared} {σ : St} {H : Hp} {l : Addr} {xs : List V} {i : Int} {t : Tok} {k : Nat} {Q : Unit → Shared → Prop} (I : Inv X pins σ H s) (hH : H l = some (.lst xs))
    (h1 : -(2 ^ 63) ≤ i) (h2 : i < 2 ^ 63) (hk : seqIndex? i xs.length = some k) (h : ∀ s', Inv X pins σ (upd H l (.lst (xs.eraseIdx k))) s' → Q () s') :
    wpAny (model X.prog X.w) X.A (delItem (.ref l) (.int i t)) Q X.xe s := by
  obtain ⟨z, its, n, r, hl, e⟩ := I.lstM hH
  refine PySem.P.delItem_list (k := k) e (fitsIndex_both h1 h2) (by rw [List.size_toArray, ← hl]; exact hk) (h _ ?_) (by rw [List.size_toArray]; omega)
  refine I.lset (its' := its.eraseIdx k) (t' := s.toks) hH e ?_ (r.eraseIdx k) ?_
  · show its.toArray.eraseIdxIfInBounds k = (its.eraseIdx k).toArray
    rw [List.eraseIdxIfInBounds_toArray]
  · have := len_erase xs k
    omega
end

/-! ### xs[a:b] = ys -/
section
variable {prog : Program} {w : World} {A : Around} {E : Value → Shared → Prop} {s : Shared}
theorem splice_eq (its its2 : List Value) (a c : Nat) : its.toArray.extract 0 a ++ its2.toArray ++ its.toArray.extract c its.toArray.size = (its.take a ++ its2 ++ its.drop c).toArray := by
  apply Array.toList_inj.mp
  first
    | (simp
       exact List.take_of_length_le (by simp))
    | simp [List.take_of_length_le]
    | simp
theorem bounds_run {a c n : Nat} (hac : a ≤ c) (hc : c ≤ n) : sliceBounds (some (a : Int)) (some (c : Int)) none n = ((a : Int), (c : Int), 1) := by
  simp only [sliceBounds, Option.getD_none]
  have h1 : ¬ ((a : Int) < 0) := by omega
  have h2 : ¬ ((c : Int) < 0) := by omega
  simp only [h1, h2, if_false, show (1 : Int) > 0 by decide, if_true]
  congr 1
  · omega
  · congr 1; omega
set_option maxRecDepth 100000 in
/-- list.__setitem__ with a slice of step one and another list -/
theorem setItem_slice {l b sl : Addr} {items new : Array Value} {n n2 : Nat} {vl vu : Value} {a c : Nat} {Q : Unit → Shared → Prop}
    (e : s.heap.get? l = some { cls := .type "list", data := .seq items n }) (e2 : s.heap.get? b = some { cls := .type "list", data := .seq new n2 }) (hne : l ≠ b)
    (hs : s.heap.IsSliceOf sl vl vu .none) (pl : IsPart vl (some (a : Int))) (pu : IsPart vu (some (c : Int))) (hac : a ≤ c) (hc : c ≤ items.size)
    (hsz : items.size + new.size ≤ sizeLine) (h : Q () { s with heap := s.heap.update l (Obj.mapSeq fun xs => xs.extract 0 a ++ new ++ xs.extract c xs.size) }) :
    wpAny (model prog w) A (setItem (.ref l) (.ref sl) (.ref b)) Q E s := by
  have hl : s.heap.IsList l items := PySem.IsL.isList e
  have hb : s.heap.IsList b new := PySem.IsL.isList e2
  obtain ⟨os, hos, hcs, hds⟩ := id hs
  have hTs : s.TypeIs (.ref sl) "slice" := ⟨os, hos, hcs⟩
  have hstep : ¬ ((rawPart none == rawInt 0) = true) := Bool.false_ne_true
  have hsame : Builtin.List.listSameRef (.ref l) (.ref b) = false := by
    unfold Builtin.List.listSameRef
    exact beq_eq_false_iff_ne.mpr hne
  have hmax : (max (a : Int) (c : Int)).toNat = c := by omega
  have hz' : ((fun xs : Array Value => xs.extract 0 a ++ new ++ xs.extract c xs.size) items).size ≤ sizeLine + 1 := by
    simp only [Array.size_append, Array.size_extract]
    omega
  unfold setItem
  try with_reducible refine wpAny_holding ?_
  first | refine wpAny_bind (wpAny_pure ?_) | skip
  refine wpAny_bind (wpAny_sequenceKey hl.typeIs (by decide) ?_)
  refine wpAny_bind (wpAny_callSpecial?_slot (name := Str.ofString "__setitem__") hl.typeIs slot_list_setitem
    (wpAny_call_entry slot_list_setitem hl.typeIs entry_list_setitem ?_ (args_list_setitem _ _ _)))
  show wpAny _ _ (Builtin.List.listSubscript? (.ref sl) >>= _) _ _ s
  refine wpAny_bind ?_
  unfold Builtin.List.listSubscript?
  refine wpAny_bind (wpAny_specialOf hTs slice_no_index ?_)
  simp only [Option.isNone_none, if_true]
  refine wpAny_pure ?_
  show wpAny _ _ (typeOf (.ref sl) >>= _) _ _ s
  refine wpAny_bind (wpAny_typeOf hTs ?_)
  first
    | rw [if_neg (by decide)]
    | refine PySem.W.KFB.if_not (by decide) ?_
  rw [listSliceParts_eq]
  refine wpAny_bind (wpAny_bind (wpAny_field hos hds (x := .none) rfl (wpAny_bind (wpAny_listPart .none ?_))))
  rw [if_neg hstep]
  refine wpAny_bind (wpAny_field hos hds (x := vl) rfl (wpAny_bind (wpAny_listPart pl ?_)))
  refine wpAny_bind (wpAny_field hos hds (x := vu) rfl (wpAny_bind (wpAny_listPart pu (wpAny_pure ?_))))
  first
    | simp only [hsame, Bool.false_eq_true, if_false]
    | refine PySem.W.KFB.if_not hsame ?_
    | (dsimp only
       rw [if_neg (by rw [hsame]; exact Bool.false_ne_true)])
  refine wpAny_bind (m := Builtin.List.listAllItems (.ref b) "must assign iterable to extended slice") ?_
  unfold Builtin.List.listAllItems
  refine wpAny_bind (wpAny_typeOf hb.typeIs ?_)
  first
    | refine PySem.W.KFB.if_so (by decide) ?_
    | rw [if_pos (by decide)]
    | simp only [beq_self_eq_true, Bool.true_or, if_true]
  unfold Builtin.List.listItems
  refine wpAny_bind (wpAny_seqItems e2 rfl (wpAny_pure ?_))
  refine wpAny_bind (wpAny_bind (wpAny_seqItems e rfl (wpAny_pure ?_)))
  refine wpAny_bind (wpAny_of_eq ((sliceIndices_raw (some (a : Int)) (some (c : Int)) none items.size (by simp)).trans (congrArg (pure : Int × Int × Int → Sem (Int × Int × Int)) (bounds_run hac hc))) ?_)
  show wpAny _ _ (if ((1 : Int) == 1) = true then _ else _) _ _ s
  rw [if_pos (by decide)]
  refine wpAny_bind (wpAny_rule ?_)
  first
    | simp only [notLongL hsz, Bool.false_eq_true, if_false]
    | refine PySem.W.KFB.if_not (notLongL hsz) ?_
  first | refine wpAny_bind (wpAny_pure ?_) | skip
  show wpAny _ _ (updateSeq l (fun xs => xs.extract 0 ((a : Int)).toNat ++ new ++ xs.extract (max (a : Int) (c : Int)).toNat xs.size) >>= _) _ _ s
  rw [hmax, Int.toNat_natCast]
  refine wpAny_bind (wpAny_updateSeq (hz := Nat.le_trans (Nat.le_add_right _ _) hsz) (_hz' := hz') e rfl ?_)
  refine wpAny_bind (wpAny_letGo ?_)
  first
    | exact wpAny_bind (wpAny_pure (wpAny_pure ⟨.none, rfl, wpAny_pure h⟩))
    | exact wpAny_pure ⟨.none, rfl, wpAny_pure h⟩
end

section
variable {X : Cx}
/-- xs[a:c] = ys of another list, at the value level: sl is the slice object that was just made -/
theorem set_slice {pins : List (Addr × Obj)} {s : Shared} {σ : St} {H : Hp} {l b sl : Addr} {xs ys : List V} {a c : Int} {vl vu : Value} {Q : Unit → Shared → Prop} (I : Inv X pins σ H s)
    (hH : H l = some (.lst xs)) (hB : H b = some (.lst ys)) (hne : l ≠ b) (hs : s.heap.IsSliceOf sl vl vu .none) (ra : RelV (.int a) vl) (rc : RelV (.int c) vu) (h0 : 0 ≤ a) (hac : a ≤ c) (hc : c ≤ xs.length)
    (hz : xs.length + ys.length ≤ sizeLine) (h : ∀ s', Inv X pins σ (upd H l (.lst (xs.take a.toNat ++ ys ++ xs.drop c.toNat))) s' → Q () s') :
    wpAny (model X.prog X.w) X.A (setItem (.ref l) (.ref sl) (.ref b)) Q X.xe s := by
  obtain ⟨ta, rfl⟩ := ra
  obtain ⟨tc, rfl⟩ := rc
  obtain ⟨z, its, n, r, hl, e⟩ := I.lstM hH
  obtain ⟨z2, its2, n2, r2, hl2, e2⟩ := I.lstM hB
  obtain ⟨a', rfl⟩ := Int.eq_ofNat_of_zero_le h0
  obtain ⟨c', rfl⟩ := Int.eq_ofNat_of_zero_le (Int.le_trans h0 hac)
  simp only [Int.toNat_natCast] at h
  refine setItem_slice (a := a') (c := c') e e2 hne hs (.int _ _) (.int _ _) (by omega) (by rw [List.size_toArray]; omega) (by rw [List.size_toArray, List.size_toArray]; omega) (h _ ?_)
  refine I.lset (its' := its.take a' ++ its2 ++ its.drop c') (t' := s.toks) hH e ?_ (Vals.append (Vals.append (r.take _) r2) (r.drop _)) ?_
  · exact splice_eq its its2 a' c'
  · rw [List.length_append, List.length_append, List.length_take, List.length_drop]
    omega
end
end L2

namespace Att
open PySem PySem.W PySem.Calls PyProof.Rows

/-! ### the script -/
theorem ints_of_wellAll {P : Params} {h : Heap} : ∀ (ns : List Int) (vs : List Value), WellAll P h vs (ns.map WData.int) → IntsAre vs ns := by
  intro ns
  induction ns with
  | nil =>
    intro vs w
    rw [List.map_nil] at w
    cases w
    exact .nil
  | cons n ns ih =>
    intro vs w
    rw [List.map_cons] at w
    cases w with
    | cons a b =>
      cases a
      exact .cons _ _ (ih _ b)

theorem script_of {l : OpenLaw} {n : Nat} (hn : l.most = some n) {P : Params} {h : Heap} {args : List WData} {vals : List Value}
    (hpre : l.row.toRowW.claim.pre args = true) (hwl : WellAll P h vals args) :
    ∃ a vs ns, vals = [Value.ref a] ∧ args = [WData.list (ns.map WData.int)] ∧ h.get? a = some { cls := .type "list", data := .seq vs.toArray } ∧ IntsAre vs ns ∧ ns.length ≤ n := by
  have hsh : WShape.hasAll [] args [.list .int] = true := (pre_splitW hpre).1
  have hc : l.pre.holds [] { args := args } = true := (pre_splitW hpre).2
  obtain ⟨d, r, rfl, h1, h2⟩ := hasAllW_cons hsh
  obtain rfl := hasAllW_nil h2
  obtain ⟨xs, rfl, h3⟩ := hasW_list h1
  obtain ⟨ns, rfl⟩ := items_int h3
  have hlen : ns.length ≤ n := by
    unfold OpenLaw.pre at hc
    have h4 : (WTm.not (.lt (.lit (.int (n : Int))) (.len (.arg 0)))).holds [] { args := [.list (ns.map .int)] } = true := by
      have h4 := (holds_andW hc).1
      rw [hn] at h4
      exact h4
    have h5 := condW_of h4 (w_not (w_lt w_lit (w_len_list (w_arg rfl))))
    rw [List.length_map] at h5
    refine Nat.le_of_not_lt fun q => ?_
    have q' : (n : Int) < ((ns.length : Nat) : Int) := by omega
    first
      | (rw [decide_eq_true q'] at h5; exact absurd h5 (by decide))
      | (simp at h5; omega)
  cases hwl with
  | cons w1 w2 =>
    cases w2
    cases w1 with
    | list ho hall => exact ⟨_, _, ns, rfl, rfl, ho, ints_of_wellAll ns _ hall, hlen⟩

theorem post_true (l : OpenLaw) (args : List WData) : l.row.toRowW.claim.post args (.bool true) args = true :=
  postW_of (r := l.row.toRowW) (X := (true == true))
    (show WShape.has [] (.bool true) .bool = true by first | rfl | decide | simp [WShape.has, WShape.arms, WShape.armsAll])
    (show (WTm.eq .res (.lit (.bool true))).value [] { args := args, res := some (.bool true), after := args } = some (.bool (true == true)) from w_eq_bool (w_res rfl) w_lit) rfl

/-! ### the attachment: holds_open's last premise (the goal 'hc' behind k_head) from a wpAny of the law's body -/
theorem attach {l : OpenLaw} {n : Nat} {q : Program} {loose : List Str} {XP : (Str → Option Value) → Heap → Prop} {YP : World → Heap → Prop} {d : DefRec} {x : Str}
    (hn : l.most = some n) (hdf : d.params.defaults = [])
    (hbind : ∀ pm cd doc v : Value, bindArgs (docDef d.name d.params d.body d.scope pm cd doc) ⟨[v], []⟩ = pure [(x, v)])
    (hx : d.scope.names.lookup x = some .local ∨ d.scope.names.lookup x = some .cell)
    (hk : d.scope.kind = .function) (hco : d.scope.isCoroutine = false) (hgen : d.scope.isGenerator = false)
    (body : ∀ (w : World) (s₀ s₁ s : Shared) (mg mb : Str → Option Value) (fa : Addr) (o : Obj) (pm cd doc : Value) (a : Addr) (vs : List Value) (ns : List Int),
      Ground q loose [] XP w s₀ mg mb s₁.heap → YP w s₁.heap →
      s₁.heap.get? fa = some o → o.data = .func (docDef d.name d.params d.body d.scope pm cd doc) → s₁.heap.CodeRec cd d.name → mg d.name = some (.ref fa) →
      s₁.heap.get? a = some { cls := .type "list", data := .seq vs.toArray } → IntsAre vs ns → ns.length ≤ n →
      s.gens = #[] → s.os = s₁.os →
      Fr s₁.heap s₁.heap.objs.size s.heap (bindL (envOfC d.name d.scope s₁.heap.objs.size fa cd).kindOf [(x, .ref a)] fun _ => none) →
      Cl s₁.heap.objs.size (cellsFrom (s₁.heap.objs.size + 1) d.scope.names []) s.heap (bindC (envOfC d.name d.scope s₁.heap.objs.size fa cd).kindOf [(x, .ref a)] fun _ => none) →
      wpAny (model l.prog w) (callerA.deeper (envOfC d.name d.scope s₁.heap.objs.size fa cd)) (execs d.body (envOfC d.name d.scope s₁.heap.objs.size fa cd))
        (fun f s' => f = .ret (.bool true) ∧ OldK s₁.heap s'.heap ∧ s'.os = s₁.os ∧ AllBare s'.gens) (fun _ _ => False) s) :
    WalkO q loose XP YP l.row.toRowW d [] (fun f vs => PySem.call f vs) := by
  intro w s₀ s₁ mg mb G Y fa o pm cd doc dV kV ho hd hcd hD hmg hg args vals as hpre hlay hrd hwl hlo
  obtain rfl : dV = .none := Dflts.none hD hdf
  obtain rfl : kV = .none := Dflts.noKw hD
  obtain ⟨a, vs, ns, rfl, rfl, hobj, hints, hlen⟩ := script_of hn hpre hwl
  refine enter_call ?_
  refine call_cells_ret (o := o) (by rw [depth_caller]; decide) ho (fd_plain hd) G.T.nolimit hcd (hbind pm cd doc (.ref a)) (fun y hy => ?_) (fun h₁ tk F X => ?_) hco hgen hk
  · obtain rfl : y = (x, Value.ref a) := List.mem_singleton.mp hy
    rcases hx with e | e
    · exact .inl e
    · exact .inr ⟨e, cellsFrom_some _ _ _ (.inl e)⟩
  · refine wpAny_mono (body w s₀ s₁ { s₁ with heap := h₁, toks := tk } mg mb fa o pm cd doc a vs ns G Y ho (fd_plain hd) hcd hmg hobj hints hlen hg rfl F X) (fun f s' hq => ?_) (fun _ _ hq => hq)
    obtain ⟨rfl, h2, h3, h4⟩ := hq
    exact ⟨.inl ⟨.bool true, .bool true, [], rfl, fun _ => rfl, .bool true, post_true l _, fun _ => ⟨List.Pairwise.nil, fun _ hm => (nomatch hm)⟩⟩, h2, h3, h4⟩

/-- the same from a codeAny of the CALL (for a layer whose function contracts speak of calls) -/
theorem attach_call {l : OpenLaw} {n : Nat} {q : Program} {loose : List Str} {XP : (Str → Option Value) → Heap → Prop} {YP : World → Heap → Prop} {d : DefRec}
    (hn : l.most = some n) (hdf : d.params.defaults = [])
    (call : ∀ (w : World) (s₀ s₁ : Shared) (mg mb : Str → Option Value) (fa : Addr) (o : Obj) (pm cd doc : Value) (a : Addr) (vs : List Value) (ns : List Int),
      Ground q loose [] XP w s₀ mg mb s₁.heap → YP w s₁.heap →
      s₁.heap.get? fa = some o → o.data = .func (docDef d.name d.params d.body d.scope pm cd doc) → s₁.heap.CodeRec cd d.name → mg d.name = some (.ref fa) →
      s₁.heap.get? a = some { cls := .type "list", data := .seq vs.toArray } → IntsAre vs ns → ns.length ≤ n → s₁.gens = #[] →
      codeAny (model l.prog w) callerA (.call (.ref fa) ⟨[.ref a], []⟩) (fun r s' => r = .ok (.ret (.bool true)) ∧ OldK s₁.heap s'.heap ∧ s'.os = s₁.os ∧ AllBare s'.gens) s₁) :
    WalkO q loose XP YP l.row.toRowW d [] (fun f vs => PySem.call f vs) := by
  intro w s₀ s₁ mg mb G Y fa o pm cd doc dV kV ho hd hcd hD hmg hg args vals as hpre hlay hrd hwl hlo
  obtain rfl : dV = .none := Dflts.none hD hdf
  obtain rfl : kV = .none := Dflts.noKw hD
  obtain ⟨a, vs, ns, rfl, rfl, hobj, hints, hlen⟩ := script_of hn hpre hwl
  refine enter_call (codeAny_mono (call w s₀ s₁ mg mb fa o pm cd doc a vs ns G Y ho (fd_plain hd) hcd hmg hobj hints hlen hg) fun r s' hq => ?_)
  obtain ⟨rfl, h2, h3, h4⟩ := hq
  exact ⟨.inl ⟨.bool true, .bool true, [], rfl, fun _ => rfl, .bool true, post_true l _, fun _ => ⟨List.Pairwise.nil, fun _ hm => (nomatch hm)⟩⟩, h2, h3, h4⟩

/-- the same where the top left finished generators (o_head chose holds_openN): nothing may have changed at all and no generator may be left -/
theorem attachN {l : OpenLaw} {n : Nat} {q : Program} {loose : List Str} {XP : (Str → Option Value) → Heap → Prop} {YP : World → Heap → Prop} {d : DefRec} {x : Str}
    (hn : l.most = some n) (hdf : d.params.defaults = [])
    (hbind : ∀ pm cd doc v : Value, bindArgs (docDef d.name d.params d.body d.scope pm cd doc) ⟨[v], []⟩ = pure [(x, v)])
    (hx : d.scope.names.lookup x = some .local ∨ d.scope.names.lookup x = some .cell)
    (hk : d.scope.kind = .function) (hco : d.scope.isCoroutine = false) (hgen : d.scope.isGenerator = false)
    (body : ∀ (w : World) (s₀ s₁ s : Shared) (mg mb : Str → Option Value) (fa : Addr) (o : Obj) (pm cd doc : Value) (a : Addr) (vs : List Value) (ns : List Int),
      Ground q loose [] XP w s₀ mg mb s₁.heap → YP w s₁.heap →
      s₁.heap.get? fa = some o → o.data = .func (docDef d.name d.params d.body d.scope pm cd doc) → s₁.heap.CodeRec cd d.name → mg d.name = some (.ref fa) →
      s₁.heap.get? a = some { cls := .type "list", data := .seq vs.toArray } → IntsAre vs ns → ns.length ≤ n →
      s.gens = #[] → s.os = s₁.os →
      Fr s₁.heap s₁.heap.objs.size s.heap (bindL (envOfC d.name d.scope s₁.heap.objs.size fa cd).kindOf [(x, .ref a)] fun _ => none) →
      Cl s₁.heap.objs.size (cellsFrom (s₁.heap.objs.size + 1) d.scope.names []) s.heap (bindC (envOfC d.name d.scope s₁.heap.objs.size fa cd).kindOf [(x, .ref a)] fun _ => none) →
      wpAny (model l.prog w) (callerA.deeper (envOfC d.name d.scope s₁.heap.objs.size fa cd)) (execs d.body (envOfC d.name d.scope s₁.heap.objs.size fa cd))
        (fun f s' => f = .ret (.bool true) ∧ (∀ b o, s₁.heap.get? b = some o → s'.heap.get? b = some o) ∧ s'.os = s₁.os ∧ s'.gens = #[]) (fun _ _ => False) s) :
    WalkN q loose XP YP l.row.toRowW d [] (fun f vs => PySem.call f vs) := by
  intro w s₀ s₁ mg mb G Y fa o pm cd doc dV kV ho hd hcd hD hmg hg args vals as hpre hlay hrd hwl hlo
  obtain rfl : dV = .none := Dflts.none hD hdf
  obtain rfl : kV = .none := Dflts.noKw hD
  obtain ⟨a, vs, ns, rfl, rfl, hobj, hints, hlen⟩ := script_of hn hpre hwl
  refine enter_callW ?_
  refine call_cells_ret (o := o) (by rw [depth_caller]; decide) ho (fd_plain hd) G.T.nolimit hcd (hbind pm cd doc (.ref a)) (fun y hy => ?_) (fun h₁ tk F X => ?_) hco hgen hk
  · obtain rfl : y = (x, Value.ref a) := List.mem_singleton.mp hy
    rcases hx with e | e
    · exact .inl e
    · exact .inr ⟨e, cellsFrom_some _ _ _ (.inl e)⟩
  · refine wpAny_mono (body w s₀ s₁ { s₁ with heap := h₁, toks := tk } mg mb fa o pm cd doc a vs ns G Y ho (fd_plain hd) hcd hmg hobj hints hlen hg rfl F X) (fun f s' hq => ?_) (fun _ _ hq => hq)
    obtain ⟨rfl, h2, h3, h4⟩ := hq
    exact ⟨.inl ⟨.bool true, .bool true, [], rfl, fun _ => rfl, .bool true, post_true l _, fun _ => ⟨List.Pairwise.nil, fun _ hm => (nomatch hm)⟩⟩, h2, h3, h4⟩

/-! ### rules over ANY heap (no ledger) from facts about the written part K: the library's own take a ledger (News) for what they write -/
section
variable {prog : Program} {w : World} {A : Around} {E : Value → Shared → Prop} {s : Shared} {K : Frag}

/-- a def of the module, or a method (qual 'C.m'), entered: the frame is the next address; cells behind it -/
theorem call_fn {R : Result → Shared → Prop} {name qual : Str} {params : Arguments} {body : List Stmt} {scope : Scope} {dV kV doc pm cdv ct oc : Value} {an od : Option Addr} {osl : Array (Option Value)} {f : Addr} {args : Args} {binds : List (Str × Value)}
    (X : K.In s.heap) (hlim : s.heap.NoLimit) (ho : K.lookup f = some ⟨oc, od, .func (fnOf name qual params body scope dV kV doc pm an cdv ct), osl⟩) (hcd : codeIn K cdv qual = true) (hroom : A.depth < recursionLimit)
    (hbind : BindsTo s (fnOf name qual params body scope dV kV doc pm an cdv ct) args binds)
    (hkind : (binds.all fun y => scope.names.lookup y.1 == some .local || scope.names.lookup y.1 == some .cell) = true)
    (h : ∀ s₁, InCallC s s.heap.objs.size (bindL (envOfC qual scope s.heap.objs.size f cdv).kindOf binds fun _ => none) (cellsFrom (s.heap.objs.size + 1) scope.names [])
        (bindC (envOfC qual scope s.heap.objs.size f cdv).kindOf binds fun _ => none) s₁ →
      wpAny (model prog w) (A.deeper (envOfC qual scope s.heap.objs.size f cdv)) (execs body (envOfC qual scope s.heap.objs.size f cdv))
        (fun fl s' => R (.ok (.ret (match fl with | .ret v => v | _ => .none))) s')
        (fun e s' => wpAny (model prog w) (A.deeper (envOfC qual scope s.heap.objs.size f cdv)) (leaving (envOfC qual scope s.heap.objs.size f cdv) e) (fun _ s'' => R (.error e) s'') (fun e' s'' => R (.error e') s'') s') s₁)
    (hco : scope.isCoroutine = false) (hgen : scope.isGenerator = false) (hk : scope.kind = .function) : codeAny (model prog w) A (.call (.ref f) args) R s := by
  refine codeAny_call_function hroom (X _ _ ho) rfl hco hgen rfl (codeRec_of X hcd) (hbind _ _ _ _ ?_)
  refine wpAny_newFunctionEnv_cells hk (kindsX hkind _) fun env he s₁ x => ?_
  subst he
  exact ⟨hlim.keeps x.toInCall.keep, codeAny_func (h s₁ x)⟩

/-- C(..): dict at size, instance at size + 1, then __init__ -/
theorem make_obj {R : Result → Shared → Prop} {C fI : Addr} {rest : List Value} {kw : List (Str × Value)}
    (X : K.In s.heap) (hm : makesIn K C = true) (hi : findIn K (.ref C) "__init__" = some (some (.ref fI))) (hf : isFn K (.ref fI) = true)
    (h : codeAny (model prog w) (A.under (.builtin "type.__call__" ⟨.ref C :: rest, kw⟩)) (.call (.ref fI) ⟨.ref (s.heap.objs.size + 1) :: rest, kw⟩) (InitBack (s.heap.objs.size + 1) R)
      { s with heap := (s.heap.push emptyDict).push (instObj C s.heap.objs.size) }) : codeAny (model prog w) A (.call (.ref C) ⟨rest, kw⟩) R s := by
  obtain ⟨hh, g, d, t, os⟩ := s
  exact make_core (makes_of X hm) (looks_findIn X hi) (fun self => bind_fn X self (beq_iff_eq.mp hf)) (.inl rfl) h

/-- x.name where the instance's dict holds the name and the class does not -/
theorem get_field {x C : Addr} {ox : Obj} {es : List DictEntry} {n : Nat} {name : Str} {expr : Bool} {v : Value} {Q : Value → Shared → Prop}
    (X : K.In s.heap) (I : PySem.W.InstAt s.heap x ox C (some (dictOf es n))) (hg : plainGet K C name = true) (hh : hasDictIn K C = true) (ha : findIn K (.ref C) name = some none)
    (hl : getL name es = some (some v)) (hv : handedIn v = true) (h : Q v { s with toks := s.toks + 1 }) : wpAny (model prog w) A (getAttr (.ref x) name expr) Q E s :=
  get_value X I (plainGet_of hg).1 (findObj_own hh ha rfl hl) hv h

/-- x.m(..): the method found in the class -/
theorem get_method {x C f : Addr} {ox : Obj} {es : List DictEntry} {n : Nat} {name : Str} {pl : Sem Bool} {Q : Value × List Value → Shared → Prop}
    (X : K.In s.heap) (I : PySem.W.InstAt s.heap x ox C (some (dictOf es n))) (hg : plainGet K C name = true) (hf : findIn K (.ref C) name = some (some (.ref f))) (ht : isFn K (.ref f) = true)
    (hl : getL name es = some none) (h : Q (.ref f, [.ref x]) s) : wpAny (model prog w) A (getMethod (.ref x) name pl) Q E s :=
  method_fn X I (plainGet_of hg).1 (plainGet_of hg).2 hf (beq_iff_eq.mp ht) (by show (lookIn name (dictOf es n)).map _ = _; rw [lookIn_dict, hl]; rfl) h

/-! the whole heap as the ledger: makes every rule that writes through a ledger a rule over any heap -/
def noObjs (h : Heap) : Heap := { h with objs := #[] }
theorem noObjs_get (h : Heap) (b : Addr) : (noObjs h).get? b = none := by
  cases e : (noObjs h).get? b with
  | none => rfl
  | some o => exact absurd (Heap.lt_size e) (Nat.not_lt_zero _)
def ledger (h : Heap) (L d : Addr) : List (Addr × Obj) := (List.range h.objs.size).filterMap fun a => if a = L ∨ a = d then none else (h.get? a).map fun o => (a, o)
theorem mem_ledger {h : Heap} {L d a : Addr} {o : Obj} : (a, o) ∈ ledger h L d ↔ a ≠ L ∧ a ≠ d ∧ h.get? a = some o := by
  unfold ledger
  rw [List.mem_filterMap]
  constructor
  · rintro ⟨b, _, e⟩
    split at e
    · cases e
    · rename_i hb
      obtain ⟨o', ho, e'⟩ := Option.map_eq_some_iff.mp e
      cases e'
      exact ⟨fun q => hb (.inl q), fun q => hb (.inr q), ho⟩
  · rintro ⟨n1, n2, ho⟩
    refine ⟨a, List.mem_range.mpr (Heap.lt_size ho), ?_⟩
    rw [if_neg (show ¬ (a = L ∨ a = d) from fun q => q.elim n1 n2), ho] <;> rfl
theorem news_ledger {h : Heap} {L d : Addr} {od : Obj} (hne : d ≠ L) (ho : h.get? d = some od) : News (noObjs h) L h ([] ++ (d, od) :: ledger h L d) := by
  rintro ⟨a, o⟩ hp
  rcases List.mem_cons.mp hp with e | hp
  · cases e
    exact ⟨ho, hne, noObjs_get _ _⟩
  · obtain ⟨n1, n2, e⟩ := mem_ledger.mp hp
    exact ⟨e, n1, noObjs_get _ _⟩
theorem fr_all {h : Heap} {L : Addr} {m : Str → Option Value} (n : h.Ns L m) : Fr (noObjs h) L h m :=
  ⟨n, fun b o e => (by rw [noObjs_get] at e; cases e), Nat.zero_le _⟩
/-- Upd of the head entry (for append_K, setItem_K ..) -/
theorem upd_ledger {h : Heap} {L d : Addr} {o o' : Obj} : Upd d o o' ((d, o) :: ledger h L d) ((d, o') :: ledger h L d) :=
  .head fun ⟨_, _⟩ hp => (mem_ledger.mp hp).2.1

/-- x.name = v over any heap: L is any namespace of the heap (the frame's, say): its map stays, its object is not told; all else but the dict stays -/
theorem set_field {x C dx L : Addr} {ox : Obj} {m : Str → Option Value} {es es' : List DictEntry} {n n' : Nat} {name : Str} {v : Value} {Q : Unit → Shared → Prop}
    (X : K.In s.heap) (I : PySem.W.InstAt s.heap x ox C (some (dictOf es n))) (hd : ox.dict = some dx) (hL : s.heap.Ns L m) (hne : dx ≠ L)
    (hs : findIn K (.ref C) "__setattr__" = some (some (.builtin "object.__setattr__"))) (hp : plainOver K C = true) (ht : takerIn K C name = some none) (hh : hasDictIn K C = true) (hl : (getL name es).isSome = true)
    (e : (putL name (PyData.keyHash w.params name) (.str name (s.toks + 1)) v es, putN name es n) = (es', n')) (hz : es'.length ≤ 1000)
    (h : ∀ h' : Heap, h'.Ns L m → h'.get? dx = some (dictOf es' n') → (∀ b o, b ≠ dx → b ≠ L → s.heap.get? b = some o → h'.get? b = some o) → Q () { s with heap := h', toks := s.toks + 2 }) :
    wpAny (model prog w) A (setAttr (.ref x) name v) Q E s := by
  obtain ⟨e1, e2⟩ := Prod.mk.inj e
  have hdx : s.heap.get? dx = some (dictOf es n) := by
    have := I.dict
    rw [hd] at this
    exact this
  refine set_plain X I hs (osa_dict (s := { s with toks := s.toks + 1 }) (h₀ := noObjs s.heap) (L := L) (m := m) (od := dictOf es n) (od' := dictOf es' n') (es := es') (n := n') (pre := []) (post := ledger s.heap L dx)
    (fr_all hL) (news_ledger hne hdx) X I hd hp ht hh hl (fun _ q => nomatch q) (fun ⟨_, _⟩ q => (mem_ledger.mp q).2.1) (by rw [putName_dict, e1, e2]) rfl hz fun h' F' N' => ?_)
  exact h h' F'.ns (N'.get (List.Mem.head _)) fun b o n1 n2 ho => N'.get (List.Mem.tail _ (mem_ledger.mpr ⟨n2, n1, ho⟩))
end
end Att

namespace L2
open PySem PySem.Spec PyProof.Rows

theorem vals_ints : ∀ {vs : List Value} {ns : List Int}, IntsAre vs ns → Vals (ns.map V.int) vs
  | _, _, .nil => .nil
  | _, _, .cons n t h => .cons ⟨t, rfl⟩ (vals_ints h)

/-- nothing is tracked but the script, known to the object (or it is an object of the module) -/
def Only (H : Hp) : Prop := ∀ b, H b = none ∨ ∃ o xs, H b = some (.frz o (.lst xs))

/-- THE HEAD: the law's promise, at the heap behind the top. F, the promise of the law's def, may use that base is part of the heap (so K.In base, base.Ns mainGlobals mg stand in Mod) -/
theorem law_call {P : Program} {w : World} {K : PySem.W.Frag} {mg mb : Str → Option Value} {CX : CXT} {k : Nat} {fa a : Addr} {fd : FuncData} {x : Str} {sp : Sp} {s₁ : Shared} {vs : List Value} {ns : List Int}
    (KX : K.In s₁.heap) (hns : s₁.heap.Ns mainGlobals mg) (hb : s₁.heap.Ns builtinsNs mb) (hbb : ∀ x : Str, x ≠ "__name__" → mb x = bootBuiltins x) (hlim : s₁.heap.NoLimit) (hg : s₁.gens = #[])
    (ha : s₁.heap.get? a = some { cls := .type "list", data := .seq vs.toArray }) (hi : IntsAre vs ns) (hl : ns.length ≤ sizeLine) (hr : Room k callerA)
    (F : ∀ base : Heap, K.In base → base.Ns mainGlobals mg → FnOk P w K mg base CX k fa fd [x] sp) (hbind : ∀ (s : Shared) (u : Value), BindsTo s fd ⟨[u], []⟩ [(x, u)])
    (hsp : ∀ H : Hp, Only H → SqL K H a (ns.map V.int) → sp [.ref a] H (fun v _ => v = .bl true) fun _ _ _ => False)
    (hCX : ∀ H e s', CX [] H s₁ (fun _ _ _ => False) e s' → False) :
    codeAny (model P w) callerA (.call (.ref fa) ⟨[.ref a], []⟩) (fun r s' => r = .ok (.ret (.bool true)) ∧ OldK s₁.heap s'.heap ∧ s'.os = s₁.os ∧ AllBare s'.gens) s₁ := by
  have rv := vals_ints hi
  have lenV := hi.length
  -- from an abstract heap in which nothing but the script may be tracked
  have core : ∀ H : Hp, Only H → SqL K H a (ns.map V.int) → HOk P w H s₁.heap → (∀ b, H b ≠ none → b = a) → (H a ≠ none → K.lookup a = none) →
      codeAny (model P w) callerA (.call (.ref fa) ⟨[.ref a], []⟩) (fun r s' => r = .ok (.ret (.bool true)) ∧ OldK s₁.heap s'.heap ∧ s'.os = s₁.os ∧ AllBare s'.gens) s₁ := by
    intro H hO hS hok hA hK
    have base_of : ∀ {b : Addr} {o : Obj}, s₁.heap.get? b = some o → H b = none → (hidT s₁.heap H).get? b = some o := fun e n => hidT_get e n
    have noA : ∀ {b : Addr} {o : Obj} {es : Array DictEntry} {ep : Nat}, s₁.heap.get? b = some o → o.data = .dict es ep → H b = none := fun {b o es ep} e d => by
      cases q : H b with
      | none => rfl
      | some u =>
        have e' : b = a := hA b (by rw [q]; simp)
        subst e'
        rw [ha] at e; cases e
        have d' : Data.seq vs.toArray _ = Data.dict es ep := d
        cases d'
    have nsK : ∀ {b : Addr} {m : Str → Option Value}, s₁.heap.Ns b m → (hidT s₁.heap H).Ns b m := fun {b m} ⟨o, es, ep, e, d, r⟩ => ⟨o, es, ep, base_of e (noA e d), d, r⟩
    have hKb : K.In (hidT s₁.heap H) := fun b o e => base_of (KX b o e) (by
      cases q : H b with
      | none => rfl
      | some u =>
        have e' : b = a := hA b (by rw [q]; simp)
        subst e'
        rw [hK (by rw [q]; simp)] at e; cases e)
    have hM : Mod K mg (hidT s₁.heap H) := ⟨hKb, nsK hns, ⟨mb, nsK hb, hbb⟩, let ⟨mc, h1, h2⟩ := hlim; ⟨mc, nsK h1, h2⟩⟩
    have e0 : Env0 P w K mg (hidT s₁.heap H) callerA [] s₁ H := ⟨rfl, hM, fun b o e => of_hidT e, Nat.le_of_eq (hidT_size _ _), trivial, fun b hb => absurd (show b ∈ ([] : List Addr) from hb) (by simp), hok, .of_eq hg⟩
    refine codeAny_mono ((F _ hKb (nsK hns)).run callerA [] s₁ H ⟨[.ref a], []⟩ [.ref a] [.ref a] _ _ hr e0 (hbind s₁ (.ref a)) (.cons rfl .nil) (hsp H hO hS)) fun r s' h => ?_
    cases r with
    | error e => exact (hCX H e s' h).elim
    | ok fl =>
      cases fl with
      | next => exact False.elim h
      | brk => exact False.elim h
      | cont => exact False.elim h
      | ret u =>
        obtain ⟨v, H', os, bare, un, hok', r', q⟩ := h
        have q' : v = .bl true := q
        subst q'
        obtain rfl : u = Value.bool true := r'
        refine ⟨rfl, OldK.of_keep fun b o e => ?_, os, bare⟩
        cases q : H b with
        | none => exact un.keep b o e q (by intro z; exact absurd (show b ∈ ([] : List Addr) from z) (by simp)) (by simp)
        | some u =>
          rcases hO b with z | ⟨ob, xs, z⟩
          · rw [q] at z; cases z
          · have z2 := un.frzs b ob _ z
            obtain ⟨e1, _⟩ := hok b _ z
            obtain ⟨e2, _⟩ := hok' b _ z2
            rw [e] at e1; cases e1
            exact e2
  cases hk : K.lookup a with
  | some o =>
    -- the script is one of the module's own objects
    have e := KX a o hk
    rw [ha] at e
    cases e
    refine core (fun _ => none) (fun _ => .inl rfl) (.inr ⟨_, vs.toArray, _, hk, rfl, rfl, rfl, by rw [List.size_toArray, lenV]; exact hl, by simpa using rv⟩) (fun b u z => by have z' : (none : Option HO) = some u := z; cases z') (fun b z => absurd rfl z) fun z => absurd rfl z
  | none =>
    refine core (fun b => if b = a then some (.frz { cls := .type "list", data := .seq vs.toArray } (.lst (ns.map V.int))) else none) (fun b => ?_) (.inl (.inr ⟨{ cls := .type "list", data := .seq vs.toArray }, if_pos rfl⟩)) (fun b u z => ?_) (fun b z => ?_) fun _ => hk
    · by_cases hb : b = a
      · exact .inr ⟨_, _, if_pos hb⟩
      · exact .inl (if_neg hb)
    · by_cases hb : b = a
      · have z' := (if_pos hb).symm.trans z
        cases z'
        subst hb
        exact ⟨ha, by rw [List.length_map]; exact hl, vs, _, rv, ha⟩
      · have z' := (if_neg hb).symm.trans z
        cases z'
    · by_cases hb : b = a
      · exact hb
      · exact absurd (if_neg hb) z
end L2

namespace L2
open PySem PySem.Spec PyProof.Rows

abbrev KOf {K : PySem.W.Frag} {h : Heap} (_ : K.In h) : PySem.W.Frag := K

/-- the goal that k_head leaves (case hc), from the law's promise. F gives the function object fd (K's own) once, then the promise over every base -/
theorem walk_of {l : PySem.W.OpenLaw} {n k : Nat} {q : Program} {loose : List Str} {XP : (Str → Option Value) → Heap → Prop} {YP : World → Heap → Prop} {d : DefRec} {K : Params → PySem.W.Frag} {CX : World → CXT} {sp : World → Sp} {x : Str}
    (hn : l.most = some n) (hn2 : n ≤ sizeLine) (hdf : d.params.defaults = []) (hr : Room k callerA)
    (hY : ∀ (w : World) (h : Heap), YP w h → (K w.params).In h)
    (F : ∀ (w : World) (mg : Str → Option Value) (fa : Addr) (h : Heap), (K w.params).In h → h.Ns mainGlobals mg → mg d.name = some (.ref fa) →
      ∃ fd : FuncData, (∀ (s : Shared) (u : Value), BindsTo s fd ⟨[u], []⟩ [(x, u)]) ∧
        ∀ base : Heap, (K w.params).In base → base.Ns mainGlobals mg → FnOk l.prog w (K w.params) mg base (CX w) k fa fd [x] (sp w))
    (hsp : ∀ (w : World) (H : Hp) (a : Addr) (ns : List Int), ns.length ≤ n → Only H → SqL (K w.params) H a (ns.map V.int) → sp w [.ref a] H (fun v _ => v = .bl true) fun _ _ _ => False)
    (hCX : ∀ (w : World) (H : Hp) (s : Shared) (e : Value) (s' : Shared), CX w [] H s (fun _ _ _ => False) e s' → False) :
    PySem.W.WalkO q loose XP YP l.row.toRowW d [] (fun f vs => PySem.call f vs) := by
  refine Att.attach_call hn hdf fun w s₀ s₁ mg mb fa o pm cd doc a vs ns G Y ho hd hcd hmg hobj hints hlen hg => ?_
  have KX := hY w _ Y
  obtain ⟨fd, hb, hF⟩ := F w mg fa _ KX G.T.g hmg
  exact law_call KX G.T.g G.T.b G.T.builtins G.T.nolimit hg hobj hints (Nat.le_trans hlen hn2) hr hF hb (fun H hO hS => hsp w H a ns hlen hO hS) fun H e s' => hCX w H s₁ e s'
/-- the same where the promise hangs on the written part alone: (sp := My.sp_law), no hole under a binder -/
theorem walk_ofK {l : PySem.W.OpenLaw} {n k : Nat} {q : Program} {loose : List Str} {XP : (Str → Option Value) → Heap → Prop} {YP : World → Heap → Prop} {d : DefRec} {K : Params → PySem.W.Frag} {CX : CXT} {sp : PySem.W.Frag → Sp} {x : Str}
    (hn : l.most = some n) (hn2 : n ≤ sizeLine) (hdf : d.params.defaults = []) (hr : Room k callerA)
    (hY : ∀ (w : World) (h : Heap), YP w h → (K w.params).In h)
    (F : ∀ (w : World) (mg : Str → Option Value) (fa : Addr) (h : Heap), (K w.params).In h → h.Ns mainGlobals mg → mg d.name = some (.ref fa) →
      ∃ fd : FuncData, (∀ (s : Shared) (u : Value), BindsTo s fd ⟨[u], []⟩ [(x, u)]) ∧
        ∀ base : Heap, (K w.params).In base → base.Ns mainGlobals mg → FnOk l.prog w (K w.params) mg base CX k fa fd [x] (sp (K w.params)))
    (hsp : ∀ (K : PySem.W.Frag) (H : Hp) (a : Addr) (ns : List Int), ns.length ≤ n → Only H → SqL K H a (ns.map V.int) → sp K [.ref a] H (fun v _ => v = .bl true) fun _ _ _ => False)
    (hCX : ∀ (H : Hp) (s : Shared) (e : Value) (s' : Shared), CX [] H s (fun _ _ _ => False) e s' → False) :
    PySem.W.WalkO q loose XP YP l.row.toRowW d [] (fun f vs => PySem.call f vs) :=
  walk_of (K := K) (CX := fun _ => CX) (sp := fun w => sp (K w.params)) hn hn2 hdf hr hY F (fun w H a ns h1 h2 h3 => hsp (K w.params) H a ns h1 h2 h3) fun _ H s e s' => hCX H s e s'
end L2

/- THE LAST THEOREM (shape; LID, My.* are yours):
   My.Adr: a structure of the addresses that your layer names (classes, functions); My.Txt K t: a structure (Prop) of the equations over K;
   My.txt_mk : {K} {implicit addresses ..} (e1 : nsIn K mainGlobals "law" = some (some (.ref f))) (e2 : K.lookup f = some ⟨oc, od, .func (fnOf "law" "law" params body scope dV kV doc pm an cdv ct), sl⟩) (e3 : codeIn K cdv "law" = true) .. : ∃ t, My.Txt K t

set_option maxRecDepth 100000 in
set_option maxHeartbeats 0 in
theorem PySem.Challenge.cw_LID_holds : PySem.Challenge.rw_LID.Holds := by
  w_on; o_law; k_head; (case hw => w_witness2)
  k_fill
  refine L2.walk_of (l := PySem.Challenge.rw_LID) (n := 63) (k := 40) (x := "script") (CX := fun w => ..) (sp := fun _ => My.sp_law) rfl (by decide) rfl ⟨rfl, by decide, by decide⟩ (fun w h Y => PySem.W.kIn_of Y) ?F ?S ?C
  case F =>
    intro w mg fa h KX G hmg
    have T : ∃ t, My.Txt (L2.KOf KX) t := by
      dsimp only [L2.KOf]                          -- K must stand as «<heap const> w.params» for k_is
      refine' My.txt_mk ?e1 ?e2 ?e3 ..
      (case e1 => PySem.W.k_is)                    -- in the order: a name -> its address -> its object -> its parts
      (case e2 => PySem.W.k_is)
      ..
    obtain ⟨t, T⟩ := T
    have e0 := hmg.symm.trans (PySem.W.mg_of KX G T.law)
    cases e0                                       -- fa is the law's own address
    exact ⟨_, fun s u => .of_eq rfl, fun base kb nb => My.law_fn T kb nb⟩     -- if «.of_eq rfl» comes too early: refine' ⟨_, ?b, fun base kb nb => My.law_fn T kb nb⟩; exact fun s u => .of_eq rfl
  case S => exact fun w H a ns hl hO hS => ..
  case C => exact ..
(the tactic k_is has no namespace: write k_is) -/

/-! SHORT WORDS over the layer: a def of the text, its body, what a loop and a test want. -/
namespace L2
open PySem PySem.Spec PyProof.Rows

/-! ### the text by places -/
/-- the j-th statement of a class's body -/
def inClass (s : Stmt) (j : Nat) : Stmt := match s with
  | .ClassDef _ _ _ body _ _ _ _ _ _ _ => body.getD j (.Pass ⟨0, 0, 0, 0⟩)
  | _ => .Pass ⟨0, 0, 0, 0⟩
def defArgs (s : Stmt) : Arguments := match s with
  | .FunctionDef _ a _ _ _ _ _ _ _ _ => a
  | _ => { posonlyargs := [], args := [], vararg := none, kwonlyargs := [], kw_defaults := [], kwarg := none, defaults := [] }
def defBody (s : Stmt) : List Stmt := match s with
  | .FunctionDef _ _ b _ _ _ _ _ _ _ => b
  | _ => []
def defScope (s : Stmt) : Scope := match s with
  | .FunctionDef _ _ _ _ _ _ sc _ _ _ => sc
  | _ => { kind := .function, names := [], isGenerator := false, isCoroutine := false }

/-! ### no exception leaves a def -/
abbrev CX0 : CXT := fun _ _ _ _ _ _ => False
abbrev E0 : XK := fun _ _ _ => False
theorem pass0 {X : Cx} : Passes CX0 X E0 := fun _ _ _ _ _ _ _ h => h.elim

/-! ### a def (or method) of the text as it stands behind the top -/
structure Fun (K : PySem.W.Frag) (x qual : Str) (st : Stmt) (f : Addr) (fd : FuncData) : Prop where
  ex : ∃ (oc : Value) (od : Option Addr) (kV doc pm : Value) (an : Option Addr) (cdv ct : Value) (osl : Array (Option Value)),
    fd = PySem.W.fnOf x qual (defArgs st) (defBody st) (defScope st) .none kV doc pm an cdv ct ∧ K.lookup f = some ⟨oc, od, .func fd, osl⟩ ∧ PySem.W.codeIn K cdv qual = true
  kp : PySem.W.keepIn K (.ref f) = true
section
variable {P : Program} {w : World} {K : PySem.W.Frag} {mg : Str → Option Value} {base : Heap}
/-- THE RULE for a def: its body as a term of rules, and the reading of that term -/
theorem Fun.ok {x qual : Str} {st : Stmt} {f : Addr} {fd : FuncData} {N ps : List Str} {k : Nat} {sp : Sp} (F : Fun K x qual st f fd) (S : FnScope N ps (defScope st)) (len : ∀ vs H Q E, sp vs H Q E → vs.length = ps.length)
    (hbody : ∀ (cdv : Value) (A : Around) (outer : List Env) (s : Shared) (H : Hp) (vs : List V) (Q : VK) (E : XK), Room k (A.deeper (envOfC qual (defScope st) s.heap.objs.size f cdv)) → sp vs H Q E →
      ∃ t, PSs (cxOf CX0 P w K mg base N qual (defScope st) f cdv A outer s H E).nox (defBody st) t ∧ t { nx := fun _ H' => Q .non H', rt := Q } (start N vs) H) : FnOk P w K mg base CX0 (k + 1) f fd ps sp := by
  obtain ⟨oc, od, kV, doc, pm, an, cdv, ct, osl, rfl, lk, hcd⟩ := F.ex
  refine fn_of lk hcd S len fun A outer s H vs Q E hr hsp => ?_
  obtain ⟨t, h, q⟩ := hbody cdv A outer s H vs Q E hr hsp
  exact ⟨t, h.nox, q⟩
/-- how its arguments bind (no defaults): h is «fun _ _ _ _ _ _ us hl => match us, hl with | [_, _], _ => rfl», one _ a parameter -/
theorem Fun.binds {x qual : Str} {st : Stmt} {f : Addr} {fd : FuncData} {ps : List Str} (F : Fun K x qual st f fd)
    (h : ∀ (kV doc pm : Value) (an : Option Addr) (cdv ct : Value) (us : List Value), us.length = ps.length → bindArgs (PySem.W.fnOf x qual (defArgs st) (defBody st) (defScope st) .none kV doc pm an cdv ct) ⟨us, []⟩ = pure (ps.zip us)) : Binds K fd ps [] := by
  obtain ⟨oc, od, kV, doc, pm, an, cdv, ct, osl, rfl, lk, hcd⟩ := F.ex
  exact .all (h kV doc pm an cdv ct)
theorem fun_mk {x qual : Str} {st : Stmt} {f : Addr} {oc : Value} {od an : Option Addr} {osl : Array (Option Value)} {kV doc pm cdv ct : Value} (l : K.lookup f = some ⟨oc, od, .func (PySem.W.fnOf x qual (defArgs st) (defBody st) (defScope st) .none kV doc pm an cdv ct), osl⟩)
    (c : PySem.W.codeIn K cdv qual = true) (k : PySem.W.keepIn K (.ref f) = true) : Fun K x qual st f (PySem.W.fnOf x qual (defArgs st) (defBody st) (defScope st) .none kV doc pm an cdv ct) := ⟨⟨oc, od, kV, doc, pm, an, cdv, ct, osl, rfl, l, c⟩, k⟩
end
theorem hu_of {A : Around} {k : Nat} (hr : Room k A) : A.units + 1 < cLine := Nat.lt_of_le_of_lt (Nat.add_le_add_left (by decide : 1 ≤ 64) _) hr.units
theorem small1000 {n : Nat} (h : n ≤ 1000) : n < sizeLine := Nat.lt_of_le_of_lt h (by decide)

/-! ### expressions in short: the name that stands in the i-th slot -/
section
variable {X : Cx}
theorem pv (i : Nat) {x : Str} {pos : Pos} (hN : X.N[i]? = some x := by rfl) (hv : Vis X.env.scope x := by first | exact Or.inl rfl | exact Or.inr (Or.inl rfl) | exact Or.inr (Or.inr rfl)) (hd : (x == ("__debug__" : Str)) = false := by decide)
    (hcd : (x == ("__classdict__" : Str)) = false := by decide) : PE X (.Name x pos) (tVar i) := pe_var hN hv hd hcd
end

/-! ### tests -/
theorem iteF {A B : Prop} (h : B) : if false = true then A else B := by
  rw [if_neg Bool.false_ne_true]
  exact h
theorem iteT {A B : Prop} (h : A) : if true = true then A else B := by
  rw [if_pos rfl]
  exact h
theorem ite2 {c A B : Prop} [Decidable c] (h1 : c → A) (h2 : ¬ c → B) : if c then A else B := by
  by_cases h : c
  · rw [if_pos h]
    exact h1 h
  · rw [if_neg h]
    exact h2 h
theorem iteNS {c A B : Prop} [Decidable c] (hc : c) (h : B) : if (!decide c) = true then A else B := by
  rw [decide_eq_true hc]
  exact iteF h

/-! ### heaps -/
/-- all that was tracked is as it was -/
def Same (H H' : Hp) : Prop := ∀ b o, H b = some o → H' b = some o
theorem Same.refl (H : Hp) : Same H H := fun _ _ h => h
theorem Same.trans {H H1 H2 : Hp} (a : Same H H1) (b : Same H1 H2) : Same H H2 := fun c o h => b c o (a c o h)
theorem Same.free {H H' : Hp} (e : Same H H') {l : Addr} (h : H' l = Option.none) : H l = Option.none := by
  cases q : H l with
  | none => rfl
  | some o =>
    rw [e l o q] at h
    cases h
theorem Same.seq {K : PySem.W.Frag} {H H' : Hp} {a : Addr} {xs : List V} (e : Same H H') (h : SqL K H a xs) : SqL K H' a xs := by
  rcases h with (h | ⟨o, h⟩) | h
  · exact .inl (.inl (e _ _ h))
  · exact .inl (.inr ⟨o, e _ _ h⟩)
  · exact .inr h

end L2

set_option Elab.async false
set_option linter.all false
set_option maxRecDepth 100000
namespace L2
open PySem PySem.Spec PyProof.Rows
section
variable {X : Cx}

/-! ### texts -/
def strRep (z : Str) (n : Int) : Str := if n < 1 then Str.empty else if (n == 1 || z.length == 0) = true then z else ⟨(List.replicate n.toNat z.cps).foldl (· ++ ·) #[]⟩
theorem foldl_app_size (xs : List (Array Nat)) (acc : Array Nat) : (xs.foldl (· ++ ·) acc).size = acc.size + (xs.map Array.size).sum := by
  induction xs generalizing acc with
  | nil => simp
  | cons y ys ih => simp only [List.foldl_cons, List.map_cons, List.sum_cons]; rw [ih, Array.size_append]; omega
theorem strRep_len (z : Str) (n : Int) : (strRep z n).length ≤ z.length * n.toNat := by
  unfold strRep
  split
  · exact Nat.zero_le _
  · rename_i h
    split
    · rename_i h2
      rcases (Bool.or_eq_true _ _).mp h2 with h3 | h3
      · have : n = 1 := eq_of_beq h3
        subst this; simp
      · have : z.length = 0 := eq_of_beq h3
        omega
    · show ((List.replicate n.toNat z.cps).foldl (· ++ ·) #[]).size ≤ _
      rw [foldl_app_size]
      have : ((List.replicate n.toNat z.cps).map Array.size).sum = n.toNat * z.cps.size := by simp
      rw [this]
      show #[].size + n.toNat * z.cps.size ≤ z.cps.size * n.toNat
      rw [Nat.mul_comm]; simp
def rAddS : R2 := fun x y H Q => ∃ i j, x = .str i ∧ y = .str j ∧ i.length + j.length ≤ sizeLine ∧ Q (.str (i ++ j)) H
theorem op_addS : OpR X (binaryOp .Add) rAddS := op_add_str
def rLtS : R2 := fun x y H Q => ∃ i j, x = .str i ∧ y = .str j ∧ Q (.bl (decide (i.cps.toList < j.cps.toList))) H
theorem op_ltS : OpR X (compareOp .Lt) rLtS := op_lt_str
def rLenS : List V → Hp → VK → Prop := fun xs H Q => ∃ z, xs = [.str z] ∧ z.length ≤ sizeLine ∧ Q (.int z.length) H
theorem call_lenS : CallR X (.builtin "len") rLenS := call_len_str
def rMulS : R2 := fun x y H Q => ∃ z n, x = .str z ∧ y = .int n ∧ n ≤ 1000 ∧ -1000 ≤ n ∧ z.length ≤ 1000 ∧ Q (.str (strRep z n)) H
theorem op_mul_str : OpR X (binaryOp .Mult) rMulS := by
  intro pins s σ H x y v u Q I rx ry h
  obtain ⟨z, n, rfl, rfl, h1, h2, h3, q⟩ := h
  obtain ⟨t, rfl⟩ := rx
  obtain ⟨t', rfl⟩ := ry
  refine PySem.P.mul_str ?_ ?_ ?_ ?_
  · rw [decide_eq_false (by omega), decide_eq_false (by omega)]; rfl
  · intro a _ hh
    have : (2 ^ 63 - 1) / n ≥ (2 ^ 63 - 1) / 1000 := by
      apply Int.le_ediv_of_mul_le (by omega)
      have : ((2:Int) ^ 63 - 1) / 1000 = 9223372036854775 := by decide
      rw [this]
      omega
    have e : ((2:Int) ^ 63 - 1) / 1000 = 9223372036854775 := by decide
    omega
  · intro a _
    have hm : z.length * n.toNat ≤ 1000 * 1000 := Nat.mul_le_mul h3 (by omega)
    unfold PySem.Builtin.Str.tooLong
    first
      | exact decide_eq_false (by have := sizeLine_eq; omega)
      | simp only [decide_eq_false_iff_not]; have := sizeLine_eq; omega
  · unfold strRep at q
    split
    · rename_i hn
      rw [if_pos hn] at q
      exact ⟨by decide, .str _, H, I.tok _, ⟨_, rfl⟩, q⟩
    · rename_i hn
      rw [if_neg hn] at q
      split
      · rename_i h4
        rw [if_pos h4] at q
        exact ⟨.str _, H, I, ⟨_, rfl⟩, q⟩
      · rename_i h4
        rw [if_neg h4] at q
        refine ⟨?_, .str _, H, I.tok _, ⟨_, rfl⟩, q⟩
        have hl := strRep_len z n
        unfold strRep at hl
        rw [if_neg hn, if_neg h4] at hl
        have hm : z.length * n.toNat ≤ 1000 * 1000 := Nat.mul_le_mul h3 (by omega)
        have := sizeLine_eq
        refine Nat.le_trans hl (by omega)
/-- z[lo:hi] -/
def rSlS : V → Option Int → Option Int → Hp → VK → Prop := fun x lo hi H Q => ∃ z, x = .str z ∧ z.length ≤ sizeLine ∧ Q (.str (Txt.slice z lo hi)) H
theorem sl_str : SlR X rSlS := by
  intro pins s σ H x v vl vu lo hi sl Q I rx hs pl pu h
  obtain ⟨z, rfl, hz, q⟩ := h
  obtain ⟨t, rfl⟩ := rx
  refine ⟨"str", _, F.slot_str_getitem.lookup, typeIs_str _ _ _, ?_⟩
  have fin : ∀ t' k, EP X pins σ Q (.str (Txt.slice z lo hi) t') { s with toks := k } := fun t' k => ⟨.str _, H, I.tok _, ⟨_, rfl⟩, q⟩
  cases pl with
  | none =>
    cases pu with
    | none => exact wpAny_getItem_str_slice (l := none) (u := none) (st := none) hs rfl (post_val_or_str ⟨Nat.le_trans (Txt.slice_le z _ _) hz, fin⟩)
    | int j uj => exact wpAny_getItem_str_slice (l := none) (u := some (j, uj)) (st := none) hs rfl (post_val_or_str ⟨Nat.le_trans (Txt.slice_le z _ _) hz, fin⟩)
  | int i ui =>
    cases pu with
    | none => exact wpAny_getItem_str_slice (l := some (i, ui)) (u := none) (st := none) hs rfl (post_val_or_str ⟨Nat.le_trans (Txt.slice_le z _ _) hz, fin⟩)
    | int j uj => exact wpAny_getItem_str_slice (l := some (i, ui)) (u := some (j, uj)) (st := none) hs rfl (post_val_or_str ⟨Nat.le_trans (Txt.slice_le z _ _) hz, fin⟩)
def rGtS : R2 := fun x y H Q => ∃ i j, x = .str i ∧ y = .str j ∧ Q (.bl (decide (j.cps.toList < i.cps.toList))) H
theorem op_gt_str : OpR X (compareOp .Gt) rGtS := by
  intro pins s σ H x y v u Q I rx ry h
  obtain ⟨i, j, rfl, rfl, q⟩ := h
  obtain ⟨t, rfl⟩ := rx
  obtain ⟨t', rfl⟩ := ry
  exact PySem.P.gt_str ⟨.bl _, H, I, rfl, q⟩

/-! ### tuples -/
/-- t + u -/
def rCatU : R2 := fun x y H Q => ∃ a b xs ys, x = .ref a ∧ y = .ref b ∧ H a = some (.tup xs) ∧ H b = some (.tup ys) ∧ xs.length + ys.length ≤ sizeLine ∧
  ∀ p H', Same H H' → H' p = some (.tup (xs ++ ys)) → Q (.ref p) H'
theorem Same.upd {H : Hp} {p : Addr} {o : HO} (h : H p = none) : Same H (upd H p o) := fun b u e => by
  rw [upd_ne (ne_of_none e h)]; exact e
theorem op_catU : OpR X (binaryOp .Add) rCatU := by
  intro pins s σ H x y v u Q I rx ry h
  obtain ⟨a, b, xs, ys, rfl, rfl, ha, hb, hz, q⟩ := h
  cases xs with
  | nil =>
    cases rx
    cases ry
    obtain ⟨its, r1, p1, _⟩ := I.tuple (.inl (.inl ha))
    obtain ⟨its2, r2, p2, _⟩ := I.tuple (.inl (.inl hb))
    obtain ⟨⟨cls, dd, data, sl⟩, ho, hc, n, hd⟩ := id p1
    obtain ⟨⟨cls2, dd2, data2, sl2⟩, ho2, hc2, n2, hd2⟩ := id p2
    simp only at hc hd hc2 hd2
    subst hc hd hc2 hd2
    cases r1
    exact concat_meets ⟨_, ho, rfl⟩ ⟨_, ho2, rfl⟩ noFill_tuple_add seq_tuple_add PySem.F.slot_tuple_add PySem.F.entry_tuple_add (PySem.F.args_tuple_add_2 _ _)
      (tuple_addW0 a b [].toArray its2.toArray n n2 dd dd2 sl sl2 (by simp)) ⟨ho, ho2, .ref b, H, I, rfl, q b H (Same.refl H) (by simpa using hb)⟩
  | cons z zs =>
    refine op_catT pins s σ H _ _ v u Q I rx ry ⟨a, b, z :: zs, ys, rfl, rfl, .inl (.inl ha), .inl (.inl hb), by simp, hz, fun e => ?_, fun _ p hp => ?_⟩
    · subst e
      exact q a H (Same.refl H) (by simpa using ha)
    · exact q p _ (Same.upd hp) upd_same
/-- the whole of it -/
theorem getItem_tuple_all {prog : Program} {w : World} {A : Around} {E : Value → Shared → Prop} {s : Shared} {t sl : Addr} {items : Array Value} {vl vu : Value} {lo hi : Option Int} {Q : Value → Shared → Prop} (ht : IsTup s.heap t items) (hs : s.heap.IsSliceOf sl vl vu .none) (pl : IsPart vl lo) (pu : IsPart vu hi)
    (hw : HT.sIx items.size 0 lo = 0 ∧ HT.sIx items.size items.size hi = items.size) (h : Q (.ref t) s) : wpAny (model prog w) A (getItem (.ref t) (.ref sl)) Q E s := by
  obtain ⟨os, hos, hcs, hds⟩ := id hs
  have hTs : s.TypeIs (.ref sl) "slice" := ⟨os, hos, hcs⟩
  unfold getItem
  try with_reducible refine wpAny_holding ?_
  first | refine wpAny_bind (wpAny_pure ?_) | skip
  refine wpAny_bind (wpAny_sequenceKey ht.typeIs (by decide) ?_)
  refine wpAny_bind (wpAny_callSpecial?_slot (name := Str.ofString "__getitem__") ht.typeIs PyProof.Rows.slot_tuple_getitem
    (wpAny_call_entry PyProof.Rows.slot_tuple_getitem ht.typeIs entry_tuple_getitem ?_ (args_tuple_getitem _ _)))
  show wpAny _ _ (Builtin.Tuple.tupleItemsOf (.ref t) >>= _) _ _ s
  refine wpAny_bind (tupleItemsOf_ ht ?_)
  refine wpAny_bind (wpAny_typeOf hTs ?_)
  rw [if_pos (by decide)]
  refine wpAny_bind (HT.sliceApplied_gen hs pl pu ?_)
  have hyes : ((((HT.sIx items.size 0 lo : Nat) : Int) == 0 && (1 : Int) == 1 && (HT.sIx items.size items.size hi - HT.sIx items.size 0 lo) == items.size) = true) := by
    rw [hw.1, hw.2]; simp
  show wpAny _ _ (if (((HT.sIx items.size 0 lo : Nat) : Int) == 0 && (1 : Int) == 1 && (HT.sIx items.size items.size hi - HT.sIx items.size 0 lo) == items.size) = true then _ else _) _ _ s
  rw [if_pos hyes]
  unfold Builtin.Tuple.tupleIsExact
  refine wpAny_bind (wpAny_bind (wpAny_typeOf ht.typeIs (wpAny_pure ?_)))
  rw [if_pos (by decide)]
  exact wpAny_bind (wpAny_rule (wpAny_pure ⟨_, rfl, wpAny_pure h⟩))
/-- t[lo:hi], whole or not -/
def rSlU : V → Option Int → Option Int → Hp → VK → Prop := fun x lo hi H Q => ∃ a xs, x = .ref a ∧ H a = some (.tup xs) ∧ ∀ p H', Same H H' → H' p = some (.tup (cutV xs lo hi)) → Q (.ref p) H'
theorem sl_tupU : SlR X rSlU := by
  intro pins s σ H x v vl vu lo hi sl Q I rx hs pl pu h
  obtain ⟨a, xs, rfl, hx, q⟩ := h
  by_cases hw : HT.sIx xs.length 0 lo = 0 ∧ HT.sIx xs.length xs.length hi = xs.length
  · cases rx
    obtain ⟨its, r, ht, hz⟩ := I.tuple (.inl (.inl hx))
    have hlen : its.toArray.size = xs.length := by rw [List.size_toArray]; exact r.length.symm
    refine ⟨"tuple", _, PyProof.Rows.slot_tuple_getitem.lookup, ht.typeIs, ?_⟩
    refine getItem_tuple_all ht hs pl pu (by rw [hlen]; exact hw) ⟨.ref a, H, I, rfl, q a H (Same.refl H) ?_⟩
    have e : cutV xs lo hi = xs := by unfold cutV; rw [hw.1, hw.2]; simp
    rw [e]; exact hx
  · exact sl_tup pins s σ H _ v vl vu lo hi sl Q I rx hs pl pu ⟨a, xs, rfl, .inl (.inl hx), hw, fun p hp => q p _ (Same.upd hp) upd_same⟩

/-! ### equality -/
/-- == of x and y comes out as b, k units deep -/
def EqV (X : Cx) (k : Nat) (H : Hp) (x y : V) (b : Bool) : Prop :=
  ∀ (A : Around) (pins : List (Addr × Obj)) (σ : St) (s : Shared) (u v : Value), Inv X pins σ H s → A.units + k < cLine → RelV x u → RelV y v → SeqAt.EqAt A s u v b
theorem EqV.flat {k : Nat} {H : Hp} {x y : V} (fx : flatV x = true) (fy : flatV y = true) : EqV X k H x y (eqV x y) := fun A pins σ s u v I hu rx ry => eqAt_V rx ry fx fy
theorem EqV.mono {k l : Nat} {H : Hp} {x y : V} {b : Bool} (h : EqV X k H x y b) (hk : k ≤ l) : EqV X l H x y b := fun A pins σ s u v I hu rx ry => h A pins σ s u v I (by omega) rx ry
/-- the answer over two item lists -/
def eqL (e : Nat → Bool) (n m : Nat) : Bool := (List.range (min n m)).all e && n == m
theorem items_eq {k : Nat} {H : Hp} {xs ys : List V} {e : Nat → Bool} {A : Around} {pins : List (Addr × Obj)} {σ : St} {s : Shared} (I : Inv X pins σ H s) (hu : A.units + k < cLine)
    (he : ∀ j x y, xs[j]? = some x → ys[j]? = some y → EqV X k H x y (e j)) {us vs : List Value} (r1 : Vals xs us) (r2 : Vals ys vs) :
    ∀ j (h1 : j < us.toArray.size) (h2 : j < vs.toArray.size), SeqAt.EqAt A s us.toArray[j] vs.toArray[j] (e j) := by
  intro j h1 h2
  rw [List.size_toArray] at h1 h2
  have l1 := r1.length
  have l2 := r2.length
  have g1 : xs[j]? = some xs[j] := by simp [l1, h1]
  have g2 : ys[j]? = some ys[j] := by simp [l2, h2]
  obtain ⟨u, e1, q1⟩ := r1.get g1
  obtain ⟨v, e2, q2⟩ := r2.get g2
  have f1 : us.toArray[j] = u := by
    rw [List.getElem_toArray]
    have : us[j]? = some us[j] := by simp [h1]
    rw [this] at e1; exact Option.some.inj e1
  have f2 : vs.toArray[j] = v := by
    rw [List.getElem_toArray]
    have : vs[j]? = some vs[j] := by simp [h2]
    rw [this] at e2; exact Option.some.inj e2
  rw [f1, f2]
  exact he j _ _ g1 g2 A pins σ s u v I hu q1 q2
theorem in1_units (A : Around) : A.in1.units = A.units + 1 := by
  first | rfl | simp [Around.in1] | (unfold Around.in1; rfl)
theorem EqV.tup {k : Nat} {H : Hp} {a b : Addr} {xs ys : List V} {e : Nat → Bool} (ha : H a = some (.tup xs)) (hb : H b = some (.tup ys)) (he : ∀ j x y, xs[j]? = some x → ys[j]? = some y → EqV X k H x y (e j))
    (hs : a = b → eqL e xs.length ys.length = true) : EqV X (k + 1) H (.ref a) (.ref b) (eqL e xs.length ys.length) := by
  intro A pins σ s u v I hu rx ry
  cases rx
  cases ry
  by_cases hab : a = b
  · rw [hs hab]
    subst hab
    exact SeqAt.EqAt.same _
  · obtain ⟨us, r1, p1, _⟩ := I.tuple (.inl (.inl ha))
    obtain ⟨vs, r2, p2, _⟩ := I.tuple (.inl (.inl hb))
    refine SeqAt.EqAt.of_refs hab ?_
    have z := SeqAt.RcAt.tuples (e := e) (A := A) (s := s) p1 p2 (by omega) (items_eq I (by rw [in1_units]; omega) he r1 r2)
    unfold eqL
    rw [r1.length, r2.length]
    simpa using z
def rEqT (X : Cx) : R2 := fun x y H Q => ∃ a b xs ys e, x = .ref a ∧ y = .ref b ∧ H a = some (.tup xs) ∧ H b = some (.tup ys) ∧ (∀ j x y, xs[j]? = some x → ys[j]? = some y → EqV X 8 H x y (e j)) ∧ Q (.bl (eqL e xs.length ys.length)) H
theorem op_eqT (hu : X.A.units + 16 < cLine) : OpR X (compareOp .Eq) (rEqT X) := by
  intro pins s σ H x y v u Q I rx ry h
  obtain ⟨a, b, xs, ys, e, rfl, rfl, ha, hb, he, q⟩ := h
  cases rx
  cases ry
  obtain ⟨us, r1, p1, _⟩ := I.tuple (.inl (.inl ha))
  obtain ⟨vs, r2, p2, _⟩ := I.tuple (.inl (.inl hb))
  refine SeqAt.RcAt.tuples (e := e) (A := X.A) (s := s) p1 p2 (by omega) (items_eq I (by rw [in1_units]; omega) he r1 r2) _ _ _ _ ?_
  refine ⟨.bl _, H, I, ?_, q⟩
  show _ = Value.bool _
  unfold eqL
  rw [r1.length, r2.length]
  simp
def rNeT (X : Cx) : R2 := fun x y H Q => ∃ a b xs ys e, x = .ref a ∧ y = .ref b ∧ H a = some (.tup xs) ∧ H b = some (.tup ys) ∧ (∀ j x y, xs[j]? = some x → ys[j]? = some y → EqV X 8 H x y (e j)) ∧ Q (.bl (!eqL e xs.length ys.length)) H
theorem op_neT (hu : X.A.units + 16 < cLine) : OpR X (compareOp .NotEq) (rNeT X) := by
  intro pins s σ H x y v u Q I rx ry h
  obtain ⟨a, b, xs, ys, e, rfl, rfl, ha, hb, he, q⟩ := h
  cases rx
  cases ry
  obtain ⟨us, r1, p1, _⟩ := I.tuple (.inl (.inl ha))
  obtain ⟨vs, r2, p2, _⟩ := I.tuple (.inl (.inl hb))
  refine SeqAt.RcNeAt.tuples (e := e) (A := X.A) (s := s) p1 p2 (by omega) (items_eq I (by rw [in1_units]; omega) he r1 r2) _ _ _ _ ?_
  refine ⟨.bl _, H, I, ?_, q⟩
  show _ = Value.bool _
  unfold eqL
  rw [r1.length, r2.length]
  simp
/-! paths: tuples of texts -/
def pV (p : List Str) : List V := p.map V.str
theorem eqL_path (p q : List Str) : eqL (fun j => decide (p[j]? = q[j]?)) p.length q.length = decide (p = q) := by
  by_cases h : p = q
  · subst h; simp [eqL]
  · rw [decide_eq_false h]
    cases hh : eqL (fun j => decide (p[j]? = q[j]?)) p.length q.length with
    | false => rfl
    | true =>
      exfalso; apply h
      unfold eqL at hh
      rw [Bool.and_eq_true] at hh
      have hl : p.length = q.length := by simpa using hh.2
      have ha := hh.1
      rw [hl, Nat.min_self, List.all_eq_true] at ha
      apply List.ext_getElem? 
      intro i
      by_cases hi : i < q.length
      · have := ha i (List.mem_range.mpr hi)
        simpa using this
      · rw [List.getElem?_eq_none (by omega), List.getElem?_eq_none (by omega)]
theorem path_items {k : Nat} {H : Hp} (p q : List Str) : ∀ (j : Nat) (x y : V), (pV p)[j]? = some x → (pV q)[j]? = some y → EqV X k H x y (decide (p[j]? = q[j]?)) := by
  intro j x y hx hy
  unfold pV at hx hy
  rw [List.getElem?_map] at hx hy
  cases e1 : p[j]? with
  | none => rw [e1] at hx; cases hx
  | some a =>
    cases e2 : q[j]? with
    | none => rw [e2] at hy; cases hy
    | some b =>
      rw [e1] at hx; rw [e2] at hy
      cases hx; cases hy
      have := EqV.flat (X := X) (k := k) (H := H) (x := V.str a) (y := V.str b) rfl rfl
      have e : eqV (V.str a) (V.str b) = decide (some a = some b) := by
        show (a == b) = _
        by_cases h : a = b
        · subst h; simp
        · rw [decide_eq_false (fun z => h (Option.some.inj z))]; exact beq_eq_false_iff_ne.mpr h
      rw [← e]; exact this
/-- a path stands at v -/
def IsP (H : Hp) (v : V) (p : List Str) : Prop := ∃ a, v = .ref a ∧ H a = some (.tup (pV p))
theorem IsP.same {H H' : Hp} {v : V} {p : List Str} (h : IsP H v p) (s : Same H H') : IsP H' v p := let ⟨a, e, q⟩ := h; ⟨a, e, s _ _ q⟩
theorem IsP.inj {H : Hp} {v : V} {p q : List Str} (h : IsP H v p) (h' : IsP H v q) : p = q := by
  obtain ⟨a, rfl, e⟩ := h
  obtain ⟨b, e', e2⟩ := h'
  cases e'
  rw [e] at e2
  injection e2 with e2
  injection e2 with e2
  unfold pV at e2
  exact (List.map_inj_right (fun _ _ z => by injection z)).mp e2
theorem EqV.path {k : Nat} {H : Hp} {x y : V} {p q : List Str} (hx : IsP H x p) (hy : IsP H y q) : EqV X (k + 1) H x y (decide (p = q)) := by
  obtain ⟨a, rfl, ha⟩ := id hx
  obtain ⟨b, rfl, hb⟩ := id hy
  have z := EqV.tup (X := X) (k := k) ha hb (path_items p q) (fun e => by
    subst e
    have : p = q := hx.inj hy
    subst this
    unfold pV; rw [List.length_map, eqL_path]; simp)
  unfold pV at z
  rw [List.length_map, List.length_map, eqL_path] at z
  exact z
def rEqP : R2 := fun x y H Q => ∃ p q, IsP H x p ∧ IsP H y q ∧ Q (.bl (decide (p = q))) H
theorem op_eqP (hu : X.A.units + 16 < cLine) : OpR X (compareOp .Eq) rEqP := by
  intro pins s σ H x y v u Q I rx ry h
  obtain ⟨p, q, ⟨a, rfl, ha⟩, ⟨b, rfl, hb⟩, k⟩ := h
  refine op_eqT hu pins s σ H _ _ v u Q I rx ry ⟨a, b, _, _, _, rfl, rfl, ha, hb, path_items p q, ?_⟩
  unfold pV; rw [List.length_map, List.length_map, eqL_path]; exact k
def rNeP : R2 := fun x y H Q => ∃ p q, IsP H x p ∧ IsP H y q ∧ Q (.bl (!decide (p = q))) H
theorem op_neP (hu : X.A.units + 16 < cLine) : OpR X (compareOp .NotEq) rNeP := by
  intro pins s σ H x y v u Q I rx ry h
  obtain ⟨p, q, ⟨a, rfl, ha⟩, ⟨b, rfl, hb⟩, k⟩ := h
  refine op_neT hu pins s σ H _ _ v u Q I rx ry ⟨a, b, _, _, _, rfl, rfl, ha, hb, path_items p q, ?_⟩
  unfold pV; rw [List.length_map, List.length_map, eqL_path]; exact k
/-- p + q -/
def rCatP : R2 := fun x y H Q => ∃ p q, IsP H x p ∧ IsP H y q ∧ p.length + q.length ≤ sizeLine ∧ ∀ z H', Same H H' → IsP H' z (p ++ q) → Q z H'
theorem op_catP : OpR X (binaryOp .Add) rCatP := by
  intro pins s σ H x y v u Q I rx ry h
  obtain ⟨p, q, ⟨a, rfl, ha⟩, ⟨b, rfl, hb⟩, hz, k⟩ := h
  refine op_catU pins s σ H _ _ v u Q I rx ry ⟨a, b, _, _, rfl, rfl, ha, hb, by simpa [pV] using hz, fun r H' hs hr => k _ H' hs ⟨r, rfl, ?_⟩⟩
  rw [hr]; simp [pV]
/-- p[lo:hi] -/
def cutP (p : List Str) (lo hi : Option Int) : List Str := (p.drop (HT.sIx p.length 0 lo)).take (HT.sIx p.length p.length hi - HT.sIx p.length 0 lo)
theorem cutV_pV (p : List Str) (lo hi : Option Int) : cutV (pV p) lo hi = pV (cutP p lo hi) := by
  unfold cutV cutP pV; simp [List.map_take, List.map_drop]
def rSlP : V → Option Int → Option Int → Hp → VK → Prop := fun x lo hi H Q => ∃ p, IsP H x p ∧ ∀ z H', Same H H' → IsP H' z (cutP p lo hi) → Q z H'
theorem sl_P : SlR X rSlP := by
  intro pins s σ H x v vl vu lo hi sl Q I rx hs pl pu h
  obtain ⟨p, ⟨a, rfl, ha⟩, k⟩ := h
  refine sl_tupU pins s σ H _ v vl vu lo hi sl Q I rx hs pl pu ⟨a, _, rfl, ha, fun r H' hsm hr => k _ H' hsm ⟨r, rfl, ?_⟩⟩
  rw [hr, cutV_pV]
/-- p[i] -/
def rIxP : R2 := fun x y H Q => ∃ p i z, IsP H x p ∧ y = .int i ∧ atI p i = some z ∧ Q (.str z) H
theorem atI_map (p : List Str) (i : Int) : atI (pV p) i = (atI p i).map V.str := by
  unfold atI pV
  rw [List.length_map]
  cases ixN p.length i with
  | none => rfl
  | some j => simp
theorem ix_P : IxR X rIxP := by
  intro value slice pins s σ H x y v u Q I rx ry h hs
  obtain ⟨p, i, z, ⟨a, rfl, ha⟩, rfl, hz, q⟩ := h
  exact ix_tup value slice pins s σ H _ _ v u Q I rx ry ⟨a, _, i, .str z, rfl, rfl, .inl (.inl ha), by rw [atI_map, hz]; rfl, q⟩ hs
/-- len(p) -/
def rLenP : List V → Hp → VK → Prop := fun xs H Q => ∃ x p, xs = [x] ∧ IsP H x p ∧ Q (.int p.length) H
theorem call_lenP : CallR X (.builtin "len") rLenP := by
  intro pins s σ H xs us Q I r h
  obtain ⟨x, p, rfl, ⟨a, rfl, ha⟩, q⟩ := h
  refine call_len_seq pins s σ H _ us Q I r ⟨a, _, rfl, .inr (.inl (.inl ha)), ?_⟩
  simpa [pV] using q

/-! ### isinstance -/
def clsVal : V → Option Value
  | .ty n => some (.type n)
  | .ref C => some (.ref C)
  | _ => none
def rIsi (K : PySem.W.Frag) : List V → Hp → VK → Prop := fun xs H Q => ∃ x c t cv b, xs = [x, c] ∧ TyOf K H x t ∧ clsVal c = some cv ∧ PySem.W.kitOne K t cv = some b ∧ Q (.bl b) H
theorem call_isinst : CallR X (.builtin "isinstance") (rIsi X.K) := by
  intro pins s σ H xs us Q I r h
  obtain ⟨x, c, t, cv, b, rfl, ty, hc, hk, q⟩ := h
  obtain ⟨u, w', rfl, r1, r2⟩ := vals2 r
  have e : w' = cv := by
    cases c with
    | ty n => cases hc; exact r2
    | ref C => cases hc; exact r2
    | _ => cases hc
  subst e
  exact isinst_ok I r1 ty hk fun tk => ⟨.bl b, H, I.tok _, rfl, q⟩
end
end L2

set_option Elab.async false
set_option linter.all false
set_option maxRecDepth 100000
namespace L2
open PySem PySem.Spec PyProof.Rows

/-! ### one step of a reading, backwards -/
section
variable {σ : St} {H : Hp} {Q : VK} {D : Ends} {K : PySem.W.Frag} {ta tb tc te : TE} {v : V} {i : Nat}
theorem wp_var (h1 : σ[i]? = some (some v)) (h : Q v H) : tVar i σ H Q := ⟨v, h1, h⟩
theorem wp_c (h : Q v H) : tC v σ H Q := h
theorem wp_op {r : R2} (h : ta σ H fun x H1 => tb σ H1 fun y H2 => r x y H2 Q) : tOp r ta tb σ H Q := h
theorem wp_un {r : V → Hp → VK → Prop} (h : ta σ H fun x H1 => r x H1 Q) : tUn r ta σ H Q := h
theorem wp_rU {g : Int → V} {j : Int} (h : Q (g j) H) : rU g (.int j) H Q := ⟨j, rfl, h⟩
theorem wp_rI0 {g : Int → Int → V} {j k : Int} (h : Q (g j k) H) : rI0 g (.int j) (.int k) H Q := ⟨j, k, rfl, rfl, h⟩
theorem wp_rI {C : Int → Int → Prop} {g : Int → Int → V} {j k : Int} (hc : C j k) (h : Q (g j k) H) : rI C g (.int j) (.int k) H Q := ⟨j, k, rfl, rfl, hc, h⟩
theorem wp_rEqI {j k : Int} (h : Q (.bl (decide (j = k))) H) : rEq (.int j) (.int k) H Q := ⟨rfl, by
  have e : decide (V.int j = V.int k) = decide (j = k) := by rw [dec_int]; by_cases z : j = k <;> simp [z]
  rw [e]; exact h⟩
theorem wp_rNeI {j k : Int} (h : Q (.bl (!decide (j = k))) H) : rNe (.int j) (.int k) H Q := ⟨rfl, by
  have e : decide (V.int j = V.int k) = decide (j = k) := by rw [dec_int]; by_cases z : j = k <;> simp [z]
  rw [e]; exact h⟩
theorem dec_strE {j k : Str} : decide (V.str j = V.str k) = decide (j = k) := by
  by_cases z : j = k
  · subst z; simp
  · rw [decide_eq_false z, decide_eq_false (fun q => z (by injection q))]
theorem wp_rEqS {j k : Str} (h : Q (.bl (decide (j = k))) H) : rEq (.str j) (.str k) H Q := ⟨rfl, by rw [dec_strE]; exact h⟩
theorem wp_rNeS {j k : Str} (h : Q (.bl (!decide (j = k))) H) : rNe (.str j) (.str k) H Q := ⟨rfl, by rw [dec_strE]; exact h⟩
theorem dec_blE {j k : Bool} : decide (V.bl j = V.bl k) = decide (j = k) := by
  cases j <;> cases k <;> rfl
theorem wp_rEqB {j k : Bool} (h : Q (.bl (decide (j = k))) H) : rEq (.bl j) (.bl k) H Q := ⟨rfl, by rw [dec_blE]; exact h⟩
theorem wp_rNeB {j k : Bool} (h : Q (.bl (!decide (j = k))) H) : rNe (.bl j) (.bl k) H Q := ⟨rfl, by rw [dec_blE]; exact h⟩
theorem wp_test {Q : Bool → Hp → Prop} (h : te σ H fun x H' => ∃ k, x = .bl k ∧ Q k H') : tTest te σ H Q := h
theorem wp_tB {Q : Bool → Hp → Prop} (h : te σ H fun x H' => ∃ k, x = .bl k ∧ Q k H') : tB te σ H Q := h
theorem wp_bl {b : Bool} {P : Bool → Prop} (h : P b) : ∃ k, V.bl b = .bl k ∧ P k := ⟨b, rfl, h⟩
theorem wp_and {t u : TT} {Q : Bool → Hp → Prop} (h : t σ H fun c H1 => if c = true then u σ H1 Q else Q false H1) : tAnd t u σ H Q := h
theorem wp_or {t u : TT} {Q : Bool → Hp → Prop} (h : t σ H fun c H1 => if c = true then Q true H1 else u σ H1 Q) : tOr t u σ H Q := h
theorem wp_not {t : TT} {Q : Bool → Hp → Prop} (h : t σ H fun c H1 => Q (!c) H1) : tNot t σ H Q := h
theorem wp_andV (h : ta σ H fun x H1 => ∃ c, x = .bl c ∧ if c = true then tb σ H1 Q else Q (.bl false) H1) : tAndV ta tb σ H Q := h
theorem wp_orV (h : ta σ H fun x H1 => ∃ c, x = .bl c ∧ if c = true then Q (.bl true) H1 else tb σ H1 Q) : tOrV ta tb σ H Q := h
theorem wp_notV (h : ta σ H fun x H1 => ∃ c, x = .bl c ∧ Q (.bl (!c)) H1) : tNotV ta σ H Q := h
theorem wp_ifE {t : TT} (h : t σ H fun c H1 => if c = true then ta σ H1 Q else tb σ H1 Q) : tIf t ta tb σ H Q := h
theorem wp_seq {t u : TS} (h : t { D with nx := u D } σ H) : tSeq t u D σ H := h
theorem wp_next (h : D.nx σ H) : tNext D σ H := h
theorem wp_drop (h : te σ H fun _ H1 => D.nx σ H1) : tDrop te D σ H := h
theorem wp_ret (h : te σ H D.rt) : tRet te D σ H := h
theorem wp_retN (h : D.rt .non H) : tRetN D σ H := h
theorem wp_ifS {c : TT} {t u : TS} (h : c σ H fun b H1 => if b = true then t D σ H1 else u D σ H1) : tIfS c t u D σ H := h
theorem wp_asg {g : TG} (h : te σ H fun x H1 => g x σ H1 D.nx) : tAsg te g D σ H := h
theorem wp_name {R : St → Hp → Prop} (h : R (σ.set i (some v)) H) : gName i v σ H R := h
theorem wp_chain {r r' : R2} (h : ta σ H fun x H1 => tb σ H1 fun y H2 => r x y H2 fun z H3 => ∃ k, z = .bl k ∧ (if k = true then tc σ H3 fun w' H4 => r' y w' H4 Q else Q (.bl false) H3)) : tChain r r' ta tb tc σ H Q := h
theorem wp_nil {R : List V → Hp → Prop} (h : R [] H) : tNil σ H R := h
theorem wp_cons {tr : TA} {R : List V → Hp → Prop} (h : ta σ H fun x H1 => tr σ H1 fun xs H2 => R (x :: xs) H2) : tCons ta tr σ H R := h
def tupK (xs : List V) (H : Hp) (Q : VK) : Prop := xs.length ≤ sizeLine ∧ ∀ p, H p = none → Q (.ref p) (upd H p (.tup xs))
def lstK (xs : List V) (H : Hp) (Q : VK) : Prop := xs.length ≤ sizeLine ∧ ∀ p, H p = none → Q (.ref p) (upd H p (.lst xs))
theorem wp_tup {t : TA} (h : t σ H fun xs H1 => tupK xs H1 Q) : tTup t σ H Q := h
theorem wp_lst {t : TA} (h : t σ H fun xs H1 => lstK xs H1 Q) : tLst t σ H Q := h
theorem wp_tupP {xs : List Str} (hz : xs.length ≤ 1000) (h : ∀ (z : V) (r : List Str) H', r = xs → r.length = xs.length → Same H H' → IsP H' z r → Q z H') : tupK (pV xs) H Q :=
  ⟨by unfold pV; rw [List.length_map]; exact Nat.le_of_lt (small1000 hz), fun p hp => h _ _ _ rfl rfl (Same.upd hp) ⟨p, rfl, upd_same⟩⟩
theorem wp_tupP0 (h : ∀ (z : V) H', Same H H' → IsP H' z [] → Q z H') : tupK [] H Q := wp_tupP (xs := []) (by decide) fun z r H' e _ hs hz => h z H' hs (by rw [← e]; exact hz)
theorem wp_tupP1 {a : Str} (h : ∀ (z : V) (r : List Str) H', r = [a] → r.length = 1 → Same H H' → IsP H' z r → Q z H') : tupK [.str a] H Q := wp_tupP (xs := [a]) (by show 1 ≤ 1000; decide) h
theorem wp_tupP2 {a b : Str} (h : ∀ (z : V) (r : List Str) H', r = [a, b] → r.length = 2 → Same H H' → IsP H' z r → Q z H') : tupK [.str a, .str b] H Q := wp_tupP (xs := [a, b]) (by show 2 ≤ 1000; decide) h
theorem wp_cB {r : List V → Hp → VK → Prop} {t : TA} (h : t σ H fun vs H1 => r vs H1 Q) : tCB r t σ H Q := h
theorem wp_noPart {R : Option Int → Hp → Prop} (h : R none H) : tNoPart σ H R := h
theorem wp_part {R : Option Int → Hp → Prop} (h : te σ H fun x H1 => ∃ i, x = .int i ∧ R (some i) H1) : tPart te σ H R := h
theorem wp_int {b : Int} {P : Int → Prop} (h : P b) : ∃ k, V.int b = .int k ∧ P k := ⟨b, rfl, h⟩
theorem wp_sl {r : V → Option Int → Option Int → Hp → VK → Prop} {tl th : TO} (h : te σ H fun x H1 => tl σ H1 fun l H2 => th σ H2 fun u H3 => r x l u H3 Q) : tSl r te tl th σ H Q := h
def tLoop (g : TG) (tb : TS) (D : Ends) (σ : St) (J : It) (H1 : Hp) : Prop := ∃ W : Nat → Nat → St → Hp → Prop, (∃ m, W 0 m σ H1) ∧ ∀ i m σ H, W i m σ H →
  (J.stop i H ∧ D.nx σ H) ∨ (J.go i H ∧ ∃ N : St → Hp → Prop, (∀ σ' H', N σ' H' → ∃ m', m' < m ∧ W (i + 1) m' σ' H') ∧ ∀ x H', J.yld i H x H' → g x σ H' fun σ2 H2 => tb { D with nx := N, ct := N, bk := D.nx } σ2 H2)
theorem wp_for {wi : TI} {g : TG} {tb : TS} (h : wi σ H (tLoop g tb D σ)) : tFor wi g tb D σ H := h
theorem loop_range {lo : Int} {n : Nat} {g : TG} {tb : TS} (Pv : Nat → St → Hp → Prop) (h0 : Pv 0 σ H)
    (hs : ∀ i σ H, i < n → Pv i σ H → g (.int (lo + i)) σ H fun σ2 H2 => tb { D with nx := Pv (i + 1), ct := Pv (i + 1), bk := D.nx } σ2 H2) (hd : ∀ σ H, Pv n σ H → D.nx σ H) : tLoop g tb D σ (Itr lo n) H := for_range Pv h0 hs hd
theorem loop_list {a : Addr} {xs : List V} {g : TG} {tb : TS} (Pv : Nat → St → Hp → Prop) (h0 : Pv 0 σ H) (hl : ∀ i σ H, i ≤ xs.length → Pv i σ H → SqL K H a xs)
    (hs : ∀ i x σ H, xs[i]? = some x → Pv i σ H → g x σ H fun σ2 H2 => tb { D with nx := Pv (i + 1), ct := Pv (i + 1), bk := D.nx } σ2 H2) (hd : ∀ σ H, Pv xs.length σ H → D.nx σ H) : tLoop g tb D σ (Itl K a) H := for_list Pv h0 hl hs hd
theorem loop_tup {a : Addr} {xs : List V} {g : TG} {tb : TS} (Pv : Nat → St → Hp → Prop) (h0 : Pv 0 σ H) (hl : ∀ i σ H, i ≤ xs.length → Pv i σ H → SqT K H a xs)
    (hs : ∀ i x σ H, xs[i]? = some x → Pv i σ H → g x σ H fun σ2 H2 => tb { D with nx := Pv (i + 1), ct := Pv (i + 1), bk := D.nx } σ2 H2) (hd : ∀ σ H, Pv xs.length σ H → D.nx σ H) : tLoop g tb D σ (Itt K a) H := for_tup Pv h0 hl hs hd
theorem wp_rng1 {t : TA} {R : It → Hp → Prop} (h : t σ H fun vs H1 => ∃ j : Int, vs = [.int j] ∧ -(2 ^ 62) ≤ j ∧ j < 2 ^ 62 ∧ R (Itr 0 j.toNat) H1) : iRng1 t σ H R := h
theorem wp_rng1' {R : It → Hp → Prop} {j : Int} (h1 : -(2 ^ 62) ≤ j) (h2 : j < 2 ^ 62) (h : R (Itr 0 j.toNat) H) : ∃ k : Int, [V.int j] = [V.int k] ∧ -(2 ^ 62) ≤ k ∧ k < 2 ^ 62 ∧ R (Itr 0 k.toNat) H := ⟨j, rfl, h1, h2, h⟩
theorem wp_list {tl : TE} {R : It → Hp → Prop} (h : tl σ H fun x H1 => ∃ a, x = .ref a ∧ (∃ xs, SqL K H1 a xs) ∧ R (Itl K a) H1) : iList K tl σ H R := h
theorem wp_ituple {tl : TE} {R : It → Hp → Prop} (h : tl σ H fun x H1 => ∃ a, x = .ref a ∧ (∃ xs, SqT K H1 a xs) ∧ R (Itt K a) H1) : iTup K tl σ H R := h
/-- tests -/
theorem wp_iteP {p A B : Prop} {inst : Decidable p} (h1 : p → A) (h2 : ¬ p → B) : if decide p = true then A else B := by
  by_cases h : p
  · rw [decide_eq_true h]; exact iteT (h1 h)
  · rw [decide_eq_false h]; exact iteF (h2 h)
theorem wp_iteN {p A B : Prop} {inst : Decidable p} (h1 : ¬ p → A) (h2 : p → B) : if (!decide p) = true then A else B := by
  by_cases h : p
  · rw [decide_eq_true h]; exact iteF (h2 h)
  · rw [decide_eq_false h]; exact iteT (h1 h)
theorem wp_iteB {b : Bool} {A B : Prop} (h1 : b = true → A) (h2 : b = false → B) : if b = true then A else B := by
  cases b
  · exact iteF (h2 rfl)
  · exact iteT (h1 rfl)
theorem wp_iteNB {b : Bool} {A B : Prop} (h1 : b = false → A) (h2 : b = true → B) : if (!b) = true then A else B := by
  cases b
  · exact iteT (h1 rfl)
  · exact iteF (h2 rfl)
/-- texts -/
theorem wp_addS {x y : Str} (hz : x.length + y.length ≤ sizeLine) (h : Q (.str (x ++ y)) H) : rAddS (.str x) (.str y) H Q := ⟨x, y, rfl, rfl, hz, h⟩
theorem wp_mulS {x : Str} {n : Int} (h1 : n ≤ 1000) (h2 : -1000 ≤ n) (hz : x.length ≤ 1000) (h : (strRep x n).length ≤ x.length * n.toNat → Q (.str (strRep x n)) H) : rMulS (.str x) (.int n) H Q := ⟨x, n, rfl, rfl, h1, h2, hz, h (strRep_len x n)⟩
theorem wp_ltS {x y : Str} (h : Q (.bl (decide (x.cps.toList < y.cps.toList))) H) : rLtS (.str x) (.str y) H Q := ⟨x, y, rfl, rfl, h⟩
theorem wp_gtS {x y : Str} (h : Q (.bl (decide (y.cps.toList < x.cps.toList))) H) : rGtS (.str x) (.str y) H Q := ⟨x, y, rfl, rfl, h⟩
theorem wp_lenS {x : Str} (hz : x.length ≤ sizeLine) (h : Q (.int x.length) H) : rLenS [.str x] H Q := ⟨x, rfl, hz, h⟩
theorem wp_lenP {x : V} {p : List Str} (hx : IsP H x p) (h : Q (.int p.length) H) : rLenP [x] H Q := ⟨x, p, rfl, hx, h⟩
theorem wp_isi {x c : V} {t cv : Value} {b : Bool} (ht : TyOf K H x t) (hc : clsVal c = some cv) (hk : PySem.W.kitOne K t cv = some b) (h : Q (.bl b) H) : rIsi K [x, c] H Q := ⟨x, c, t, cv, b, rfl, ht, hc, hk, h⟩
theorem str_app_len (x y : Str) : (x ++ y).length = x.length + y.length := by
  show (x.cps ++ y.cps).size = _
  rw [Array.size_append]; rfl
theorem wp_ixS {z : Str} {j : Int} {c : Nat} (hz : z.length ≤ sizeLine) (hc : atI z.cps.toList j = some c) (h : Q (.str ⟨#[c]⟩) H) : rIxS (.str z) (.int j) H Q := ⟨z, j, c, rfl, rfl, hz, hc, h⟩
theorem atI_some {α : Type} {xs : List α} {j : Int} (h0 : 0 ≤ j) (h1 : j < xs.length) : ∃ v, atI xs j = some v := by
  have hl : j.toNat < xs.length := by omega
  refine ⟨xs[j.toNat], ?_⟩
  unfold atI ixN
  rw [if_pos h0, if_pos h1]
  simp [hl]
theorem wp_ixS' {z : Str} {j : Int} (hz : z.length ≤ sizeLine) (h0 : 0 ≤ j) (h1 : j < z.length) (h : ∀ y : Str, y.length = 1 → (∃ c : Nat, atI z.cps.toList j = some c ∧ y = ⟨#[c]⟩) → Q (.str y) H) : rIxS (.str z) (.int j) H Q := by
  obtain ⟨c, hc⟩ := atI_some (xs := z.cps.toList) h0 (by simpa [Str.length] using h1)
  exact ⟨z, j, c, rfl, rfl, hz, hc, h ⟨#[c]⟩ rfl ⟨c, hc, rfl⟩⟩
theorem wp_slS {z : Str} {lo hi : Option Int} (hz : z.length ≤ sizeLine) (h : ∀ y : Str, y = Txt.slice z lo hi → y.length ≤ z.length → Q (.str y) H) : rSlS (.str z) lo hi H Q := ⟨z, rfl, hz, h _ rfl (Txt.slice_le z lo hi)⟩
theorem wp_eqP {x y : V} {p q : List Str} (hx : IsP H x p) (hy : IsP H y q) (h : Q (.bl (decide (p = q))) H) : rEqP x y H Q := ⟨p, q, hx, hy, h⟩
theorem wp_neP {x y : V} {p q : List Str} (hx : IsP H x p) (hy : IsP H y q) (h : Q (.bl (!decide (p = q))) H) : rNeP x y H Q := ⟨p, q, hx, hy, h⟩
theorem wp_catP {x y : V} {p q : List Str} (hx : IsP H x p) (hy : IsP H y q) (hl : p.length + q.length ≤ sizeLine) (h : ∀ (z : V) (r : List Str) H', r = p ++ q → r.length = p.length + q.length → Same H H' → IsP H' z r → Q z H') : rCatP x y H Q := ⟨p, q, hx, hy, hl, fun z H' hs hz => h z _ H' rfl List.length_append hs hz⟩
theorem wp_slP {x : V} {p : List Str} {lo hi : Option Int} (hx : IsP H x p) (h : ∀ (z : V) (r : List Str) H', r = cutP p lo hi → r.length ≤ p.length → Same H H' → IsP H' z r → Q z H') : rSlP x lo hi H Q := ⟨p, hx, fun z H' hs hz => h z _ H' rfl (by
  unfold cutP
  rw [List.length_take, List.length_drop]; omega) hs hz⟩
theorem wp_ixP {x : V} {p : List Str} {j : Int} {z : Str} (hx : IsP H x p) (hz : atI p j = some z) (h : Q (.str z) H) : rIxP x (.int j) H Q := ⟨p, j, z, hx, rfl, hz, h⟩
theorem wp_isiP {x : V} {p : List Str} (hx : IsP H x p) (hk : PySem.W.kitOne K (.type "tuple") (.type "tuple") = some true) (h : Q (.bl true) H) : rIsi K [x, .ty "tuple"] H Q := by
  obtain ⟨a, rfl, e⟩ := hx
  exact ⟨_, _, _, _, true, rfl, .tup e, rfl, hk, h⟩
theorem wp_isiS {x : Str} (hk : PySem.W.kitOne K (.type "str") (.type "str") = some true) (h : Q (.bl true) H) : rIsi K [.str x, .ty "str"] H Q := ⟨_, _, _, _, true, rfl, .str x, rfl, hk, h⟩
theorem wp_isiB {b : Bool} (hk : PySem.W.kitOne K (.type "bool") (.type "bool") = some true) (h : Q (.bl true) H) : rIsi K [.bl b, .ty "bool"] H Q := ⟨_, _, _, _, true, rfl, .bl b, rfl, hk, h⟩
end
theorem cutP_to (p : List Str) (n : Nat) : cutP p none (some (n : Int)) = p.take n := by
  unfold cutP
  rw [HT.sIx_none, HT.sIx_nat]
  simp only [List.drop_zero, Nat.sub_zero]
  by_cases h : n ≤ p.length
  · rw [Nat.min_eq_left h]
  · rw [Nat.min_eq_right (by omega), List.take_of_length_le (by omega), List.take_of_length_le (by omega)]
theorem cutP_from (p : List Str) (n : Nat) : cutP p (some (n : Int)) none = p.drop n := by
  unfold cutP
  rw [HT.sIx_none, HT.sIx_nat]
  by_cases h : n ≤ p.length
  · rw [Nat.min_eq_left h, List.take_of_length_le (by rw [List.length_drop]; omega)]
  · rw [Nat.min_eq_right (by omega), List.drop_of_length_le (by omega), List.drop_of_length_le (by omega), List.take_nil]
theorem cutP_le (p : List Str) (lo hi : Option Int) : (cutP p lo hi).length ≤ p.length := by
  unfold cutP
  rw [List.length_take, List.length_drop]; omega
theorem cutP_mem {p : List Str} {lo hi : Option Int} {x : Str} (h : x ∈ cutP p lo hi) : x ∈ p := List.mem_of_mem_drop (List.mem_of_mem_take h)
theorem atI_end {p : List Str} (h : p ≠ []) : ∃ z, atI p (-1) = some z ∧ z ∈ p := by
  have hl : 0 < p.length := List.length_pos_iff.mpr h
  refine ⟨p[p.length - 1], ?_, List.getElem_mem _⟩
  unfold atI ixN
  rw [if_neg (by decide), if_pos (by omega)]
  have e : ((-1 : Int) + (p.length : Int)).toNat = p.length - 1 := by omega
  rw [e]
  show p[p.length - 1]? = some _
  exact List.getElem?_eq_getElem (by omega)
theorem atI_at {p : List Str} {i : Nat} (h : i < p.length) : atI p ((0 : Int) + (i : Int)) = some p[i] := by
  rw [Int.zero_add]
  exact atI_nat (List.getElem?_eq_getElem h)

/-! ### calls of the text's own defs -/
structure Fn (K : PySem.W.Frag) (mg : Str → Option Value) (x : Str) (st : Stmt) (ps : List Str) : Prop where
  ex : ∃ f fd, Fun K x x st f fd ∧ mg x = some (.ref f) ∧ Binds K fd ps []
structure FnAll (P : Program) (w : World) (K : PySem.W.Frag) (mg : Str → Option Value) (base : Heap) (x : Str) (k : Nat) (ps : List Str) (sp : Sp) : Prop where
  ex : ∃ f fd, FnOk P w K mg base CX0 k f fd ps sp ∧ mg x = some (.ref f) ∧ PySem.W.keepIn K (.ref f) = true ∧ Binds K fd ps []
section
variable {P : Program} {w : World} {K : PySem.W.Frag} {mg : Str → Option Value} {base : Heap}
theorem Fn.ok {x : Str} {st : Stmt} {N ps : List Str} {k : Nat} {sp : Sp} (F : Fn K mg x st ps) (S : FnScope N ps (defScope st)) (len : ∀ vs H Q E, sp vs H Q E → vs.length = ps.length)
    (hbody : ∀ (f : Addr) (cdv : Value) (A : Around) (outer : List Env) (s : Shared) (H : Hp) (vs : List V) (Q : VK) (E : XK), Room k (A.deeper (envOfC x (defScope st) s.heap.objs.size f cdv)) → sp vs H Q E →
      ∃ t, PSs (cxOf CX0 P w K mg base N x (defScope st) f cdv A outer s H E).nox (defBody st) t ∧ t { nx := fun _ H' => Q .non H', rt := Q } (start N vs) H) : FnAll P w K mg base x (k + 1) ps sp := by
  obtain ⟨f, fd, F, hm, hb⟩ := F.ex
  exact ⟨f, fd, F.ok S len (fun cdv A outer s H vs Q E hr h => hbody f cdv A outer s H vs Q E hr h), hm, F.kp, hb⟩
end
section
variable {X : Cx} {x : Str} {k n : Nat} {ps : List Str} {sp : Sp} {e : Expr} {es : List Expr} {t : TA} {p pos : Pos}
def tCall0 (sp : Sp) (t : TA) : TE := fun σ H Q => t σ H fun vs H1 => sp vs H1 Q E0
theorem pe_callF (F : FnAll X.prog X.w X.K X.mg X.base x k ps sp) (hr : Room n X.A) (ha : PA X (e :: es) t) (hk : k ≤ n := by decide) (hg : Gl X x := by rfl) (hdb : (x == ("__debug__" : Str)) = false := by decide)
    (he : starEach (e :: es) X.env = (false, eval e X.env) :: starEach es X.env := by rfl) (hpl : (backTo pos (starEach es X.env)).any (·.1) = false := by rfl) : PE X (.Call (.Name x p) (e :: es) [] pos) (tCall0 sp t) := by
  obtain ⟨f, fd, G, hm, hkp, hb⟩ := F.ex
  intro pins s σ H Q I h
  refine pe_call G (hr.mono hk) hg hm hkp hb .nil pass0 ha hdb he hpl pins s σ H Q I ?_
  have z : tCall sp [] E0 t = tCall0 sp t := by
    unfold tCall tCall0
    funext σ H Q
    congr 1
    funext vs H1
    rw [List.append_nil]
  rw [z]; exact h
theorem wp_call {σ : St} {H : Hp} {Q : VK} (h : t σ H fun vs H1 => sp vs H1 Q E0) : tCall0 sp t σ H Q := h
end
end L2

set_option Elab.async false
set_option linter.all false
set_option maxRecDepth 100000
set_option maxHeartbeats 0
namespace L2
open PySem PySem.Spec PyProof.Rows

/-! ### methods of any of several classes, instances made -/
structure MethAll (P : Program) (w : World) (K : PySem.W.Frag) (mg : Str → Option Value) (base : Heap) (C : Addr) (m : Str) (k : Nat) (ps : List Str) (sp : Sp) : Prop where
  ex : ∃ f fd, Cls K C ∧ Meth K C m f ∧ FnOk P w K mg base CX0 k f fd ps sp ∧ Binds K fd ps []
structure MkAll (P : Program) (w : World) (K : PySem.W.Frag) (mg : Str → Option Value) (base : Heap) (x : Str) (C : Addr) (k : Nat) (ps : List Str) (sp : Sp) : Prop where
  ex : ∃ f fd, Mk K C f ∧ FnOk P w K mg base CX0 k f fd ps sp ∧ Binds K fd ps [] ∧ mg x = some (.ref C)
/-- a def of a class's body, as the top has left it -/
structure Mt (K : PySem.W.Frag) (C : Addr) (x qual : Str) (st : Stmt) (ps : List Str) : Prop where
  ex : ∃ f fd, Fun K x qual st f fd ∧ PySem.W.findIn K (.ref C) x = some (some (.ref f)) ∧ PySem.W.isFn K (.ref f) = true ∧ Binds K fd ps []
def methK (ok : Addr → Prop) (m : Str) (sp : Addr → Sp) (t : TA) (x : V) (σ : St) (H1 : Hp) (Q : VK) : Prop := ∃ a C dx fs, x = .ref a ∧ H1 a = some (.ins C dx fs) ∧ ok C ∧ fs.lookup m = none ∧ t σ H1 fun vs H2 => sp C (x :: vs) H2 Q E0
def tMethD (ok : Addr → Prop) (m : Str) (sp : Addr → Sp) (ta : TE) (t : TA) : TE := fun σ H Q => ta σ H fun x H1 => methK ok m sp t x σ H1 Q
def mkK (C : Addr) (sp : Sp) (vs : List V) (H : Hp) (Q : VK) : Prop := ∀ x dx, H x = none → H dx = none → dx ≠ x → sp (.ref x :: vs) (upd (upd H dx (.own x)) x (.ins C dx [])) (fun v H2 => v = .non ∧ Q (.ref x) H2) E0
def tMake0 (C : Addr) (sp : Sp) (t : TA) : TE := fun σ H Q => t σ H fun vs H1 => mkK C sp vs H1 Q
section
variable {P : Program} {w : World} {K : PySem.W.Frag} {mg : Str → Option Value} {base : Heap}
theorem Mt.ok {C : Addr} {x qual : Str} {st : Stmt} {N ps : List Str} {k : Nat} {sp : Sp} (F : Mt K C x qual st ps) (c : Cls K C) (S : FnScope N ps (defScope st)) (len : ∀ vs H Q E, sp vs H Q E → vs.length = ps.length)
    (hbody : ∀ (f : Addr) (cdv : Value) (A : Around) (outer : List Env) (s : Shared) (H : Hp) (vs : List V) (Q : VK) (E : XK), Room k (A.deeper (envOfC qual (defScope st) s.heap.objs.size f cdv)) → sp vs H Q E →
      ∃ t, PSs (cxOf CX0 P w K mg base N qual (defScope st) f cdv A outer s H E).nox (defBody st) t ∧ t { nx := fun _ H' => Q .non H', rt := Q } (start N vs) H) : MethAll P w K mg base C x (k + 1) ps sp := by
  obtain ⟨f, fd, F, hf, hi, hb⟩ := F.ex
  exact ⟨f, fd, c, ⟨hf, hi, F.kp⟩, F.ok S len (fun cdv A outer s H vs Q E hr h => hbody f cdv A outer s H vs Q E hr h), hb⟩
theorem MethAll.make {x : Str} {C : Addr} {k : Nat} {ps : List Str} {sp : Sp} (M : MethAll P w K mg base C "__init__" k ps sp) (hm : PySem.W.makesIn K C = true) (kp : PySem.W.keepIn K (.ref C) = true) (hg : mg x = some (.ref C)) : MkAll P w K mg base x C k ps sp := by
  obtain ⟨f, fd, c, m, G, b⟩ := M.ex
  exact ⟨f, fd, ⟨hm, m.at_, m.fn, kp⟩, G, b, hg⟩
end
section
variable {X : Cx} {ok : Addr → Prop} {m : Str} {k n : Nat} {ps : List Str} {sp : Sp} {spC : Addr → Sp} {o e : Expr} {es : List Expr} {t : TA} {ta : TE} {p pos apos : Pos} {x : Str} {C : Addr}
theorem pe_methD {pl : Sem Bool} (hok : ∀ C, ok C → MethAll X.prog X.w X.K X.mg X.base C m k ps (spC C)) (hr : Room n X.A) (he : PE X o ta) (ha : PA X (e :: es) t) (hk : k ≤ n := by decide)
    (hst : starEach (e :: es) X.env = (false, eval e X.env) :: starEach es X.env := by rfl) (hpl : (backTo pos (starEach es X.env)).any (·.1) = false := by rfl)
    (ht : eval (.Call (.Attribute o m apos) (e :: es) [] pos) X.env = (do
      let ov ← eval o X.env
      standAt apos.atName
      let (f, first) ← holding [ov] (getMethod ov m pl)
      callWith pos f first (backTo pos (starEach (e :: es) X.env)) (backToKw pos (keywordEach [] X.env))) := by rfl) :
    PE X (.Call (.Attribute o m apos) (e :: es) [] pos) (tMethD ok m spC ta t) := by
  intro pins s σ H Q I h
  refine PySem.W.methodCall_KW (pl := pl) (thn (he pins s σ H _ I h) fun u s1 ⟨x, H1, I1, rx, a, C, dx, fs, ex, ea, hC, l, q⟩ => ?_) ht
  subst ex
  obtain rfl : u = Value.ref a := rx
  obtain ⟨f, fd, c, hm, F, hb⟩ := (hok C hC).ex
  refine getmeth_ok I1 ea c hm l ?_
  refine PySem.W.callWith_K (first := [.ref a]) (h₀ := X.base) I.ok.mod.kin hm.kp (thn (ha pos pins s1 σ H1 _ I1 q) fun us s2 ⟨vs, H2, I2, r, q2⟩ => ⟨I2.kIn, ?_⟩) hst hpl
  exact run_fn (us := .ref a :: us) (vs := .ref a :: vs) (dvs := []) F (hr.mono hk) hb .nil pass0 I2 (.cons rfl r) (by rw [List.append_nil]; exact q2)
theorem pe_methD0 {pl : Sem Bool} (hok : ∀ C, ok C → MethAll X.prog X.w X.K X.mg X.base C m k ps (spC C)) (hr : Room n X.A) (he : PE X o ta) (hk : k ≤ n := by decide)
    (ht : eval (.Call (.Attribute o m apos) [] [] pos) X.env = (do
      let ov ← eval o X.env
      standAt apos.atName
      let (f, first) ← holding [ov] (getMethod ov m pl)
      callWith pos f first (backTo pos (starEach [] X.env)) (backToKw pos (keywordEach [] X.env))) := by rfl) :
    PE X (.Call (.Attribute o m apos) [] [] pos) (tMethD ok m spC ta tNil) := by
  intro pins s σ H Q I h
  refine PySem.W.methodCall_KW (pl := pl) (thn (he pins s σ H _ I h) fun u s1 ⟨x, H1, I1, rx, a, C, dx, fs, ex, ea, hC, l, q⟩ => ?_) ht
  subst ex
  obtain rfl : u = Value.ref a := rx
  obtain ⟨f, fd, c, hm, F, hb⟩ := (hok C hC).ex
  refine getmeth_ok I1 ea c hm l ?_
  exact PySem.W.callWith_K0 (first := [.ref a]) I1.kIn hm.kp (run_fn (us := [.ref a]) (vs := [.ref a]) (dvs := []) F (hr.mono hk) hb .nil pass0 I1 (.cons rfl .nil) q)
theorem pe_makeF (M : MkAll X.prog X.w X.K X.mg X.base x C k ps sp) (hr : Room n X.A) (ha : PA X (e :: es) t) (hk : k + 1 ≤ n := by decide) (hg : Gl X x := by rfl) (hdb : (x == ("__debug__" : Str)) = false := by decide)
    (he : starEach (e :: es) X.env = (false, eval e X.env) :: starEach es X.env := by rfl) (hpl : (backTo pos (starEach es X.env)).any (·.1) = false := by rfl) : PE X (.Call (.Name x p) (e :: es) [] pos) (tMake0 C sp t) := by
  obtain ⟨f, fd, M, G, b, hm⟩ := M.ex
  intro pins s σ H Q I h
  refine pe_make M G (hr.mono hk) hg hm b .nil pass0 ha hdb he hpl pins s σ H Q I ?_
  have z : tMake C sp [] E0 t = tMake0 C sp t := by
    unfold tMake tMake0 mkK
    funext σ H Q
    congr 1
    funext vs H1
    rw [List.append_nil]
  rw [z]; exact h
end
section
variable {σ : St} {H : Hp} {Q : VK} {D : Ends} {K : PySem.W.Frag} {ta tb te : TE} {v : V} {i : Nat} {C a dx : Addr} {fs : List (Str × V)} {f : Str}
theorem wp_make {sp : Sp} {t : TA} (h : t σ H fun vs H1 => mkK C sp vs H1 Q) : tMake0 C sp t σ H Q := h
theorem wp_methD {ok : Addr → Prop} {m : Str} {sp : Addr → Sp} {t : TA} (h : ta σ H fun x H1 => methK ok m sp t x σ H1 Q) : tMethD ok m sp ta t σ H Q := h
def fldK (K : PySem.W.Frag) (f : Str) (x : V) (H : Hp) (Q : VK) : Prop := ∃ a C dx fs v, x = .ref a ∧ H a = some (.ins C dx fs) ∧ Cls K C ∧ NoAttr K C f ∧ fs.lookup f = some v ∧ Q v H
theorem wp_fld (h : ta σ H fun x H1 => fldK K f x H1 Q) : tFld K ta f σ H Q := h
theorem wp_fldK (ha : H a = some (.ins C dx fs)) (c : Cls K C) (n : NoAttr K C f) (l : fs.lookup f = some v) (h : Q v H) : fldK K f (.ref a) H Q := ⟨a, C, dx, fs, v, rfl, ha, c, n, l, h⟩
def sfK (K : PySem.W.Frag) (f : Str) (x y : V) (H : Hp) (R : Hp → Prop) : Prop := ∃ a C dx fs, x = .ref a ∧ H a = some (.ins C dx fs) ∧ Cls K C ∧ NoAttr K C f ∧ fs.length < 1000 ∧ R (upd H a (.ins C dx (putF f y fs)))
theorem wp_sfld (h : tb σ H fun y H1 => ta σ H1 fun x H2 => sfK K f x y H2 (D.nx σ)) : sFld K ta tb f D σ H := h
theorem wp_sfK {y : V} {R : Hp → Prop} (ha : H a = some (.ins C dx fs)) (c : Cls K C) (n : NoAttr K C f) (l : fs.length < 1000) (h : R (upd H a (.ins C dx (putF f y fs)))) : sfK K f (.ref a) y H R := ⟨a, C, dx, fs, rfl, ha, c, n, l, h⟩
theorem at_same {H H' : Hp} {a : Addr} {o : HO} (h : H a = some o) (s : Same H H') : H' a = some o := s _ _ h
/-- __init__ that stores its arguments -/
def spInit (C : Addr) (names : List Str) : Sp := fun vs H Q _ => ∃ (x dx : Addr) (us : List V), vs = .ref x :: us ∧ us.length = names.length ∧ H x = some (.ins C dx []) ∧ ∀ H', H' x = some (.ins C dx (names.zip us)) → (∀ b, b ≠ x → H' b = H b) → Q .non H'
theorem mk_use {names : List Str} {us : List V} (hl : us.length = names.length) (h : ∀ x dx H', Same H H' → H' x = some (.ins C dx (names.zip us)) → Q (.ref x) H') : mkK C (spInit C names) us H Q := by
  intro x dx hx hdx hne
  refine ⟨x, dx, us, rfl, hl, upd_same, fun H' e1 e2 => ⟨rfl, h x dx H' (fun b o e => ?_) e1⟩⟩
  rw [e2 b (ne_of_none e hx), upd_ne (ne_of_none e hx), upd_ne (ne_of_none e hdx)]
  exact e
end
section
variable {P : Program} {w : World} {K : PySem.W.Frag} {mg : Str → Option Value} {base : Heap} {C : Addr}
end

/-! ### deeds -/
structure Cl where
  deed : Addr
  put : Addr
  cut : Addr
  set : Addr
  move : Addr
inductive DD where
  | put (p : List Str) (n : Int) | cut (p : List Str) (n : Int) | set (p : List Str) (n m : Int) | move (p q : List Str)
  deriving DecidableEq
def DD.cls (c : Cl) : DD → Addr
  | .put _ _ => c.put
  | .cut _ _ => c.cut
  | .set _ _ _ => c.set
  | .move _ _ => c.move
def DD.flds (x y : V) : DD → List (Str × V)
  | .put _ n => [("path", x), ("number", .int n)]
  | .cut _ n => [("path", x), ("number", .int n)]
  | .set _ n m => [("path", x), ("old", .int n), ("new", .int m)]
  | .move _ _ => [("path", x), ("goal", y)]
def DD.word : DD → Str
  | .put _ _ => "put"
  | .cut _ _ => "cut"
  | .set _ _ _ => "set"
  | .move _ _ => "move"
def DD.tl (x y : V) : DD → List V
  | .put _ n => [.str "put", x, .int n]
  | .cut _ n => [.str "cut", x, .int n]
  | .set _ n m => [.str "set", x, .int n, .int m]
  | .move _ _ => [.str "move", x, y]
def DD.holds (H : Hp) (x y : V) : DD → Prop
  | .put p _ => IsP H x p
  | .cut p _ => IsP H x p
  | .set p _ _ => IsP H x p
  | .move p q => IsP H x p ∧ IsP H y q
def DD.back : DD → DD
  | .put p n => .cut p n
  | .cut p n => .put p n
  | .set p n m => .set p m n
  | .move p q => .move q p
theorem DD.back_back (d : DD) : d.back.back = d := by cases d <;> rfl
theorem DD.holds_same {H H' : Hp} {x y : V} {d : DD} (h : d.holds H x y) (s : Same H H') : d.holds H' x y := by
  cases d with
  | put p n => exact IsP.same h s
  | cut p n => exact IsP.same h s
  | set p n m => exact IsP.same h s
  | move p q => exact ⟨IsP.same h.1 s, IsP.same h.2 s⟩
/-- an instance that is the deed d -/
def IsD (c : Cl) (H : Hp) (v : V) (d : DD) : Prop := ∃ a dx x y, v = .ref a ∧ H a = some (.ins (d.cls c) dx (d.flds x y)) ∧ d.holds H x y
/-- a tuple that tells d -/
def IsT (H : Hp) (v : V) (d : DD) : Prop := ∃ a x y, v = .ref a ∧ H a = some (.tup (d.tl x y)) ∧ d.holds H x y
theorem IsD.same {c : Cl} {H H' : Hp} {v : V} {d : DD} (h : IsD c H v d) (s : Same H H') : IsD c H' v d := let ⟨a, dx, x, y, e, q, r⟩ := h; ⟨a, dx, x, y, e, s _ _ q, DD.holds_same r s⟩
theorem IsT.same {H H' : Hp} {v : V} {d : DD} (h : IsT H v d) (s : Same H H') : IsT H' v d := let ⟨a, x, y, e, q, r⟩ := h; ⟨a, x, y, e, s _ _ q, DD.holds_same r s⟩
section
variable {σ : St} {H : Hp} {Q : VK} {c : Cl} {K : PySem.W.Frag}
theorem mk_put {x : V} {p : List Str} {n : Int} (hx : IsP H x p) (h : ∀ z H', Same H H' → IsD c H' z (.put p n) → Q z H') : mkK c.put (spInit c.put ["path", "number"]) [x, .int n] H Q :=
  mk_use rfl fun a dx H' hs e => h _ H' hs ⟨a, dx, x, .non, rfl, e, hx.same hs⟩
theorem mk_cut {x : V} {p : List Str} {n : Int} (hx : IsP H x p) (h : ∀ z H', Same H H' → IsD c H' z (.cut p n) → Q z H') : mkK c.cut (spInit c.cut ["path", "number"]) [x, .int n] H Q :=
  mk_use rfl fun a dx H' hs e => h _ H' hs ⟨a, dx, x, .non, rfl, e, hx.same hs⟩
theorem mk_set {x : V} {p : List Str} {n m : Int} (hx : IsP H x p) (h : ∀ z H', Same H H' → IsD c H' z (.set p n m) → Q z H') : mkK c.set (spInit c.set ["path", "old", "new"]) [x, .int n, .int m] H Q :=
  mk_use rfl fun a dx H' hs e => h _ H' hs ⟨a, dx, x, .non, rfl, e, hx.same hs⟩
theorem mk_move {x y : V} {p q : List Str} (hx : IsP H x p) (hy : IsP H y q) (h : ∀ z H', Same H H' → IsD c H' z (.move p q) → Q z H') : mkK c.move (spInit c.move ["path", "goal"]) [x, y] H Q :=
  mk_use rfl fun a dx H' hs e => h _ H' hs ⟨a, dx, x, y, rfl, e, hx.same hs, hy.same hs⟩
theorem tupK_new {xs : List V} (hz : xs.length ≤ 1000) (h : ∀ a H', Same H H' → H' a = some (.tup xs) → Q (.ref a) H') : tupK xs H Q :=
  ⟨Nat.le_of_lt (small1000 hz), fun p hp => h p _ (Same.upd hp) upd_same⟩
theorem wp_tput {x : V} {p : List Str} {n : Int} (hx : IsP H x p) (h : ∀ z H', Same H H' → IsT H' z (.put p n) → Q z H') : tupK [.str "put", x, .int n] H Q :=
  tupK_new (by show 3 ≤ 1000; decide) fun a H' hs e => h _ H' hs ⟨a, x, .non, rfl, e, hx.same hs⟩
theorem wp_tcut {x : V} {p : List Str} {n : Int} (hx : IsP H x p) (h : ∀ z H', Same H H' → IsT H' z (.cut p n) → Q z H') : tupK [.str "cut", x, .int n] H Q :=
  tupK_new (by show 3 ≤ 1000; decide) fun a H' hs e => h _ H' hs ⟨a, x, .non, rfl, e, hx.same hs⟩
theorem wp_tset {x : V} {p : List Str} {n m : Int} (hx : IsP H x p) (h : ∀ z H', Same H H' → IsT H' z (.set p n m) → Q z H') : tupK [.str "set", x, .int n, .int m] H Q :=
  tupK_new (by show 4 ≤ 1000; decide) fun a H' hs e => h _ H' hs ⟨a, x, .non, rfl, e, hx.same hs⟩
theorem wp_tmove {x y : V} {p q : List Str} (hx : IsP H x p) (hy : IsP H y q) (h : ∀ z H', Same H H' → IsT H' z (.move p q) → Q z H') : tupK [.str "move", x, y] H Q :=
  tupK_new (by show 3 ≤ 1000; decide) fun a H' hs e => h _ H' hs ⟨a, x, y, rfl, e, hx.same hs, hy.same hs⟩
theorem wp_ixT {a : Addr} {xs : List V} {j : Int} {v : V} (ha : H a = some (.tup xs)) (hv : atI xs j = some v) (h : Q v H) : rIxT K (.ref a) (.int j) H Q := ⟨a, xs, j, v, rfl, rfl, .inl (.inl ha), hv, h⟩
end

/-! ### what the classes are -/
structure Cl.Dist (c : Cl) : Prop where
  pc : c.put ≠ c.cut
  ps : c.put ≠ c.set
  pm : c.put ≠ c.move
  cs : c.cut ≠ c.set
  cm : c.cut ≠ c.move
  sm : c.set ≠ c.move
theorem Cl.Dist.put {c : Cl} (h : c.Dist) {d : DD} (e : d.cls c = c.put) : ∃ p n, d = .put p n := by
  cases d with
  | put p n => exact ⟨p, n, rfl⟩
  | cut p n => exact absurd e.symm h.pc
  | set p n m => exact absurd e.symm h.ps
  | move p q => exact absurd e.symm h.pm
theorem Cl.Dist.cut {c : Cl} (h : c.Dist) {d : DD} (e : d.cls c = c.cut) : ∃ p n, d = .cut p n := by
  cases d with
  | put p n => exact absurd e h.pc
  | cut p n => exact ⟨p, n, rfl⟩
  | set p n m => exact absurd e.symm h.cs
  | move p q => exact absurd e.symm h.cm
theorem Cl.Dist.set {c : Cl} (h : c.Dist) {d : DD} (e : d.cls c = c.set) : ∃ p n m, d = .set p n m := by
  cases d with
  | put p n => exact absurd e h.ps
  | cut p n => exact absurd e h.cs
  | set p n m => exact ⟨p, n, m, rfl⟩
  | move p q => exact absurd e.symm h.sm
theorem Cl.Dist.move {c : Cl} (h : c.Dist) {d : DD} (e : d.cls c = c.move) : ∃ p q, d = .move p q := by
  cases d with
  | put p n => exact absurd e h.pm
  | cut p n => exact absurd e h.cm
  | set p n m => exact absurd e h.sm
  | move p q => exact ⟨p, q, rfl⟩
def okD (c : Cl) (C : Addr) : Prop := ∃ d : DD, C = d.cls c
theorem okD_all {c : Cl} {R : Addr → Prop} (h1 : R c.put) (h2 : R c.cut) (h3 : R c.set) (h4 : R c.move) : ∀ C, okD c C → R C := by
  rintro C ⟨d, rfl⟩
  cases d <;> assumption
def spTold (c : Cl) (C : Addr) : Sp := fun vs H Q _ => ∃ v d, vs = [v] ∧ IsD c H v d ∧ d.cls c = C ∧ ∀ z H', Same H H' → IsT H' z d → Q z H'
def spBack (c : Cl) (C : Addr) : Sp := fun vs H Q _ => ∃ v d, vs = [v] ∧ IsD c H v d ∧ d.cls c = C ∧ ∀ z H', Same H H' → IsD c H' z d.back → Q z H'
section
variable {σ : St} {H : Hp} {Q : VK} {c : Cl} {K : PySem.W.Frag} {v : V} {d : DD}
theorem use_told (hd : IsD c H v d) (h : ∀ z H', Same H H' → IsT H' z d → Q z H') : methK (okD c) "told" (spTold c) tNil v σ H Q := by
  obtain ⟨a, dx, x, y, rfl, ha, hp⟩ := id hd
  refine ⟨a, _, dx, _, rfl, ha, ⟨d, rfl⟩, ?_, .ref a, d, rfl, hd, rfl, h⟩
  cases d <;> rfl
theorem use_back (hd : IsD c H v d) (h : ∀ z H', Same H H' → IsD c H' z d.back → Q z H') : methK (okD c) "back" (spBack c) tNil v σ H Q := by
  obtain ⟨a, dx, x, y, rfl, ha, hp⟩ := id hd
  refine ⟨a, _, dx, _, rfl, ha, ⟨d, rfl⟩, ?_, .ref a, d, rfl, hd, rfl, h⟩
  cases d <;> rfl
end
/-- isinstance of instances of the class at C -/
structure CF (K : PySem.W.Frag) (C : Addr) : Prop where
  cl : Cls K C
  ha : PySem.W.findIn K (.ref C) "__class__" = some (some (.builtin "object.__class__"))
  hn : PySem.W.specialIn K (.builtin "object.__class__") "__get__" = some (some (.builtin "getset_descriptor.__get__"))
  tk : PySem.W.takesIn K (.builtin "object.__class__") = some true
  hm : PySem.W.mroIn K C (.type "object") = some true
theorem IsD.ty {K : PySem.W.Frag} {c : Cl} {H : Hp} {v : V} {d : DD} (h : IsD c H v d) (f : ∀ d : DD, CF K (d.cls c)) : TyOf K H v (.ref (d.cls c)) := by
  obtain ⟨a, dx, x, y, rfl, ha, hp⟩ := h
  have F := f d
  exact .ins ha F.cl F.ha F.hn F.tk F.hm

/-! ### lists of flat values compared -/
def eqFl : List V → List V → Bool
  | [], [] => true
  | x :: xs, y :: ys => eqV x y && eqFl xs ys
  | _, _ => false
theorem eqFl_len : ∀ {xs ys : List V}, xs.length ≠ ys.length → eqFl xs ys = false
  | [], [], h => absurd rfl h
  | [], _ :: _, _ => rfl
  | _ :: _, [], _ => rfl
  | x :: xs, y :: ys, h => by
    show (eqV x y && eqFl xs ys) = false
    rw [eqFl_len (xs := xs) (ys := ys) (fun e => h (by rw [List.length_cons, List.length_cons, e])), Bool.and_false]
theorem eqFl_all : ∀ {xs ys : List V}, xs.length = ys.length → eqFl xs ys = (List.range xs.length).all fun j => match xs[j]?, ys[j]? with | some x, some y => eqV x y | _, _ => true
  | [], [], _ => rfl
  | x :: xs, y :: ys, h => by
    have hl : xs.length = ys.length := by simpa using h
    show (eqV x y && eqFl xs ys) = _
    rw [eqFl_all hl, List.length_cons, List.range_succ_eq_map, List.all_cons, List.all_map]
    rfl
def rEqLs (neg : Bool) : R2 := fun x y H Q => ∃ a b xs ys, x = .ref a ∧ y = .ref b ∧ H a = some (.lst xs) ∧ H b = some (.lst ys) ∧ xs.all flatV = true ∧ ys.all flatV = true ∧ Q (.bl (if neg then !eqFl xs ys else eqFl xs ys)) H
theorem flat_items {X : Cx} {k : Nat} {H : Hp} {xs ys : List V} (fx : xs.all flatV = true) (fy : ys.all flatV = true) : ∀ (j : Nat) (x y : V), xs[j]? = some x → ys[j]? = some y → EqV X k H x y (match xs[j]?, ys[j]? with | some x, some y => eqV x y | _, _ => true) := by
  intro j x y hx hy
  rw [hx, hy]
  exact EqV.flat (List.all_eq_true.mp fx x (List.mem_of_getElem? hx)) (List.all_eq_true.mp fy y (List.mem_of_getElem? hy))
theorem op_eqLs {X : Cx} (hu : X.A.units + 16 < cLine) : OpR X (compareOp .Eq) (rEqLs false) := by
  intro pins s σ H x y v u Q I rx ry h
  obtain ⟨a, b, xs, ys, rfl, rfl, ha, hb, fx, fy, q⟩ := h
  cases rx
  cases ry
  obtain ⟨us, r1, p1, _⟩ := I.list (.inl (.inl ha))
  obtain ⟨vs, r2, p2, _⟩ := I.list (.inl (.inl hb))
  have l1 := r1.length
  have l2 := r2.length
  by_cases hl : xs.length = ys.length
  · refine SeqAt.eq_listAt (e := fun j => match xs[j]?, ys[j]? with | some x, some y => eqV x y | _, _ => true) p1.isList p2.isList (by simp; omega) (by omega) (items_eq I (k := 0) (by rw [in1_units]; omega) (flat_items fx fy) r1 r2) ⟨.bl _, H, I, ?_, q⟩
    show _ = Value.bool (eqFl xs ys)
    rw [eqFl_all hl, l1]
    simp
  · refine SeqAt.eq_list_lengthsAt p1.isList p2.isList (by simp; omega) (by omega) ⟨.bl _, H, I, ?_, q⟩
    show _ = Value.bool (eqFl xs ys)
    rw [eqFl_len hl]

section
variable {σ : St} {H : Hp} {Q : VK} {c : Cl} {K : PySem.W.Frag} {v : V} {d : DD} {X : Cx}
theorem use_isiD {C : Addr} {b : Bool} (hd : IsD c H v d) (f : ∀ d : DD, CF K (d.cls c)) (hk : PySem.W.kitOne K (.ref (d.cls c)) (.ref C) = some b) (h : Q (.bl b) H) : rIsi K [v, .ref C] H Q := ⟨_, _, _, _, b, rfl, hd.ty f, rfl, hk, h⟩
theorem wp_lstN {xs : List V} (hz : xs.length ≤ 1000) (h : ∀ a H', Same H H' → H' a = some (.lst xs) → Q (.ref a) H') : lstK xs H Q := ⟨Nat.le_of_lt (small1000 hz), fun p hp => h p _ (Same.upd hp) upd_same⟩
theorem wp_eqLs {a b : Addr} {xs ys : List V} (ha : H a = some (.lst xs)) (hb : H b = some (.lst ys)) (fx : xs.all flatV = true) (fy : ys.all flatV = true) (h : Q (.bl (eqFl xs ys)) H) : rEqLs false (.ref a) (.ref b) H Q := ⟨a, b, xs, ys, rfl, rfl, ha, hb, fx, fy, h⟩
theorem wp_isiIT {n : Int} (hk : PySem.W.kitOne K (.type "int") (.type "tuple") = some false) (h : Q (.bl false) H) : rIsi K [.int n, .ty "tuple"] H Q := ⟨_, _, _, _, false, rfl, .int n, rfl, hk, h⟩
theorem wp_isiII {n : Int} (hk : PySem.W.kitOne K (.type "int") (.type "int") = some true) (h : Q (.bl true) H) : rIsi K [.int n, .ty "int"] H Q := ⟨_, _, _, _, true, rfl, .int n, rfl, hk, h⟩
theorem wp_isiIB {n : Int} (hk : PySem.W.kitOne K (.type "int") (.type "bool") = some false) (h : Q (.bl false) H) : rIsi K [.int n, .ty "bool"] H Q := ⟨_, _, _, _, false, rfl, .int n, rfl, hk, h⟩
theorem use_isiT (hd : IsT H v d) (hk : PySem.W.kitOne K (.type "tuple") (.type "tuple") = some true) (h : Q (.bl true) H) : rIsi K [v, .ty "tuple"] H Q := by
  obtain ⟨a, x, y, rfl, ha, hh⟩ := hd
  exact ⟨_, _, _, _, true, rfl, .tup ha, rfl, hk, h⟩
theorem atI_tl0 {x y : V} : atI (d.tl x y) 0 = some (.str d.word) := by cases d <;> rfl
def DD.tlen : DD → Nat
  | .set _ _ _ => 4
  | _ => 3
theorem tl_len {x y : V} : (d.tl x y).length = d.tlen := by cases d <;> rfl
def rLenQ (K : PySem.W.Frag) : List V → Hp → VK → Prop := fun xs H Q => ∃ p ys, xs = [.ref p] ∧ (SqL K H p ys ∨ SqT K H p ys) ∧ Q (.int ys.length) H
theorem call_lenQ : CallR X (.builtin "len") (rLenQ X.K) := call_len_seq
theorem wp_lenT (hd : IsT H v d) (h : Q (.int d.tlen) H) : rLenQ K [v] H Q := by
  obtain ⟨a, x, y, rfl, ha, hh⟩ := hd
  exact ⟨a, _, rfl, .inr (.inl (.inl ha)), by rw [tl_len]; exact h⟩
theorem use_ixT0 (hd : IsT H v d) (h : Q (.str d.word) H) : rIxT K v (.int 0) H Q := by
  obtain ⟨a, x, y, rfl, ha, hh⟩ := hd
  exact ⟨a, _, 0, _, rfl, rfl, .inl (.inl ha), atI_tl0, h⟩
def Plain (H : Hp) (u : V) : Prop := (∃ p, IsP H u p) ∨ ∃ n, u = V.int n
theorem Plain.same {H H' : Hp} {u : V} (h : Plain H u) (s : Same H H') : Plain H' u := by
  rcases h with ⟨p, h⟩ | h
  · exact .inl ⟨p, h.same s⟩
  · exact .inr h
theorem use_slT (hd : IsT H v d) (h : ∀ a us H', Same H H' → H' a = some (.tup us) → (∀ u ∈ us, Plain H' u) → Q (.ref a) H') : rSlU v (some 1) none H Q := by
  obtain ⟨a, x, y, rfl, ha, hh⟩ := hd
  refine ⟨a, _, rfl, ha, fun p H' hs hp => h p _ H' hs hp fun u hu => ?_⟩
  have hh := DD.holds_same hh hs
  cases d with
  | put q n =>
    have e : cutV (DD.tl x y (.put q n)) (some 1) none = [x, .int n] := rfl
    rw [e] at hu
    simp only [List.mem_cons, List.not_mem_nil, or_false] at hu
    rcases hu with rfl | rfl
    · exact .inl ⟨_, hh⟩
    · exact .inr ⟨_, rfl⟩
  | cut q n =>
    have e : cutV (DD.tl x y (.cut q n)) (some 1) none = [x, .int n] := rfl
    rw [e] at hu
    simp only [List.mem_cons, List.not_mem_nil, or_false] at hu
    rcases hu with rfl | rfl
    · exact .inl ⟨_, hh⟩
    · exact .inr ⟨_, rfl⟩
  | set q n m =>
    have e : cutV (DD.tl x y (.set q n m)) (some 1) none = [x, .int n, .int m] := rfl
    rw [e] at hu
    simp only [List.mem_cons, List.not_mem_nil, or_false] at hu
    rcases hu with rfl | rfl | rfl
    · exact .inl ⟨_, hh⟩
    · exact .inr ⟨_, rfl⟩
    · exact .inr ⟨_, rfl⟩
  | move q r =>
    have e : cutV (DD.tl x y (.move q r)) (some 1) none = [x, y] := rfl
    rw [e] at hu
    simp only [List.mem_cons, List.not_mem_nil, or_false] at hu
    rcases hu with rfl | rfl
    · exact .inl ⟨_, hh.1⟩
    · exact .inl ⟨_, hh.2⟩
theorem eqPathT {H : Hp} {x y : V} {p : List Str} (hx : IsP H x p) (hy : IsP H y p) : EqV X 8 H x y true := by
  have := EqV.path (X := X) (k := 7) hx hy
  rwa [decide_eq_true rfl] at this
theorem eqIntT {H : Hp} {n : Int} : EqV X 8 H (.int n) (.int n) true := by
  have := EqV.flat (X := X) (k := 8) (H := H) (x := .int n) (y := .int n) rfl rfl
  have e : eqV (.int n) (.int n) = true := beq_self_eq_true n
  rwa [e] at this
theorem eqStrT {H : Hp} {n : Str} : EqV X 8 H (.str n) (.str n) true := by
  have := EqV.flat (X := X) (k := 8) (H := H) (x := .str n) (y := .str n) rfl rfl
  have e : eqV (.str n) (.str n) = true := beq_self_eq_true n
  rwa [e] at this
theorem tl_eq {x y x' y' : V} (h : d.holds H x y) (h' : d.holds H x' y') : ∀ (j : Nat) (u w : V), (d.tl x y)[j]? = some u → (d.tl x' y')[j]? = some w → EqV X 8 H u w true := by
  intro j u w hu hw
  cases d with
  | put q n =>
    match j, hu, hw with
    | 0, hu, hw => cases hu; cases hw; exact eqStrT
    | 1, hu, hw => cases hu; cases hw; exact eqPathT h h'
    | 2, hu, hw => cases hu; cases hw; exact eqIntT
    | _ + 3, hu, _ => cases hu
  | cut q n =>
    match j, hu, hw with
    | 0, hu, hw => cases hu; cases hw; exact eqStrT
    | 1, hu, hw => cases hu; cases hw; exact eqPathT h h'
    | 2, hu, hw => cases hu; cases hw; exact eqIntT
    | _ + 3, hu, _ => cases hu
  | set q n m =>
    match j, hu, hw with
    | 0, hu, hw => cases hu; cases hw; exact eqStrT
    | 1, hu, hw => cases hu; cases hw; exact eqPathT h h'
    | 2, hu, hw => cases hu; cases hw; exact eqIntT
    | 3, hu, hw => cases hu; cases hw; exact eqIntT
    | _ + 4, hu, _ => cases hu
  | move q r =>
    match j, hu, hw with
    | 0, hu, hw => cases hu; cases hw; exact eqStrT
    | 1, hu, hw => cases hu; cases hw; exact eqPathT h.1 h'.1
    | 2, hu, hw => cases hu; cases hw; exact eqPathT h.2 h'.2
    | _ + 3, hu, _ => cases hu
theorem use_eqT {u v : V} (hx : IsT H u d) (hy : IsT H v d) (h : Q (.bl true) H) : rEqT X u v H Q := by
  obtain ⟨a, x, y, rfl, ha, hh⟩ := hx
  obtain ⟨b, x', y', rfl, hb, hh'⟩ := hy
  refine ⟨a, b, _, _, fun _ => true, rfl, rfl, ha, hb, tl_eq hh hh', ?_⟩
  rw [tl_len, tl_len]
  have e : eqL (fun _ => true) d.tlen d.tlen = true := by unfold eqL; simp
  rw [e]; exact h
end

/-! ### a list grows while all else stays -/
def SameX (l : Addr) (H H' : Hp) : Prop := ∀ b o, b ≠ l → H b = some o → H' b = some o
theorem SameX.upd {l : Addr} {H : Hp} {o : HO} : SameX l H (upd H l o) := fun b u hb e => by rw [upd_ne hb]; exact e
theorem Same.x {l : Addr} {H H' : Hp} (h : Same H H') : SameX l H H' := fun b o _ e => h b o e
section
variable {l : Addr} {H H' : Hp} {xs : List V} {v : V} {d : DD} {c : Cl}
theorem IsP.sameX {p : List Str} (h : IsP H v p) (hl : H l = some (.lst xs)) (s : SameX l H H') : IsP H' v p := by
  obtain ⟨a, e, q⟩ := h
  exact ⟨a, e, s a _ (ne_of q hl (by intro z; cases z)) q⟩
theorem DD.holdsX {x y : V} (h : d.holds H x y) (hl : H l = some (.lst xs)) (s : SameX l H H') : d.holds H' x y := by
  cases d with
  | put p n => exact IsP.sameX h hl s
  | cut p n => exact IsP.sameX h hl s
  | set p n m => exact IsP.sameX h hl s
  | move p q => exact ⟨IsP.sameX h.1 hl s, IsP.sameX h.2 hl s⟩
theorem IsT.sameX (h : IsT H v d) (hl : H l = some (.lst xs)) (s : SameX l H H') : IsT H' v d := by
  obtain ⟨a, x, y, e, q, r⟩ := h
  exact ⟨a, x, y, e, s a _ (ne_of q hl (by intro z; cases z)) q, DD.holdsX r hl s⟩
theorem IsD.sameX (h : IsD c H v d) (hl : H l = some (.lst xs)) (s : SameX l H H') : IsD c H' v d := by
  obtain ⟨a, dx, x, y, e, q, r⟩ := h
  exact ⟨a, dx, x, y, e, s a _ (ne_of q hl (by intro z; cases z)) q, DD.holdsX r hl s⟩
end

theorem wp_bm {σ : St} {H : Hp} {Q : VK} {K : PySem.W.Frag} {T : String} {r : V → List V → Hp → VK → Prop} {to : TE} {t : TA} (h : to σ H fun x H1 => tyV K T x H1 ∧ t σ H1 fun xs H2 => r x xs H2 Q) : tBM K T r to t σ H Q := h
theorem SameX.trans {l : Addr} {H H1 H2 : Hp} (a : SameX l H H1) (b : SameX l H1 H2) : SameX l H H2 := fun c o hc h => b c o hc (a c o hc h)
theorem SameX.refl (l : Addr) (H : Hp) : SameX l H H := fun _ _ _ h => h
end L2

set_option Elab.async false
set_option linter.all false
set_option maxRecDepth 100000
set_option maxHeartbeats 0
namespace L2
open PySem PySem.Spec PyProof.Rows
/-! ### what the laws' own makers promise -/
theorem hu16 {A : Around} {k : Nat} (hr : Room k A) : A.units + 16 < cLine := Nat.lt_of_le_of_lt (Nat.add_le_add_left (by decide : 16 ≤ 64) _) hr.units
theorem lit_ab : (Str.ofString "ab").length = 2 := by decide
theorem lit_q : (Str.ofString "qqqqqqqq").length = 8 := by decide
theorem lit_az : (Str.ofString "abcdefghijklmnopqrstuvwxyz").length = 26 := by decide
theorem lit_a : (Str.ofString "a").length = 1 := by decide
theorem lit_0 : (Str.ofString "").length = 0 := by decide
def spName : Sp := fun vs H Q _ => ∃ n : Int, vs = [.int n] ∧ ∀ x : Str, x.length ≤ 100 → Q (.str x) H
theorem use_name {n : Int} {H : Hp} {Q : VK} {E : XK} (h : ∀ x : Str, x.length ≤ 100 → Q (.str x) H) : spName [.int n] H Q E := ⟨n, rfl, h⟩
def spNumber : Sp := fun vs H Q _ => ∃ n : Int, vs = [.int n] ∧ ∀ m : Int, Q (.int m) H
theorem use_number {n : Int} {H : Hp} {Q : VK} {E : XK} (h : ∀ m : Int, Q (.int m) H) : spNumber [.int n] H Q E := ⟨n, rfl, h⟩
def Short (p : List Str) : Prop := ∀ x ∈ p, x.length ≤ 200
def spLaw (K : PySem.W.Frag) : Sp := fun vs H Q _ => ∃ (a : Addr) (ns : List Int), vs = [.ref a] ∧ SqL K H a (ns.map V.int) ∧ ns.length ≤ 63 ∧ ∀ H', Q (.bl true) H'
theorem cut_ints {ns : List Int} {lo hi : Option Int} {x : V} (h : x ∈ cutV (ns.map V.int) lo hi) : ∃ z, x = V.int z := by
  obtain ⟨z, _, e⟩ := List.mem_map.mp (List.mem_of_mem_drop (List.mem_of_mem_take h))
  exact ⟨z, e.symm⟩
end L2

set_option Elab.async false
set_option linter.all false
set_option maxRecDepth 100000
set_option maxHeartbeats 0
namespace L2
open PySem PySem.Spec PyProof.Rows

/-! ### [e for x in it if c]: the block has a context of its own -/
def compCx (X : Cx) (scope : Scope) (cl : List (Str × Addr)) (N : List Str) (fp : List Addr) (pins : List (Addr × Obj)) (s : Shared) (H : Hp) : Cx where
  prog := X.prog
  w := X.w
  K := X.K
  mg := X.mg
  base := X.base
  A := X.A
  N := N
  s₀ := s
  H₀ := H
  env := compEnvC scope cl s.heap.objs.size X.env
  outer := X.stack
  stack := X.stack
  ex := fp
  fn := fun _ => false
  calm := X.calm
  pn := X.pn ++ pins
  xe := fun _ _ => False
structure CompScope (X : Cx) (scope : Scope) (cl : List (Str × Addr)) (x : Str) (caps : List (Str × Nat)) : Prop where
  kind : scope.kind = .function
  clos : closureFor scope X.env = pure cl
  ncell : ∀ y ∈ scope.names, y.2 ≠ .cell
  names : ∀ y ∈ scope.names, y.2 = .local → scope.names.lookup y.1 = some .local
  xloc : scope.names.lookup x = some .local
  sub : ∀ y c, cl.lookup y = some c → X.env.cells.lookup y = some c
  has : ∀ y, ((relabel scope X.env).names.lookup y = some .cell ∨ (relabel scope X.env).names.lookup y = some .free) → ∃ c, cl.lookup y = some c
  cap : ∀ (k : Nat) y j, caps[k]? = some (y, j) → X.N[j]? = some y ∧ Vis X.env.scope y ∧ (X.env.kindOf y = some .cell ∨ X.env.kindOf y = some .free) ∧ ((relabel scope X.env).names.lookup y = some .cell ∨ (relabel scope X.env).names.lookup y = some .free)
  nd : (x :: caps.map (·.1)).Nodup
/-- the tests of a clause -/
def PIf (X : Cx) (ifs : List Expr) (t : TT) : Prop :=
  ∀ (pins : List (Addr × Obj)) (s : Shared) (σ : St) (H : Hp) (Q : Bool → Hp → Prop), Inv X pins σ H s → t σ H Q →
    wpAny (model X.prog X.w) X.A (forIn ifs true fun c r => if r = true then do let ok ← isTrue c X.env (eval c X.env); pure (ForInStep.yield ok) else pure (ForInStep.yield r)) (TP X pins σ Q) X.xe s
def tYes : TT := fun _ H Q => Q true H
theorem pif_nil {X : Cx} : PIf X [] tYes := fun _ _ _ H _ I h => wpAny_tests_nil ⟨H, I, h⟩
theorem pif_one {X : Cx} {c : Expr} {t : TT} (h : PT X c t) : PIf X [c] t := fun pins s σ H Q I hw => wpAny_tests_one (h pins s σ H Q I hw)
def compK (tc : TT) (te : TE) (cvs : List V) (Q : VK) (J : It) (H1 : Hp) : Prop := ∀ D, H1 D = none → ∃ W : Nat → Nat → List V → Hp → Prop, (∃ m, W 0 m [] (upd H1 D (.lst []))) ∧
  ∀ i m acc H, W i m acc H → H D = some (.lst acc) ∧ ((J.stop i H ∧ Q (.ref D) H) ∨ (J.go i H ∧ ∀ v H', J.yld i H v H' → tc (some v :: cvs.map some) H' fun b H2 =>
    if b = true then te (some v :: cvs.map some) H2 fun y H3 => H3 D = some (.lst acc) ∧ acc.length < sizeLine ∧ ∃ m', m' < m ∧ W (i + 1) m' (acc ++ [y]) (upd H3 D (.lst (acc ++ [y]))) else ∃ m', m' < m ∧ W (i + 1) m' acc H2))
def tComp (wi : TI) (tc : TT) (te : TE) (caps : List (Str × Nat)) : TE := fun σ H Q => ∃ cvs : List V, cvs.length = caps.length ∧ (∀ (k : Nat) y j, caps[k]? = some (y, j) → ∃ v, cvs[k]? = some v ∧ σ[j]? = some (some v)) ∧ wi σ H (compK tc te cvs Q)
theorem SameBut_keep {C : Addr} {h h' : Heap} (e : Heap.SameBut C h h') : ∀ b o, b ≠ C → h.get? b = some o → h'.get? b = some o := fun b o hb q => e.extBut b o hb q
section
variable {X : Cx} {scope : Scope} {cl : List (Str × Addr)} {x : Str} {caps : List (Str × Nat)} {pins : List (Addr × Obj)} {σ : St} {H : Hp} {s s4 : Shared} {fp : List Addr} {cvs : List V}
/-- the block's context is well made -/
theorem compCx_ok (S : CompScope X scope cl x caps) (I : Inv X pins σ H s) (hf : ∀ b ∈ fp, FpOk X pins H b ∧ b < s.heap.objs.size) : (compCx X scope cl (x :: caps.map (·.1)) fp pins s H).Ok where
  mod := I.ok.mod
  kind := S.kind
  glob := I.ok.glob
  blt := I.ok.blt
  above := Nat.le_refl _
  inj := fun y z c h1 h2 => I.ok.inj y z c (S.sub y c h1) (S.sub z c h2)
  has := fun y hy => S.has y hy
  cab := fun y c h _ => by cases h
  hd := I.ok.hd
  frames := I.ok.frames
  stk := .inl rfl
  exf := fun b hb => ⟨Nat.ne_of_lt (hf b hb).2, fun y c h => (hf b hb).1.2.2.2.2.1 y c (S.sub y c h)⟩
  bs := fun b o e => I.bs b o e
  bsz := Nat.le_trans (Nat.le_trans I.ok.bsz I.ok.above) (Nat.le_of_lt I.lt)
  noex := fun b o e hb => by
    rcases (hf b hb).1.2.2.2.1 with z | z
    · exact I.ok.noex b o e z
    · exact absurd (Nat.lt_of_lt_of_le (Heap.lt_size (I.ok.bs b o e).1) z) (Nat.lt_irrefl _)
  exfs := fun b hb z => by
    rcases List.mem_cons.mp (I.stkSub b z) with e | e
    · exact (hf b hb).1.2.1 e
    · exact (hf b hb).1.2.2.1 e
  funs := I.stack
  frf := I.stkFree
theorem compInv (S : CompScope X scope cl x caps) (I : Inv X pins σ H s) (hf : ∀ b ∈ fp, FpOk X pins H b ∧ b < s.heap.objs.size)
    (hlen : cvs.length = caps.length) (hcv : ∀ (k : Nat) y j, caps[k]? = some (y, j) → ∃ v, cvs[k]? = some v ∧ σ[j]? = some (some v))
    {h4 : Heap} {t4 : Nat} {m4 : Str → Option Value} (hns : h4.Ns s.heap.objs.size m4) (hk : ∀ b o, s.heap.get? b = some o → h4.get? b = some o) :
    Inv (compCx X scope cl (x :: caps.map (·.1)) fp pins s H) [] (none :: cvs.map some) H { s with heap := h4, toks := t4 } where
  ok := compCx_ok S I hf
  os := rfl
  bare := I.bare
  base := Un.kept hk
  loc := by
    obtain ⟨m, hn, hl⟩ := I.loc
    refine ⟨m4, hns, fun i y v h1 h2 h3 => ?_⟩
    cases i with
    | zero => cases h2
    | succ k =>
      have h1' : (caps.map (·.1))[k]? = some y := h1
      have h2' : (cvs.map some)[k]? = some (some v) := h2
      rw [List.getElem?_map] at h1' h2'
      cases e1 : caps[k]? with
      | none => rw [e1] at h1'; cases h1'
      | some q =>
        obtain ⟨y', j⟩ := q
        rw [e1] at h1'
        cases h1'
        obtain ⟨w1, e2, e3⟩ := hcv k y' j e1
        rw [e2] at h2'
        cases h2'
        obtain ⟨a1, a2, a3, a4⟩ := S.cap k y' j e1
        obtain ⟨u, r, l⟩ := hl j y' v a1 e3 a2
        refine ⟨u, r, ?_⟩
        rcases l with ⟨l, _⟩ | ⟨_, c, ec, o, ho, hd⟩
        · rcases a3 with a3 | a3 <;> rw [a3] at l <;> cases l
        · obtain ⟨c', ec'⟩ := S.has y' a4
          have := S.sub y' c' ec'
          rw [ec] at this
          cases this
          exact .inr ⟨a4, c, ec', o, hk c o ho, hd⟩
  cell := fun y c h => by
    obtain ⟨v, o, ho, hd⟩ := I.cell y c (S.sub y c h)
    exact ⟨v, o, hk c o ho, hd⟩
  free := I.hok.fresh (Nat.le_refl _)
  freeC := fun y c h => I.freeC y c (S.sub y c h)
  pin := fun p hp => by
    have hp' : p ∈ X.pn ++ pins := by
      have : p ∈ (X.pn ++ pins) ++ [] := hp
      rwa [List.append_nil] at this
    obtain ⟨e, n, ne, nf, d⟩ := I.pin p hp'
    refine ⟨hk _ _ e, n, Nat.ne_of_lt (Heap.lt_size e), fun z => ?_, d⟩
    rcases List.mem_cons.mp (I.stkSub p.1 z) with q | q
    · exact ne q
    · exact nf q
  hok := I.hok.kept hk
  len := by
    show (none :: cvs.map some).length = (x :: caps.map (·.1)).length
    simp [hlen]
end

section
variable {X : Cx} {scope : Scope} {cl : List (Str × Addr)} {x : Str} {caps : List (Str × Nat)} {px pos : Pos} {iter elt : Expr} {ifs : List Expr} {wi : TI} {tc : TT} {te : TE}
theorem comp_go {use : Option (Value → Sem Unit)} {Qv : Value → Shared → Prop} {pins : List (Addr × Obj)} {s : Shared} {σ : St} {H : Hp} {Q : VK} {pos' : Pos} (S : CompScope X scope cl x caps) (hc : X.calm = true) (hi : PI X (.Name x px) iter wi)
    (ht : ∀ fp pins s H, PIf (compCx X scope cl (x :: caps.map (·.1)) fp pins s H) ifs tc) (he : ∀ fp pins s H, PE (compCx X scope cl (x :: caps.map (·.1)) fp pins s H) elt te)
    (hs : ∀ y, foldedSetIterable iter X.env y = pure y) (I : Inv X pins σ H s) (h : tComp wi tc te caps σ H Q)
    (fin : ∀ (D C : Addr) (H' : Hp) (s' : Shared) x, Inv X pins σ H' s' → FpOk X pins H' C → (∃ m, s'.heap.Ns C m) → Q (.ref D) H' → compPost (model X.prog X.w) X.A X.xe use Qv (.ref D) C (.ok x) s') :
    wpAny (model X.prog X.w) X.A (comprehension (.ListComp elt [⟨.Name x px, iter, ifs, 0⟩] scope pos) scope X.env pos' (newList []) false (eval iter X.env) use) Qv X.xe s := by
  obtain ⟨cvs, hlen, hcv, h⟩ := h
  refine wpAny_comprehension_free (use := use) (cl := cl) rfl hs S.clos S.kind S.names ?_
  refine thn (hi pins s σ H _ I h) fun v s1 h1 => thn h1 fun itv s2 h2 => ?_
  obtain ⟨it, fp, tn, J, H2, rfl, I2, T, st2, f2, hD⟩ := h2
  refine wpAny_newObj_type ?_
  have hDn : H2 s2.heap.objs.size = none := I2.hok.fresh (Nat.le_refl _)
  obtain ⟨W, ⟨m0, w0⟩, turn⟩ := hD s2.heap.objs.size hDn
  generalize hD' : s2.heap.objs.size = D at *
  have I3 : Inv X pins σ (upd H2 D (.lst [])) { s2 with heap := s2.heap.push { cls := .type "list", data := .seq ([] : List Value).toArray } } :=
    I2.laid (t' := s2.toks) (o := .lst []) (fun b ob q => Heap.get?_push_of_some _ q) (Nat.le_of_eq hD') ⟨by decide, [], 0, .nil, by rw [← hD']; exact Heap.get?_push_size _ rfl⟩
  have st3 : tn 0 (s2.heap.push { cls := .type "list", data := .seq ([] : List Value).toArray }) := T.keep _ _ _ st2 fun b _ o e => Heap.get?_push_of_some _ e
  have f3 : ∀ b ∈ fp, FpOk X pins (upd H2 D (.lst [])) b ∧ b < (s2.heap.push { cls := .type "list", data := .seq ([] : List Value).toArray }).objs.size := fun b hb => by
    obtain ⟨o, ho, _⟩ := T.obj 0 _ st2 b hb
    have hlt : b < D := by rw [← hD']; exact Heap.lt_size ho
    obtain ⟨g0, g⟩ := f2 b hb
    refine ⟨⟨?_, g⟩, by rw [Heap.size_push, hD']; exact Nat.lt_succ_of_lt hlt⟩
    rw [upd_ne (Nat.ne_of_lt hlt)]
    exact g0
  generalize hs3 : ({ s2 with heap := s2.heap.push { cls := .type "list", data := .seq ([] : List Value).toArray } } : Shared) = s3 at *
  have hh3 : s3.heap = s2.heap.push { cls := .type "list", data := .seq ([] : List Value).toArray } := by rw [← hs3]
  rw [← hh3] at st3 f3
  generalize upd H2 D (.lst []) = H3 at *
  refine wpAny_newFunctionEnv S.ncell (by intro y hy; simp at hy) (fun h4 hns hsb => ?_) S.kind
  have hk4 : ∀ b o, s3.heap.get? b = some o → h4.get? b = some o := fun b o e => hsb.extBut b o (Nat.ne_of_lt (Heap.lt_size e)) (Heap.get?_push_of_some _ e)
  have I4 := compInv (t4 := s3.toks + ([] : List (Str × Value)).length) S I3 f3 hlen hcv hns hk4
  have st4 : tn 0 h4 := T.keep _ _ _ st3 fun b _ o e => hk4 b o e
  generalize hXc : compCx X scope cl (x :: caps.map (·.1)) fp pins s3 H3 = Xc at *
  have hcond : ∀ {σ' : St} {H' : Hp} {s' : Shared}, Inv Xc [] σ' H' s' → (∀ b ∈ fp, H' b = none) → ∀ b ∈ fp, FpOk Xc [] H' b := fun {σ' H' s'} I' hn b hb => by
    subst hXc
    obtain ⟨⟨_, g1, g2, g3, g4, g5⟩, hlt⟩ := f3 b hb
    refine ⟨hn b hb, Nat.ne_of_lt hlt, fun z => ?_, .inl hb, fun y c e => g4 y c (S.sub y c e), fun p hp => ?_⟩
    · rcases List.mem_cons.mp (I3.stkSub b z) with q | q
      · exact g1 q
      · exact g2 q
    · have : p ∈ (X.pn ++ pins) ++ [] := hp
      rw [List.append_nil] at this
      exact g5 p this
  -- back to the def's own frame
  have back : ∀ {σ' : St} {H' : Hp} {s' : Shared} {h' : Heap}, Inv Xc [] σ' H' s' → Heap.SameBut s3.heap.objs.size s'.heap h' → Inv X pins σ H' { s' with heap := h' } := fun {σ' H' s' h'} I' hsb' => by
    subst hXc
    have kb := SameBut_keep hsb'
    have neC : ∀ b o, s3.heap.get? b = some o → b ≠ s3.heap.objs.size := fun b o e => Nat.ne_of_lt (Heap.lt_size e)
    have B : Un (frs X.stack) fp H3 H' s3.heap s'.heap := I'.base
    refine I3.call' (ch := fp) (s' := { s' with heap := h' }) I'.os ⟨fun b o e n hb hx => kb b o (neC b o e) (B.keep b o e n hb hx), fun b o e n hb hx => ?_, B.free, fun b o e hx => ?_, B.tups, B.frzs, B.tbls⟩ (fun a o e => ?_) I'.bare fun b hb => ?_
    · obtain ⟨sl, q⟩ := B.slot b o e n hb hx
      exact ⟨sl, kb b _ (neC b o e) q⟩
    · obtain ⟨o', q⟩ := B.there b o e hx
      exact ⟨o', kb b o' (neC b o e) q⟩
    · have hC : H' s3.heap.objs.size = none := I'.free
      refine (I'.hok a o e).stay (fun c u hc q => kb c u ?_ q) (fun _ q => q) fun _ _ q => q
      rcases hc with z | z
      · rw [z]; exact ne_of_none e hC
      · exact ne_of_none z hC
    · obtain ⟨⟨_, g1, g2, g3, g4, g5⟩, _⟩ := f3 b hb
      exact ⟨g3, g1, g4, g5⟩
  have loopI : ∀ s5 : Shared, (∃ i σ' acc H', Inv Xc [] σ' H' s5 ∧ (∃ z, σ' = z :: cvs.map some) ∧ tn i s5.heap ∧ (∀ b ∈ fp, H' b = none) ∧ W i m0 acc H') →
      codeAny (model X.prog X.w) X.A (.compLoop (.ListComp elt [⟨.Name x px, iter, ifs, 0⟩] scope pos) 0 (.ref it) (.ref D) Xc.env) (compPost (model X.prog X.w) X.A X.xe use Qv (.ref D) s3.heap.objs.size) s5 := by
    intro s5 h5
    refine codeAny_loop rfl (fun n s' => ∃ i σ' acc H', Inv Xc [] σ' H' s' ∧ (∃ z, σ' = z :: cvs.map some) ∧ tn i s'.heap ∧ (∀ b ∈ fp, H' b = none) ∧ W i n acc H') (fun n s' hI => ?_) m0 h5
    show wpAny _ X.A ((compTurn (.ListComp elt [⟨.Name x px, iter, ifs, 0⟩] scope pos) 0 (.ref it) (.ref D) Xc.env).onRaise (fun e => do noteFrame e Xc.env; theTreesLotGoes e)) _ _ s'
    refine wpAny_noted ?_
    rw [compTurn_list]
    obtain ⟨i, σ', acc, H', I', ⟨z, rfl⟩, st', fr', w'⟩ := hI
    obtain ⟨hacc, alt⟩ := turn i n acc H' w'
    have hcX : Xc.calm = true := by subst hXc; exact hc
    refine wpAny_bind (wpAny_standAt (wpAny_bind ?_))
    rcases alt with ⟨stop, q⟩ | ⟨go, step⟩
    · have z1 := T.done Xc (by subst hXc; rfl) (by subst hXc; rfl) (by subst hXc; rfl) hcX i [] s' _ H' (notedBy (model X.prog X.w) X.A Xc.env fun e s'' => compPost (model X.prog X.w) X.A X.xe use Qv (.ref D) s3.heap.objs.size (.error e) s'') I' (hcond I' fr') st' stop
      have eA : Xc.A = X.A := by subst hXc; rfl
      rw [eA] at z1
      refine thn z1 fun r s6 ⟨hr, I6⟩ => ?_
      subst hr
      refine wpAny_pure ?_
      obtain ⟨m6, hn6, _⟩ := I6.loc
      have eL : Xc.env.locals = s3.heap.objs.size := by subst hXc; rfl
      have fr6 := I6.free
      rw [eL] at hn6 fr6
      exact fin D _ H' s6 _ (back I6 (Heap.SameBut.refl _ _)) (I3.fpOk (Nat.le_refl _) fr6) ⟨m6, hn6⟩ q
    · have z1 := T.item Xc (by subst hXc; rfl) (by subst hXc; rfl) (by subst hXc; rfl) hcX i [] s' _ H' (notedBy (model X.prog X.w) X.A Xc.env fun e s'' => compPost (model X.prog X.w) X.A X.xe use Qv (.ref D) s3.heap.objs.size (.error e) s'') I' (hcond I' fr') st' go
      have eA : Xc.A = X.A := by subst hXc; rfl
      have eP : Xc.prog = X.prog := by subst hXc; rfl
      have eW : Xc.w = X.w := by subst hXc; rfl
      rw [eA] at z1
      refine thn z1 fun r s6 ⟨u, hr, h6⟩ => ?_
      subst hr
      refine wpAny_bind (thn h6 fun _ s7 ⟨v7, H7, I7, r7, y7, st7, fr7⟩ => ?_)
      have I7' := I7.pinned (hcond I7 fr7) (T.obj _ _ st7)
      have hN : Xc.N = x :: caps.map (·.1) := by subst hXc; rfl
      have hloc : Xc.env.scope.names.lookup x = some .local := by subst hXc; exact lookup_relabel_local S.xloc
      -- the store
      have z2 := pg_name (X := Xc) (i := 0) (pos := px) (by rw [hN]; exact S.nd) (by rw [hN]; rfl) (.inl hloc) (.inr hloc) _ s7 _ H7 v7 u (fun σ8 H8 => σ8 = some v7 :: cvs.map some ∧ H8 = H7) I7' r7 ⟨rfl, rfl⟩
      rw [eP, eW, eA] at z2
      refine wpAny_bind (wpAny_mono z2 (fun _ s8 ⟨σ8, H8, I8, e8, e8'⟩ => ?_) fun _ _ f => by subst hXc; exact f.elim)
      subst e8 e8'
      -- the tests
      have z3 := ht fp pins s3 H3
      rw [hXc] at z3
      have z4 := z3 _ s8 _ _ _ I8 (step v7 _ y7)
      rw [eP, eW, eA] at z4
      refine wpAny_bind (wpAny_mono z4 (fun ok s9 ⟨H9, I9, q9⟩ => ?_) fun _ _ f => by subst hXc; exact f.elim)
      have again : ∀ {σ' : St} {acc' : List V} {H' : Hp} {s' : Shared} {m' : Nat}, Inv Xc ([] ++ pinsAt fp s7.heap) σ' H' s' → (∃ z, σ' = z :: cvs.map some) → m' < n → W (i + 1) m' acc' H' → ∃ m, m < n ∧ ∃ i σ' acc H', Inv Xc [] σ' H' s' ∧ (∃ z, σ' = z :: cvs.map some) ∧ tn i s'.heap ∧ (∀ b ∈ fp, H' b = none) ∧ W i m acc H' := fun {σ' acc' H' s' m'} I' hz hm w' => by
        refine ⟨m', hm, i + 1, σ', acc', H', I'.unpinned, hz, T.keep _ _ _ st7 fun b hb o e => (I'.pin (b, o) (List.mem_append_right _ (List.mem_append_right _ (mem_pinsAt hb e)))).1, fun b hb => ?_, w'⟩
        obtain ⟨o, e, d⟩ := T.obj _ _ st7 b hb
        exact (I'.pin (b, o) (List.mem_append_right _ (List.mem_append_right _ (mem_pinsAt hb e)))).2.1
      cases ok with
      | false =>
        obtain ⟨m', hm, w9⟩ := (show ∃ m', m' < n ∧ W (i + 1) m' acc H9 from by simpa using q9)
        exact wpAny_pure ⟨rfl, again I9 ⟨_, rfl⟩ hm w9⟩
      | true =>
        have q9' := (show te (some v7 :: cvs.map some) H9 fun y H3 => H3 D = some (.lst acc) ∧ acc.length < sizeLine ∧ ∃ m', m' < n ∧ W (i + 1) m' (acc ++ [y]) (upd H3 D (.lst (acc ++ [y]))) from by simpa using q9)
        have z5 := he fp pins s3 H3
        rw [hXc] at z5
        have z6 := z5 _ s9 _ H9 _ I9 q9'
        rw [eP, eW, eA] at z6
        refine wpAny_bind (wpAny_bind (wpAny_mono z6 (fun yv s10 ⟨y, H10, I10, r10, hl10, hz10, m', hm, w10⟩ => ?_) fun _ _ f => by subst hXc; exact f.elim))
        have z7 := mt_append (X := Xc) _ s10 _ H10 (.ref D) [y] (.ref D) [yv] (fun _ H11 => H11 = upd H10 D (.lst (acc ++ [y]))) I10 rfl (.cons r10 .nil) ⟨D, acc, y, rfl, rfl, hl10, hz10, rfl⟩
        rw [eP, eW, eA] at z7
        refine wpAny_bind (wpAny_mono z7 (fun _ s11 ⟨_, H11, I11, _, e11⟩ => ?_) fun _ _ f => by subst hXc; exact f.elim)
        subst e11
        exact wpAny_pure (wpAny_pure ⟨rfl, again I11 ⟨_, rfl⟩ hm w10⟩)
  have start5 : ∃ i σ' acc H', Inv Xc [] σ' H' { s3 with heap := h4, toks := s3.toks + ([] : List (Str × Value)).length } ∧ (∃ z, σ' = z :: cvs.map some) ∧ tn i h4 ∧ (∀ b ∈ fp, H' b = none) ∧ W i m0 acc H' :=
    ⟨0, _, [], H3, I4, ⟨_, rfl⟩, st4, fun b hb => (f3 b hb).1.1, w0⟩
  have L := loopI _ start5
  subst hXc
  exact codeAny_compStart_list L (T.self X.A 0 _ _ _ st4 L)
theorem pe_comp (S : CompScope X scope cl x caps) (hc : X.calm = true) (hi : PI X (.Name x px) iter wi)
    (ht : ∀ fp pins s H, PIf (compCx X scope cl (x :: caps.map (·.1)) fp pins s H) ifs tc) (he : ∀ fp pins s H, PE (compCx X scope cl (x :: caps.map (·.1)) fp pins s H) elt te)
    (hs : ∀ y, foldedSetIterable iter X.env y = pure y := by intro _; rfl) : PE X (.ListComp elt [⟨.Name x px, iter, ifs, 0⟩] scope pos) (tComp wi tc te caps) := by
  intro pins s σ H Q I h
  rw [eval_ListComp]
  refine comp_go (use := none) S hc hi ht he hs I h fun D C H' s' _ I' f n q => ?_
  obtain ⟨m, hn⟩ := n
  obtain ⟨f0, f1, f2, f3, f4, f5⟩ := f
  exact ⟨m, hn, fun h' hsb => ⟨.ref D, H', I'.turned (t' := s'.toks) (fun b o hb e => hsb.extBut b o hb e) f0 f1 f3 f4 f5, rfl, q⟩⟩
/-- y = [e for x in it if c], y a name of the def's own -/
theorem ps_setComp {i : Nat} {y : Str} {py spos : Pos} (hN : X.N.Nodup) (hin : X.N[i]? = some y) (hx : Loc X.env.scope y) (hsw : swapsWith (.ListComp elt [⟨.Name x px, iter, ifs, 0⟩] scope pos) (some (.Name y py)) spos.line X.env = pure true)
    (S : CompScope X scope cl x caps) (hc : X.calm = true) (hi : PI X (.Name x px) iter wi)
    (ht : ∀ fp pins s H, PIf (compCx X scope cl (x :: caps.map (·.1)) fp pins s H) ifs tc) (he : ∀ fp pins s H, PE (compCx X scope cl (x :: caps.map (·.1)) fp pins s H) elt te)
    (hs : ∀ y, foldedSetIterable iter X.env y = pure y := by intro _; rfl) (hf : X.fn y = true ∨ X.env.scope.names.lookup y = some .local := by first | exact .inl rfl | exact .inr rfl | assumption) :
    PS X (.Assign [.Name y py] (.ListComp elt [⟨.Name x px, iter, ifs, 0⟩] scope pos) spos) (tAsg (tComp wi tc te caps) (gName i)) := by
  intro pins s σ H D I h
  rw [exec_Assign_Name_used _ _ _ _ hsw]
  refine wpAny_bind (wpAny_standAt (wpAny_bind ?_))
  show wpAny _ X.A (do let _ ← comprehension (.ListComp elt [⟨.Name x px, iter, ifs, 0⟩] scope pos) scope X.env _ (newList []) false (eval iter X.env) (some (assign (.Name y py) X.env))) _ _ s
  refine wpAny_bind (wpAny_mono (comp_go (use := some (assign (.Name y py) X.env)) (Qv := fun _ s' => SP X pins D .next s') S hc hi ht he hs I h fun Dl C H' s' _ I' f n q => ?_) (fun _ s' hq => wpAny_pure (wpAny_pure hq)) fun _ _ e => e)
  obtain ⟨m, hn⟩ := n
  obtain ⟨f0, f1, f2, f3, f4, f5⟩ := f
  show wpAny _ X.A (assign (.Name y py) X.env (.ref Dl)) _ _ _
  refine wpAny_assign_Name (store_ok2 (v := .ref Dl) I' hN hin hx rfl (fun s2 I2 ⟨a, hsb, ha⟩ => ?_) hf)
  have hCa : C ≠ a := by
    rcases ha with z | z
    · rw [z]; exact f1
    · exact fun e => f4 _ _ z e.symm
  refine ⟨m, hn.sameBut hsb hCa, fun h' hsb' => ⟨_, H', I2.turned (t' := s2.toks) (fun b o hb e => hsb'.extBut b o hb e) f0 f1 f3 f4 f5, q⟩⟩
end
end L2

set_option Elab.async false
set_option linter.all false
set_option maxRecDepth 100000
set_option maxHeartbeats 0
namespace L2
open PySem PySem.Spec PyProof.Rows
/-! ### the signs of a text -/
def Its (z : Str) : It := ⟨fun i _ => i < z.cps.size, fun i H x H' => H' = H ∧ ∃ c, z.cps[i]? = some c ∧ x = .str ⟨#[c]⟩, fun i _ => z.cps.size ≤ i⟩
theorem turn_strA {P : Program} {w : World} {K : PySem.W.Frag} {tg : Expr} (z : Str) (t : Tok) (it : Addr) : Turn P w K tg (Its z) [it] it (fun i h => h.IsStrIter it "str_ascii_iterator" z t i) where
  mem := by simp
  obj := fun i h st b hb => by
    have e : b = it := by simpa using hb
    subst e
    obtain ⟨o, e, c, d⟩ := st
    exact ⟨o, e, fun v q => by rw [d] at q; cases q⟩
  keep := fun i h h' st k => by
    obtain ⟨o, e, r⟩ := st
    exact ⟨o, k it (by simp) o e, r⟩
  item := by
    intro X hP hw hK hc i pins s σ H E I hf st hg
    subst hP hw hK
    obtain ⟨f0, f1, f2, f3, f4, f5⟩ := hf it (by simp)
    have hx : z.cps[i]? = some (z.cps[i]'hg) := Array.getElem?_eq_getElem hg
    refine wpAny_pyNext_ascii_item st hx fun h' st' sb => ?_
    have I1 : Inv X pins σ H { s with heap := h', toks := s.toks + 1 } := I.turned (t' := s.toks + 1) (fun b o hb e => (sb.2 b hb).trans e) f0 f1 f3 f4 f5
    obtain ⟨o, e, c, d⟩ := id st'
    exact ⟨_, rfl, go_of (s := { s with heap := h', toks := s.toks + 1 }) e c d (by decide) ⟨.str ⟨#[z.cps[i]'hg]⟩, H, I1, ⟨_, rfl⟩, ⟨rfl, _, hx, rfl⟩, st', fun b hb => (hf b hb).1⟩⟩
  done := by
    intro X hP hw hK hc i pins s σ H E I hf st hg
    subst hP hw hK
    obtain ⟨f0, f1, f2, f3, f4, f5⟩ := hf it (by simp)
    exact wpAny_pyNext_ascii_end (I.ok.hd hc) st (by simp [show z.cps.size ≤ i from hg]) fun h' eb => ⟨rfl, I.turned (t' := s.toks) (fun b o hb e => eb b o hb e) f0 f1 f3 f4 f5⟩
  self := fun _ _ _ _ _ st h => wpAny_pyIter_striter_ascii st h
theorem turn_strW {P : Program} {w : World} {K : PySem.W.Frag} {tg : Expr} (z : Str) (t : Tok) (it : Addr) : Turn P w K tg (Its z) [it] it (fun i h => h.IsStrIter it "str_iterator" z t i) where
  mem := by simp
  obj := fun i h st b hb => by
    have e : b = it := by simpa using hb
    subst e
    obtain ⟨o, e, c, d⟩ := st
    exact ⟨o, e, fun v q => by rw [d] at q; cases q⟩
  keep := fun i h h' st k => by
    obtain ⟨o, e, r⟩ := st
    exact ⟨o, k it (by simp) o e, r⟩
  item := by
    intro X hP hw hK hc i pins s σ H E I hf st hg
    subst hP hw hK
    obtain ⟨f0, f1, f2, f3, f4, f5⟩ := hf it (by simp)
    have hx : z.cps[i]? = some (z.cps[i]'hg) := Array.getElem?_eq_getElem hg
    refine wpAny_pyNext_wide_item st hx fun h' st' sb => ?_
    have I1 : Inv X pins σ H { s with heap := h', toks := s.toks + 1 } := I.turned (t' := s.toks + 1) (fun b o hb e => (sb.2 b hb).trans e) f0 f1 f3 f4 f5
    obtain ⟨o, e, c, d⟩ := id st'
    exact ⟨_, rfl, go_of (s := { s with heap := h', toks := s.toks + 1 }) e c d (by decide) ⟨.str ⟨#[z.cps[i]'hg]⟩, H, I1, ⟨_, rfl⟩, ⟨rfl, _, hx, rfl⟩, st', fun b hb => (hf b hb).1⟩⟩
  done := by
    intro X hP hw hK hc i pins s σ H E I hf st hg
    subst hP hw hK
    obtain ⟨f0, f1, f2, f3, f4, f5⟩ := hf it (by simp)
    exact wpAny_pyNext_wide_end (I.ok.hd hc) st (by simp [show z.cps.size ≤ i from hg]) fun h' eb => ⟨rfl, I.turned (t' := s.toks) (fun b o hb e => eb b o hb e) f0 f1 f3 f4 f5⟩
  self := fun _ _ _ _ _ st h => wpAny_pyIter_striter_wide st h
def iStr (tl : TE) : TI := fun σ H R => tl σ H fun x H1 => ∃ z, x = .str z ∧ R (Its z) H1
theorem pi_str {X : Cx} {tg l : Expr} {tl : TE} (hl : PE X l tl) : PI X tg l (iStr tl) := by
  intro pins s σ H R I h
  refine thn (hl pins s σ H _ I h) fun v s1 ⟨x, H1, I1, r1, q1⟩ => ?_
  obtain ⟨z, e, q⟩ := q1
  subst e
  obtain ⟨t, rfl⟩ := r1
  have hfp : ∀ b ∈ [s1.heap.objs.size], FpOk X pins H1 b := fun b hb => by
    have e : b = s1.heap.objs.size := by simpa using hb
    subst e
    exact I1.fpOk (Nat.le_refl _) (I1.hok.fresh (Nat.le_refl _))
  cases ha : z.cps.all (· < 128)
  · refine wpAny_pyIter_wide ha ?_
    exact ⟨s1.heap.objs.size, [s1.heap.objs.size], _, _, H1, rfl, I1.kept (t' := s1.toks) fun b o e => Heap.get?_push_of_some _ e, turn_strW z t _, ⟨_, Heap.get?_push_size _ rfl, rfl, rfl⟩, hfp, q⟩
  · refine wpAny_pyIter_ascii ha ?_
    exact ⟨s1.heap.objs.size, [s1.heap.objs.size], _, _, H1, rfl, I1.kept (t' := s1.toks) fun b o e => Heap.get?_push_of_some _ e, turn_strA z t _, ⟨_, Heap.get?_push_size _ rfl, rfl, rfl⟩, hfp, q⟩
section
variable {σ : St} {H : Hp} {Q : VK} {D : Ends}
theorem wp_istr {tl : TE} {R : It → Hp → Prop} (h : tl σ H fun x H1 => ∃ z, x = .str z ∧ R (Its z) H1) : iStr tl σ H R := h
theorem wp_istr' {R : It → Hp → Prop} {z : Str} (h : R (Its z) H) : ∃ y, V.str z = .str y ∧ R (Its y) H := ⟨z, rfl, h⟩
theorem loop_str {z : Str} {g : TG} {tb : TS} (Pv : Nat → St → Hp → Prop) (h0 : Pv 0 σ H)
    (hs : ∀ i c σ H, z.cps[i]? = some c → Pv i σ H → g (.str ⟨#[c]⟩) σ H fun σ2 H2 => tb { D with nx := Pv (i + 1), ct := Pv (i + 1), bk := D.nx } σ2 H2) (hd : ∀ σ H, Pv z.cps.size σ H → D.nx σ H) : tLoop g tb D σ (Its z) H := by
  refine ⟨fun i m σ H => m = z.cps.size - i ∧ i ≤ z.cps.size ∧ Pv i σ H, ⟨z.cps.size, by simp, Nat.zero_le _, h0⟩, ?_⟩
  rintro i m σ H ⟨rfl, hi, p⟩
  by_cases hlt : i < z.cps.size
  · refine .inr ⟨hlt, Pv (i + 1), fun σ' H' p' => ⟨z.cps.size - (i + 1), by omega, rfl, hlt, p'⟩, fun x H' y => ?_⟩
    obtain ⟨e, c, hc, e2⟩ := y
    subst e e2
    exact hs i c σ _ hc p
  · have e : i = z.cps.size := by omega
    subst e
    exact .inl ⟨Nat.le_refl _, hd σ H p⟩
/-- a comprehension over a text: pure items -/
theorem comp_str {z : Str} {te : TE} {cvs : List V} (f : Nat → V) (hz : z.cps.size ≤ 100000) (hs : ∀ (c : Nat) H', c ∈ z.cps.toList → Same H H' → ∀ R : VK, R (f c) H' → te (some (.str ⟨#[c]⟩) :: cvs.map some) H' R)
    (hd : ∀ D H', Same H H' → H' D = some (.lst (z.cps.toList.map f)) → Q (.ref D) H') : compK tYes te cvs Q (Its z) H := by
  intro D hD
  refine ⟨fun i m acc H' => m = z.cps.size - i ∧ i ≤ z.cps.size ∧ Same H H' ∧ acc = (z.cps.toList.take i).map f ∧ H' D = some (.lst acc), ⟨_, rfl, Nat.zero_le _, Same.upd hD, by simp, upd_same⟩, ?_⟩
  rintro i m acc H' ⟨rfl, hi, hsm, rfl, hD'⟩
  refine ⟨hD', ?_⟩
  by_cases hlt : i < z.cps.size
  · refine .inr ⟨hlt, fun v H2 y => ?_⟩
    obtain ⟨rfl, c, hc, rfl⟩ := y
    unfold tYes
    dsimp only
    rw [if_pos rfl]
    refine hs c H2 ?_ hsm _ ?_
    · rw [← Array.getElem?_toList] at hc
      exact List.mem_of_getElem? hc
    · have he : z.cps.toList[i]? = some c := by rw [Array.getElem?_toList]; exact hc
      have htk : (z.cps.toList.take (i + 1)).map f = (z.cps.toList.take i).map f ++ [f c] := by
        rw [List.take_add_one, he]; simp
      refine ⟨hD', ?_, _, ?_, rfl, hlt, ?_, htk.symm, upd_same⟩
      · rw [List.length_map, List.length_take]
        have := sizeLine_eq
        omega
      · omega
      · intro b o e
        by_cases hb : b = D
        · subst hb; rw [hD] at e; cases e
        · rw [upd_ne hb]; exact hsm b o e
  · have e : i = z.cps.size := by omega
    subst e
    refine .inl ⟨Nat.le_refl _, hd D H' hsm ?_⟩
    rw [hD']
    congr 3
    exact List.take_of_length_le (by simp)
end
/-! ### all -/
def rAll : List V → Hp → VK → Prop := fun xs H Q => ∃ (a : Addr) (bs : List Bool), xs = [.ref a] ∧ H a = some (.lst (bs.map V.bl)) ∧ Q (.bl (bs.all id)) H
theorem call_all {X : Cx} (hc : X.calm = true) : CallR X (.builtin "all") rAll := by
  intro pins s σ H xs us Q I r h
  obtain ⟨a, bs, rfl, ha, q⟩ := h
  obtain ⟨u, rfl, ru⟩ := vals1 r
  cases ru
  obtain ⟨its, rv, p, hz⟩ := I.list (.inl (.inl ha))
  have hl := rv.length
  rw [List.length_map] at hl
  have hab : a < s.heap.objs.size := I.hok.lt ha
  refine call_all_walk (wpAny_pyIter_list p.isList ?_)
  refine ⟨s.heap.objs.size, _, _, _, _, _, fun i => bs.getD i true, rfl, Walks.list (A := X.A.in1) (by first | exact I.ok.hd hc | simpa [Around.in1] using I.ok.hd hc) s.heap.objs.size a (Nat.ne_of_lt hab) its.toArray, ?_, ?_, fun h' tk hk => ?_⟩
  · exact ⟨⟨_, Heap.get?_push_size _ rfl, rfl, rfl⟩, p.isList.at fun o e => Heap.get?_push_of_some _ e⟩
  · intro i v s' Q' E' hv hq
    have hv' : its[i]? = some v := by simpa using hv
    have hi : i < its.length := (List.getElem?_eq_some_iff.mp hv').1
    have hb : (bs.map V.bl)[i]? = some (V.bl (bs[i]'(by omega))) := by rw [List.getElem?_map, List.getElem?_eq_getElem (by omega)]; rfl
    obtain ⟨u, e1, e2⟩ := rv.get hb
    rw [hv'] at e1
    cases e1
    have e2' : v = Value.bool (bs[i]'(by omega)) := e2
    subst e2'
    refine wpAny_truthy_bool ?_
    have e3 : bs.getD i true = bs[i]'(by omega) := by simp [List.getD, List.getElem?_eq_getElem (show i < bs.length by omega)]
    have hq' : Q' (bs.getD i true) s' := hq
    rw [e3] at hq'
    exact hq'
  · refine ⟨.bl (bs.all id), H, I.kept (t' := tk) fun b u e => hk b u (fun z => ?_) (Heap.get?_push_of_some _ e), ?_, q⟩
    · have : b = s.heap.objs.size := by simpa using z
      exact absurd (Heap.lt_size e) (by rw [this]; exact Nat.lt_irrefl _)
    · show _ = Value.bool _
      have : its.toArray.size = bs.length := by simp [hl]
      rw [this]
      congr 1
      clear q ha rv hz hl p hab hk this r
      induction bs with
      | nil => rfl
      | cons b bs ih => rw [List.length_cons, List.range_succ_eq_map, List.all_cons, List.all_map, List.all_cons, ← ih]; rfl

theorem relabel_same {scope : Scope} {env : Env} (h : ∀ y ∈ scope.names, y.2 ≠ .free ∧ y.2 ≠ .cell) : (relabel scope env).names = scope.names := by
  unfold relabel
  exact map_eq_self fun y hy => by
    obtain ⟨n, k⟩ := y
    have : (k == NameKind.free) = false := by simpa using (h _ hy).1
    simp [this]
theorem compScope0 {X : Cx} {scope : Scope} {x : Str} (kind : scope.kind = .function) (h : ∀ y ∈ scope.names, y.2 ≠ .free ∧ y.2 ≠ .cell) (names : ∀ y ∈ scope.names, y.2 = .local → scope.names.lookup y.1 = some .local) (xl : scope.names.lookup x = some .local) : CompScope X scope [] x [] where
  kind := kind
  clos := closureFor_none fun y hy => (h y hy).1
  ncell := fun y hy => (h y hy).2
  names := names
  xloc := xl
  sub := fun y c e => by cases e
  has := fun y hy => by
    rw [relabel_same h] at hy
    rcases hy with e | e
    · exact absurd rfl (h _ (PySem.mem_of_lookup e)).2
    · exact absurd rfl (h _ (PySem.mem_of_lookup e)).1
  cap := fun k y j e => by simp at e
  nd := by simp
theorem wp_comp0 {σ : St} {H : Hp} {Q : VK} {wi : TI} {tc : TT} {te : TE} (h : wi σ H (compK tc te [] Q)) : tComp wi tc te [] σ H Q := ⟨[], rfl, fun k y j e => by simp at e, h⟩
def rInS : R2 := fun x y H Q => ∃ i j, x = .str i ∧ y = .str j ∧ Q (.bl (!(Builtin.Str.occurrences j i 0 j.length 1).isEmpty)) H
theorem op_inS {X : Cx} : OpR X (compareOp .In) rInS := op_in_str
theorem wp_inS {H : Hp} {Q : VK} {i j : Str} (h : Q (.bl (!(Builtin.Str.occurrences j i 0 j.length 1).isEmpty)) H) : rInS (.str i) (.str j) H Q := ⟨i, j, rfl, rfl, h⟩
/-! ### texts of plain signs -/
def Asc (x : Str) : Prop := ∀ c ∈ x.cps.toList, c < 128
theorem Asc.app {x y : Str} (hx : Asc x) (hy : Asc y) : Asc (x ++ y) := fun c hc => by
  have e : (x ++ y).cps.toList = x.cps.toList ++ y.cps.toList := by
    show (x.cps ++ y.cps).toList = _
    simp
  rw [e] at hc
  rcases List.mem_append.mp hc with h | h
  · exact hx c h
  · exact hy c h
theorem atI_mem {α : Type} {xs : List α} {i : Int} {v : α} (h : atI xs i = some v) : v ∈ xs := by
  obtain ⟨j, _, e, _⟩ := atI_get h
  exact List.mem_of_getElem? e
theorem Asc.ix {z y : Str} {j : Int} (h : ∃ c : Nat, atI z.cps.toList j = some c ∧ y = ⟨#[c]⟩) (hz : Asc z) : Asc y := by
  obtain ⟨c, hc, rfl⟩ := h
  intro d hd
  have : d = c := by simpa using hd
  rw [this]
  exact hz c (atI_mem hc)
theorem Asc.sl {z y : Str} {lo hi : Option Int} (h : y = Txt.slice z lo hi) (hz : Asc z) : Asc y := by
  subst h
  intro d hd
  unfold Txt.slice at hd
  split at hd
  · exact hz d hd
  · have hd' : d ∈ (List.filterMap (fun x => z.cps[x]?) (Builtin.Str.strSliceIndices lo hi 1 z.length)) := by simpa using hd
    obtain ⟨i, _, e⟩ := List.mem_filterMap.mp hd'
    rw [← Array.getElem?_toList] at e
    exact hz d (List.mem_of_getElem? e)
end L2

set_option Elab.async false
set_option linter.all false
set_option maxRecDepth 100000
set_option maxHeartbeats 0
namespace L2
open PySem PySem.Spec PyProof.Rows
/-! ### items that are texts, ints or paths, compared -/
theorem eqL_gen {α : Type} [DecidableEq α] (p q : List α) : eqL (fun j => decide (p[j]? = q[j]?)) p.length q.length = decide (p = q) := by
  by_cases h : p = q
  · subst h; simp [eqL]
  · rw [decide_eq_false h]
    cases hh : eqL (fun j => decide (p[j]? = q[j]?)) p.length q.length with
    | false => rfl
    | true =>
      exfalso; apply h
      unfold eqL at hh
      rw [Bool.and_eq_true] at hh
      have hl : p.length = q.length := by simpa using hh.2
      have ha := hh.1
      rw [hl, Nat.min_self, List.all_eq_true] at ha
      apply List.ext_getElem?
      intro i
      by_cases hi : i < q.length
      · have := ha i (List.mem_range.mpr hi)
        simpa using this
      · rw [List.getElem?_eq_none (by omega), List.getElem?_eq_none (by omega)]
inductive TI2 where
  | s (x : Str) | p (x : List Str) | n (x : Int)
  deriving DecidableEq
def ItV (H : Hp) (v : V) : TI2 → Prop
  | .s x => v = .str x
  | .p x => IsP H v x
  | .n x => v = .int x
theorem ItV.same {H H' : Hp} {v : V} {i : TI2} (h : ItV H v i) (s : Same H H') : ItV H' v i := by
  cases i with
  | s x => exact h
  | p x => exact IsP.same h s
  | n x => exact h
theorem EqV.item {X : Cx} {H : Hp} {x y : V} {i j : TI2} (hx : ItV H x i) (hy : ItV H y j) : EqV X 8 H x y (decide (i = j)) := by
  have tupOf : ∀ {v : V} {q : List Str} {pins : List (Addr × Obj)} {σ : St} {s : Shared} {u : Value}, Inv X pins σ H s → IsP H v q → RelV v u → ∃ a its, u = .ref a ∧ IsTup s.heap a its := by
    intro v q pins σ s u I h r
    obtain ⟨a, rfl, ha⟩ := h
    cases r
    obtain ⟨its, _, p, _⟩ := I.tuple (.inl (.inl ha))
    exact ⟨a, _, rfl, p⟩
  cases i with
  | s x =>
    cases (show _ = V.str x from hx)
    cases j with
    | s y =>
      cases (show _ = V.str y from hy)
      have z := EqV.flat (X := X) (k := 8) (H := H) (x := V.str x) (y := V.str y) rfl rfl
      have e : eqV (V.str x) (V.str y) = decide (TI2.s x = TI2.s y) := by
        show (x == y) = _
        by_cases h : x = y
        · subst h; simp
        · rw [decide_eq_false (fun z => h (by injection z))]; exact beq_eq_false_iff_ne.mpr h
      rw [← e]; exact z
    | p y =>
      rw [decide_eq_false (by intro z; cases z)]
      intro A pins σ s u v I hu rx ry
      obtain ⟨t, rfl⟩ := rx
      obtain ⟨a, its, rfl, p⟩ := tupOf I hy ry
      exact SeqAt.EqAt.str_tuple x t p (by omega)
    | n y =>
      rw [decide_eq_false (by intro z; cases z)]
      intro A pins σ s u v I hu rx ry
      cases (show _ = V.int y from hy)
      obtain ⟨t, rfl⟩ := rx
      obtain ⟨t', rfl⟩ := ry
      exact SeqAt.EqAt.str_int x t y t'
  | p x =>
    cases j with
    | s y =>
      rw [decide_eq_false (by intro z; cases z)]
      intro A pins σ s u v I hu rx ry
      cases (show _ = V.str y from hy)
      obtain ⟨t, rfl⟩ := ry
      obtain ⟨a, its, rfl, p⟩ := tupOf I hx rx
      exact SeqAt.EqAt.tuple_str y t p (by omega)
    | p y =>
      have z := EqV.path (X := X) (k := 7) (show IsP H _ x from hx) (show IsP H _ y from hy)
      have e : decide (x = y) = decide (TI2.p x = TI2.p y) := by
        by_cases h : x = y
        · subst h; simp
        · rw [decide_eq_false h, decide_eq_false (fun z => h (by injection z))]
      rw [← e]; exact z
    | n y =>
      rw [decide_eq_false (by intro z; cases z)]
      intro A pins σ s u v I hu rx ry
      cases (show _ = V.int y from hy)
      obtain ⟨t, rfl⟩ := ry
      obtain ⟨a, its, rfl, p⟩ := tupOf I hx rx
      exact SeqAt.EqAt.tuple_int y t p (by omega)
  | n x =>
    cases (show _ = V.int x from hx)
    cases j with
    | s y =>
      rw [decide_eq_false (by intro z; cases z)]
      intro A pins σ s u v I hu rx ry
      cases (show _ = V.str y from hy)
      obtain ⟨t, rfl⟩ := rx
      obtain ⟨t', rfl⟩ := ry
      exact SeqAt.EqAt.int_str x t y t'
    | p y =>
      rw [decide_eq_false (by intro z; cases z)]
      intro A pins σ s u v I hu rx ry
      obtain ⟨t, rfl⟩ := rx
      obtain ⟨a, its, rfl, p⟩ := tupOf I hy ry
      exact SeqAt.EqAt.int_tuple x t p (by omega)
    | n y =>
      cases (show _ = V.int y from hy)
      have z := EqV.flat (X := X) (k := 8) (H := H) (x := V.int x) (y := V.int y) rfl rfl
      have e : eqV (V.int x) (V.int y) = decide (TI2.n x = TI2.n y) := by
        show (x == y) = _
        by_cases h : x = y
        · subst h; simp
        · rw [decide_eq_false (fun z => h (by injection z))]; exact beq_eq_false_iff_ne.mpr h
      rw [← e]; exact z
theorem Paired.getL {α β : Type} {F : α → β → Prop} : ∀ {l₁ : List α} {l₂ : List β} {i : Nat} {x : α}, Paired F l₁ l₂ → l₁[i]? = some x → ∃ y, l₂[i]? = some y ∧ F x y
  | _, _, _, _, .nil, e => by simp at e
  | _, _, 0, _, .cons r _, e => by
    have e' := Option.some.inj e
    subst e'
    exact ⟨_, rfl, r⟩
  | _, _, i + 1, _, .cons _ t, e => Paired.getL (i := i) t (by simpa using e)
theorem Paired.getR {α β : Type} {F : α → β → Prop} : ∀ {l₁ : List α} {l₂ : List β} {i : Nat} {y : β}, Paired F l₁ l₂ → l₂[i]? = some y → ∃ x, l₁[i]? = some x ∧ F x y
  | _, _, _, _, .nil, e => by simp at e
  | _, _, 0, _, .cons r _, e => by
    have e' := Option.some.inj e
    subst e'
    exact ⟨_, rfl, r⟩
  | _, _, i + 1, _, .cons _ t, e => Paired.getR (i := i) t (by simpa using e)
theorem Paired.app {α β : Type} {F : α → β → Prop} : ∀ {l₁ m₁ : List α} {l₂ m₂ : List β}, Paired F l₁ l₂ → Paired F m₁ m₂ → Paired F (l₁ ++ m₁) (l₂ ++ m₂)
  | _, _, _, _, .nil, q => q
  | _, _, _, _, .cons r t, q => .cons r (Paired.app t q)
theorem Paired.takeP {α β : Type} {F : α → β → Prop} : ∀ {l₁ : List α} {l₂ : List β} (n : Nat), Paired F l₁ l₂ → Paired F (l₁.take n) (l₂.take n)
  | _, _, 0, _ => .nil
  | _, _, _ + 1, .nil => .nil
  | _, _, n + 1, .cons r t => .cons r (Paired.takeP n t)
theorem Paired.dropP {α β : Type} {F : α → β → Prop} : ∀ {l₁ : List α} {l₂ : List β} (n : Nat), Paired F l₁ l₂ → Paired F (l₁.drop n) (l₂.drop n)
  | _, _, 0, q => q
  | _, _, _ + 1, .nil => .nil
  | _, _, n + 1, .cons _ t => Paired.dropP n t
theorem Paired.dropLastP {α β : Type} {F : α → β → Prop} {l₁ : List α} {l₂ : List β} (q : Paired F l₁ l₂) : Paired F l₁.dropLast l₂.dropLast := by
  have e := Paired.length q
  rw [List.dropLast_eq_take, List.dropLast_eq_take, e]
  exact Paired.takeP _ q
/-- a tuple of such items -/
def Tu (H : Hp) (v : V) (is : List TI2) : Prop := ∃ a xs, v = .ref a ∧ H a = some (.tup xs) ∧ Paired (ItV H) xs is
theorem tu_items {X : Cx} {H : Hp} {xs ys : List V} {is js : List TI2} (p : Paired (ItV H) xs is) (q : Paired (ItV H) ys js) : ∀ (j : Nat) (x y : V), xs[j]? = some x → ys[j]? = some y → EqV X 8 H x y (decide (is[j]? = js[j]?)) := by
  intro j x y hx hy
  obtain ⟨i, ei, ri⟩ := Paired.getL p hx
  obtain ⟨k, ek, rk⟩ := Paired.getL q hy
  have z := EqV.item (X := X) ri rk
  have e : decide (i = k) = decide (is[j]? = js[j]?) := by
    rw [ei, ek]
    by_cases h : i = k
    · subst h; simp
    · rw [decide_eq_false h, decide_eq_false (fun z => h (Option.some.inj z))]
  rw [← e]; exact z
theorem ItV.inj {H : Hp} {v : V} {i j : TI2} (h : ItV H v i) (h' : ItV H v j) : i = j := by
  cases i <;> cases j <;> first | (have z := (show v = _ from h).symm.trans (show v = _ from h'); injection z with z; rw [z]) | (rw [IsP.inj (show IsP H v _ from h) (show IsP H v _ from h')]) | skip
  all_goals first
    | (have z := (show v = _ from h).symm.trans (show v = _ from h'); cases z)
    | (obtain ⟨a, e, _⟩ := (show IsP H v _ from h); rw [e] at h'; exact nomatch (show V.ref a = _ from h'))
    | (obtain ⟨a, e, _⟩ := (show IsP H v _ from h'); rw [e] at h; exact nomatch (show V.ref a = _ from h))
theorem Paired.injR {α β : Type} {F : α → β → Prop} (hF : ∀ a b c, F a b → F a c → b = c) : ∀ {l : List α} {m n : List β}, Paired F l m → Paired F l n → m = n
  | _, _, _, .nil, .nil => rfl
  | _, _, _, .cons r t, .cons r' t' => by rw [hF _ _ _ r r', Paired.injR hF t t']
theorem Tu.inj {H : Hp} {v : V} {is js : List TI2} (h : Tu H v is) (h' : Tu H v js) : is = js := by
  obtain ⟨a, xs, rfl, ha, p⟩ := h
  obtain ⟨b, ys, e, hb, q⟩ := h'
  cases e
  rw [ha] at hb
  injection hb with hb
  injection hb with hb
  subst hb
  exact Paired.injR (F := ItV H) (fun _ _ _ h h' => ItV.inj h h') p q
theorem EqV.tu {X : Cx} {H : Hp} {x y : V} {is js : List TI2} (hx : Tu H x is) (hy : Tu H y js) : EqV X 9 H x y (decide (is = js)) := by
  obtain ⟨a, xs, rfl, ha, p⟩ := id hx
  obtain ⟨b, ys, rfl, hb, q⟩ := id hy
  have z := EqV.tup (X := X) (k := 8) ha hb (tu_items p q) (fun e => by
    subst e
    have := hx.inj hy
    subst this
    rw [Paired.length p, Paired.length q, eqL_gen]; simp)
  rw [Paired.length p, Paired.length q, eqL_gen] at z
  exact z
section
variable {H : Hp} {Q : VK} {X : Cx} {x y : V} {is js : List TI2}
theorem wp_eqTu (hx : Tu H x is) (hy : Tu H y js) (h : Q (.bl (decide (is = js))) H) : rEqT X x y H Q := by
  obtain ⟨a, xs, rfl, ha, p⟩ := hx
  obtain ⟨b, ys, rfl, hb, q⟩ := hy
  refine ⟨a, b, _, _, _, rfl, rfl, ha, hb, tu_items p q, ?_⟩
  rw [Paired.length p, Paired.length q, eqL_gen]; exact h
theorem wp_neTu (hx : Tu H x is) (hy : Tu H y js) (h : Q (.bl (!decide (is = js))) H) : rNeT X x y H Q := by
  obtain ⟨a, xs, rfl, ha, p⟩ := hx
  obtain ⟨b, ys, rfl, hb, q⟩ := hy
  refine ⟨a, b, _, _, _, rfl, rfl, ha, hb, tu_items p q, ?_⟩
  rw [Paired.length p, Paired.length q, eqL_gen]; exact h
end
/-! told tuples -/
def DD.its : DD → List TI2
  | .put p n => [.s "put", .p p, .n n]
  | .cut p n => [.s "cut", .p p, .n n]
  | .set p n m => [.s "set", .p p, .n n, .n m]
  | .move p q => [.s "move", .p p, .p q]
theorem IsT.tu {H : Hp} {v : V} {d : DD} (h : IsT H v d) : Tu H v d.its := by
  obtain ⟨a, x, y, rfl, ha, hh⟩ := h
  cases d with
  | put p n => exact ⟨a, _, rfl, ha, .cons rfl (.cons hh (.cons rfl .nil))⟩
  | cut p n => exact ⟨a, _, rfl, ha, .cons rfl (.cons hh (.cons rfl .nil))⟩
  | set p n m => exact ⟨a, _, rfl, ha, .cons rfl (.cons hh (.cons rfl (.cons rfl .nil)))⟩
  | move p q => exact ⟨a, _, rfl, ha, .cons rfl (.cons hh.1 (.cons hh.2 .nil))⟩
theorem DD.its_inj {d e : DD} (h : d.its = e.its) : d = e := by
  have h1 : Str.ofString "put" ≠ Str.ofString "cut" := by decide
  cases d <;> cases e <;> simp_all [DD.its]
theorem DD.its_dec (d e : DD) : decide (d.its = e.its) = decide (d = e) := by
  by_cases h : d = e
  · subst h; simp
  · rw [decide_eq_false h, decide_eq_false (fun z => h (DD.its_inj z))]
section
variable {H : Hp} {Q : VK} {X : Cx} {x y : V} {d e : DD}
theorem EqV.told (hx : IsT H x d) (hy : IsT H y e) : EqV X 9 H x y (decide (d = e)) := by
  rw [← DD.its_dec]; exact EqV.tu hx.tu hy.tu
theorem wp_eqT2 (hx : IsT H x d) (hy : IsT H y e) (h : Q (.bl (decide (d = e))) H) : rEqT X x y H Q := wp_eqTu hx.tu hy.tu (by rw [DD.its_dec]; exact h)
theorem wp_neT2 (hx : IsT H x d) (hy : IsT H y e) (h : Q (.bl (!decide (d = e))) H) : rNeT X x y H Q := wp_neTu hx.tu hy.tu (by rw [DD.its_dec]; exact h)
end
/-! ### lists compared -/
def eqLs (e : Nat → Bool) (n m : Nat) : Bool := decide (n = m) && (List.range n).all e
def rEqG (X : Cx) (neg : Bool) : R2 := fun x y H Q => ∃ a b xs ys e, x = .ref a ∧ y = .ref b ∧ SqL X.K H a xs ∧ SqL X.K H b ys ∧ (xs.length = ys.length → ∀ j x y, xs[j]? = some x → ys[j]? = some y → EqV X 12 H x y (e j)) ∧
  Q (.bl (if neg = true then !eqLs e xs.length ys.length else eqLs e xs.length ys.length)) H
theorem op_eqG {X : Cx} (hu : X.A.units + 16 < cLine) : OpR X (compareOp .Eq) (rEqG X false) := by
  intro pins s σ H x y v u Q I rx ry h
  obtain ⟨a, b, xs, ys, e, rfl, rfl, ha, hb, he, q⟩ := h
  cases rx
  cases ry
  obtain ⟨us, r1, p1, _⟩ := I.list ha
  obtain ⟨vs, r2, p2, _⟩ := I.list hb
  have l1 := r1.length
  have l2 := r2.length
  by_cases hl : xs.length = ys.length
  · refine SeqAt.eq_listAt (e := e) p1.isList p2.isList (by simp; omega) (by omega) (items_eq I (k := 12) (by rw [in1_units]; omega) (he hl) r1 r2) ⟨.bl _, H, I, ?_, q⟩
    show _ = Value.bool (eqLs e xs.length ys.length)
    unfold eqLs
    rw [decide_eq_true hl, Bool.true_and, l1]
    simp
  · refine SeqAt.eq_list_lengthsAt p1.isList p2.isList (by simp; omega) (by omega) ⟨.bl _, H, I, ?_, q⟩
    show _ = Value.bool (eqLs e xs.length ys.length)
    unfold eqLs
    rw [decide_eq_false hl, Bool.false_and]
theorem op_neG {X : Cx} (hu : X.A.units + 16 < cLine) : OpR X (compareOp .NotEq) (rEqG X true) := by
  intro pins s σ H x y v u Q I rx ry h
  obtain ⟨a, b, xs, ys, e, rfl, rfl, ha, hb, he, q⟩ := h
  cases rx
  cases ry
  obtain ⟨us, r1, p1, _⟩ := I.list ha
  obtain ⟨vs, r2, p2, _⟩ := I.list hb
  have l1 := r1.length
  have l2 := r2.length
  by_cases hl : xs.length = ys.length
  · refine SeqAt.RcNeAt.lists (e := e) p1.isList p2.isList (by simp; omega) (by omega) (items_eq I (k := 12) (by rw [in1_units]; omega) (he hl) r1 r2) _ _ _ _ ⟨.bl _, H, I, ?_, q⟩
    show _ = Value.bool (!eqLs e xs.length ys.length)
    unfold eqLs
    rw [decide_eq_true hl, Bool.true_and, l1]
    simp
  · refine SeqAt.RcNeAt.lists_lengths p1.isList p2.isList (by simp; omega) (by omega) _ _ _ _ ⟨.bl _, H, I, ?_, q⟩
    show _ = Value.bool (!eqLs e xs.length ys.length)
    unfold eqLs
    rw [decide_eq_false hl, Bool.false_and]
    rfl
theorem eqLs_gen {α : Type} [DecidableEq α] (p q : List α) : eqLs (fun j => decide (p[j]? = q[j]?)) p.length q.length = decide (p = q) := by
  have z := eqL_gen p q
  unfold eqL at z
  unfold eqLs
  by_cases hl : p.length = q.length
  · rw [hl, Nat.min_self, beq_self_eq_true, Bool.and_true] at z
    rw [decide_eq_true hl, Bool.true_and, hl]
    exact z
  · rw [decide_eq_false hl, Bool.false_and, decide_eq_false (fun e => hl (by rw [e]))]
section
variable {H : Hp} {Q : VK} {X : Cx} {a b : Addr} {xs ys : List V}
/-- lists of things that are told by F, which tells apart -/
theorem wp_eqF {α : Type} [DecidableEq α] {F : V → α → Prop} {p q : List α} (ha : SqL X.K H a xs) (hb : SqL X.K H b ys) (hp : Paired F xs p) (hq : Paired F ys q) (hF : ∀ x y i j, F x i → F y j → EqV X 12 H x y (decide (i = j))) (h : Q (.bl (decide (p = q))) H) : rEqG X false (.ref a) (.ref b) H Q := by
  refine ⟨a, b, xs, ys, fun j => decide (p[j]? = q[j]?), rfl, rfl, ha, hb, fun _ j x y hx hy => ?_, ?_⟩
  · obtain ⟨i, ei, ri⟩ := Paired.getL hp hx
    obtain ⟨k, ek, rk⟩ := Paired.getL hq hy
    have z := hF x y i k ri rk
    have e : decide (i = k) = decide (p[j]? = q[j]?) := by
      rw [ei, ek]
      by_cases h : i = k
      · subst h; simp
      · rw [decide_eq_false h, decide_eq_false (fun z => h (Option.some.inj z))]
    show EqV X 12 H x y (decide (p[j]? = q[j]?))
    rw [← e]; exact z
  · rw [Paired.length hp, Paired.length hq, eqLs_gen]; exact h
theorem wp_neF {α : Type} [DecidableEq α] {F : V → α → Prop} {p q : List α} (ha : SqL X.K H a xs) (hb : SqL X.K H b ys) (hp : Paired F xs p) (hq : Paired F ys q) (hF : ∀ x y i j, F x i → F y j → EqV X 12 H x y (decide (i = j))) (h : Q (.bl (!decide (p = q))) H) : rEqG X true (.ref a) (.ref b) H Q := by
  refine ⟨a, b, xs, ys, fun j => decide (p[j]? = q[j]?), rfl, rfl, ha, hb, fun _ j x y hx hy => ?_, ?_⟩
  · obtain ⟨i, ei, ri⟩ := Paired.getL hp hx
    obtain ⟨k, ek, rk⟩ := Paired.getL hq hy
    have z := hF x y i k ri rk
    have e : decide (i = k) = decide (p[j]? = q[j]?) := by
      rw [ei, ek]
      by_cases h : i = k
      · subst h; simp
      · rw [decide_eq_false h, decide_eq_false (fun z => h (Option.some.inj z))]
    show EqV X 12 H x y (decide (p[j]? = q[j]?))
    rw [← e]; exact z
  · rw [Paired.length hp, Paired.length hq, eqLs_gen]; exact h
/-- against the empty list -/
theorem wp_eqNil (ha : SqL X.K H a xs) (hb : SqL X.K H b []) (h : Q (.bl (decide (xs = []))) H) : rEqG X false (.ref a) (.ref b) H Q := by
  refine ⟨a, b, xs, [], fun _ => true, rfl, rfl, ha, hb, fun _ j x y _ hy => by simp at hy, ?_⟩
  have e : eqLs (fun _ => true) xs.length ([] : List V).length = decide (xs = []) := by cases xs <;> simp [eqLs]
  rw [e]; exact h
theorem wp_neNil (ha : SqL X.K H a xs) (hb : SqL X.K H b []) (h : Q (.bl (!decide (xs = []))) H) : rEqG X true (.ref a) (.ref b) H Q := by
  refine ⟨a, b, xs, [], fun _ => true, rfl, rfl, ha, hb, fun _ j x y _ hy => by simp at hy, ?_⟩
  have e : eqLs (fun _ => true) xs.length ([] : List V).length = decide (xs = []) := by cases xs <;> simp [eqLs]
  rw [e]; exact h
end
/-! ### lists: items, slices, sums, copies -/
section
variable {σ : St} {H : Hp} {Q : VK} {K : PySem.W.Frag} {a b : Addr} {xs ys : List V} {v : V} {j : Int}
theorem wp_ixL (ha : SqL K H a xs) (hv : atI xs j = some v) (h : Q v H) : rIxL K (.ref a) (.int j) H Q := ⟨a, xs, j, v, rfl, rfl, ha, hv, h⟩
theorem wp_slL {lo hi : Option Int} (ha : SqL K H a xs) (h : ∀ p H', Same H H' → H' p = some (.lst (cutV xs lo hi)) → H p = none → Q (.ref p) H') : rSlL K (.ref a) lo hi H Q := ⟨a, xs, rfl, ha, fun p hp => h p _ (Same.upd hp) upd_same hp⟩
theorem wp_catL (ha : H a = some (.lst xs)) (hb : H b = some (.lst ys)) (hl : xs.length + ys.length ≤ 100000) (h : ∀ p H', Same H H' → H' p = some (.lst (xs ++ ys)) → H p = none → Q (.ref p) H') : rCat (.ref a) (.ref b) H Q :=
  ⟨a, b, xs, ys, rfl, rfl, ha, hb, by rw [sizeLine_eq]; omega, fun p hp => h p _ (Same.upd hp) upd_same hp⟩
theorem wp_lenL (ha : SqL K H a xs) (h : Q (.int xs.length) H) : rLenQ K [.ref a] H Q := ⟨a, xs, rfl, .inl ha, h⟩
theorem wp_lenTu (ha : SqT K H a xs) (h : Q (.int xs.length) H) : rLenQ K [.ref a] H Q := ⟨a, xs, rfl, .inr ha, h⟩
def rListOf (K : PySem.W.Frag) : List V → Hp → VK → Prop := fun xs H Q => ∃ p ys, xs = [.ref p] ∧ (SqL K H p ys ∨ SqT K H p ys) ∧ ∀ l, H l = none → Q (.ref l) (upd H l (.lst ys))
theorem call_listOf {X : Cx} : CallR X (.type "list") (rListOf X.K) := call_list_of
theorem wp_listOf (ha : SqL K H a xs) (h : ∀ p H', Same H H' → H' p = some (.lst xs) → H p = none → Q (.ref p) H') : rListOf K [.ref a] H Q := ⟨a, xs, rfl, .inl ha, fun p hp => h p _ (Same.upd hp) upd_same hp⟩
end
theorem sq_of {K : PySem.W.Frag} {H : Hp} {a : Addr} {xs : List V} (h : H a = some (.lst xs)) : SqL K H a xs := .inl (.inl h)
/-- [e for x in list if c] by an invariant over the new list's address, the turn, what it holds, the heap -/
theorem comp_list {K : PySem.W.Frag} {H : Hp} {Q : VK} {a : Addr} {xs : List V} {tc : TT} {te : TE} {cvs : List V} (hz : xs.length ≤ 100000) (Pv : Addr → Nat → List V → Hp → Prop)
    (h0 : ∀ D, H D = none → Pv D 0 [] (upd H D (.lst []))) (hD : ∀ D i acc H', H D = none → i ≤ xs.length → Pv D i acc H' → H' D = some (.lst acc) ∧ acc.length ≤ i ∧ SqL K H' a xs)
    (hs : ∀ D i x acc H' (N : List V → Hp → Prop), H D = none → xs[i]? = some x → acc.length < sizeLine → (∀ acc' H2, Pv D (i + 1) acc' H2 → N acc' H2) → Pv D i acc H' → tc (some x :: cvs.map some) H' fun b H2 => if b = true then te (some x :: cvs.map some) H2 fun y H3 => H3 D = some (.lst acc) ∧ acc.length < sizeLine ∧ N (acc ++ [y]) (upd H3 D (.lst (acc ++ [y]))) else N acc H2)
    (hd : ∀ D acc H', H D = none → Pv D xs.length acc H' → Q (.ref D) H') : compK tc te cvs Q (Itl K a) H := by
  intro D hDn
  refine ⟨fun i m acc H' => m = xs.length - i ∧ i ≤ xs.length ∧ Pv D i acc H', ⟨_, rfl, Nat.zero_le _, h0 D hDn⟩, ?_⟩
  rintro i m acc H' ⟨rfl, hi, hp⟩
  obtain ⟨d1, d2, d3⟩ := hD D i acc H' hDn hi hp
  refine ⟨d1, ?_⟩
  by_cases hlt : i < xs.length
  · refine .inr ⟨⟨xs, xs[i], d3, by simp [hlt]⟩, fun v H2 y => ?_⟩
    obtain ⟨e, y⟩ := y
    subst e
    exact hs D i v acc _ (fun acc' H'' => ∃ m', m' < xs.length - i ∧ (m' = xs.length - (i + 1) ∧ i + 1 ≤ xs.length ∧ Pv D (i + 1) acc' H'')) hDn (y xs d3) (by rw [sizeLine_eq]; omega) (fun acc' H'' hp' => ⟨xs.length - (i + 1), by omega, rfl, hlt, hp'⟩) hp
  · have e : i = xs.length := by omega
    subst e
    exact .inl ⟨⟨xs, d3, Nat.le_refl _⟩, hd D acc H' hDn hp⟩
theorem wp_bm0 {σ : St} {H : Hp} {Q : VK} {K : PySem.W.Frag} {T : String} {r : V → List V → Hp → VK → Prop} {to : TE} (h : to σ H fun x H1 => tyV K T x H1 ∧ r x [] H1 Q) : tBM0 K T r to σ H Q := h
theorem wp_ixAny {H : Hp} {Q : VK} {K : PySem.W.Frag} {a : Addr} {xs : List V} {j : Int} (ha : SqL K H a xs) (h0 : 0 ≤ j) (h1 : j < xs.length) (h : ∀ v, v ∈ xs → Q v H) : rIxL K (.ref a) (.int j) H Q := by
  obtain ⟨v, hv⟩ := atI_some h0 h1
  exact ⟨a, xs, j, v, rfl, rfl, ha, hv, h v (atI_mem hv)⟩
theorem wp_ixPth {H : Hp} {Q : VK} {K : PySem.W.Frag} {a : Addr} {xs : List V} {j : Int} (ha : H a = some (.lst xs)) (hx : ∀ v ∈ xs, ∃ p, IsP H v p) (h0 : 0 ≤ j) (h1 : j < xs.length) (h : ∀ v p, IsP H v p → Q v H) : rIxL K (.ref a) (.int j) H Q :=
  wp_ixAny (sq_of ha) h0 h1 fun v hv => let ⟨p, hp⟩ := hx v hv; h v p hp
theorem wp_isiL {H : Hp} {Q : VK} {K : PySem.W.Frag} {a : Addr} {xs : List V} (ha : H a = some (.lst xs)) (hk : PySem.W.kitOne K (.type "list") (.type "list") = some true) (h : Q (.bl true) H) : rIsi K [.ref a, .ty "list"] H Q := ⟨_, _, _, _, true, rfl, .lst ha, rfl, hk, h⟩
/-- one item of a method's list -/
theorem tyL {K : PySem.W.Frag} {H : Hp} {a : Addr} {xs : List V} (h : H a = some (.lst xs)) : tyV K "list" (.ref a) H := .inl ⟨rfl, _, sq_of h⟩
theorem sq_sameX {K : PySem.W.Frag} {H0 H H' : Hp} {a l : Addr} {xs : List V} (h : SqL K H0 a xs) (hl : H0 l = none) (s : Same H0 H) (sx : SameX l H H') : SqL K H' a xs := by
  rcases h with (h | ⟨o, h⟩) | h
  · exact .inl (.inl (sx _ _ (ne_of_none h hl) (s _ _ h)))
  · exact .inl (.inr ⟨o, sx _ _ (ne_of_none h hl) (s _ _ h)⟩)
  · exact .inr h
end L2

set_option Elab.async false
set_option linter.all false
set_option maxRecDepth 100000
set_option maxHeartbeats 0
namespace L2
open PySem PySem.Spec PyProof.Rows
/-! ### what an exception's flight never touches: the dicts of objects -/
def KD (h h' : Heap) : Prop := ∀ a o, h.get? a = some o → ∃ o', h'.get? a = some o' ∧ o'.dict = o.dict
theorem KD.refl (h : Heap) : KD h h := fun a o e => ⟨o, e, rfl⟩
theorem KD.trans {h h1 h2 : Heap} (k : KD h h1) (l : KD h1 h2) : KD h h2 := fun a o e => by
  obtain ⟨o1, e1, d1⟩ := k a o e
  obtain ⟨o2, e2, d2⟩ := l a o1 e1
  exact ⟨o2, e2, d2.trans d1⟩
theorem get_alive {h : Heap} {a : Addr} {o : Obj} (e : h.get? a = some o) : o.isFreed = false := by
  unfold Heap.get? at e
  split at e
  · cases e
  · rename_i x q
    cases hd : o.data <;> first | (unfold Obj.isFreed; split; (rename_i z; simp_all); rfl) | skip
/-- a change that leaves dicts alone -/
def Df (f : Obj → Obj) : Prop := ∀ o, (f o).dict = o.dict ∧ (o.isFreed = false → (f o).isFreed = false)
theorem KD.upd {h : Heap} {a : Addr} {f : Obj → Obj} (hf : Df f) : KD h (h.update a f) := fun b o e => by
  by_cases q : a = b
  · subst q
    exact ⟨f o, Heap.get?_update_self f e ((hf o).2 (get_alive e)), (hf o).1⟩
  · exact ⟨o, by rw [Heap.get?_update_other h f q]; exact e, rfl⟩
theorem df_map (g : Array Value → Array Value) : Df (Obj.mapFields g) := fun o => by
  obtain ⟨c, d, dt, sl⟩ := o
  cases dt <;> exact ⟨rfl, fun q => q⟩
theorem df_slots (g : Obj → Array (Option Value)) : Df fun o => { cls := o.cls, dict := o.dict, data := o.data, slots := g o } := fun o => by
  obtain ⟨c, d, dt, sl⟩ := o
  cases dt <;> exact ⟨rfl, fun q => q⟩
theorem KD.push {h : Heap} {u : Obj} : KD h (h.push u) := fun b o e => ⟨o, Heap.get?_push_of_some u e, rfl⟩
inductive Kd {α : Type} : Sem α → Prop
  | pure (a : α) : Kd (.pure a)
  | raise (e : Value) : Kd (.raise e)
  | uns (x : String) : Kd (.unsupported x)
  | rule {t : String} {k : Unit → Sem α} : Kd (k ()) → Kd (.rule t k)
  | at {p : Pos} {k : Unit → Sem α} : Kd (k ()) → Kd (.at p k)
  | load {a : Addr} {v : Option Value} {k : Obj → Sem α} : (∀ o, Kd (k o)) → Kd (.load a v k)
  | upd {a : Addr} {v : Option Value} {f : Obj → Obj} {k : Unit → Sem α} : Df f → Kd (k ()) → Kd (.update a v f k)
  | alloc {o : Obj} {k : Addr → Sem α} : (∀ a, Kd (k a)) → Kd (.alloc o k)
  | alive {a : Addr} {k : Option Obj → Sem α} : (∀ o, Kd (k o)) → Kd (.loadIfAlive a k)
  | point {l : List Value} {k : Unit → Sem α} : Kd (k ()) → Kd (.point l k)
  | fresh {k : Tok → Sem α} : (∀ t, Kd (k t)) → Kd (.fresh k)
  | ask {k : Setting → Sem α} : (∀ t, Kd (k t)) → Kd (.ask k)
  | handled {b : Bool} {k : Option Value → Sem α} : (∀ t, Kd (k t)) → Kd (.handled b k)
  | stack {k : List (Code × Pos) → Sem α} : (∀ t, Kd (k t)) → Kd (.stack k)
  | thread {k : Nat → Sem α} : (∀ t, Kd (k t)) → Kd (.thread k)
theorem Kd.bind {α β : Type} {m : Sem α} {f : α → Sem β} (k : Kd m) (l : ∀ a, Kd (f a)) : Kd (m >>= f) := by
  induction k with
  | pure a => exact l a
  | raise e => exact .raise e
  | uns x => exact .uns x
  | rule _ ih => exact .rule ih
  | «at» _ ih => exact .at ih
  | load _ ih => exact .load ih
  | upd hf _ ih => exact .upd hf ih
  | alloc _ ih => exact .alloc ih
  | alive _ ih => exact .alive ih
  | point _ ih => exact .point ih
  | fresh _ ih => exact .fresh ih
  | ask _ ih => exact .ask ih
  | handled _ ih => exact .handled ih
  | stack _ ih => exact .stack ih
  | thread _ ih => exact .thread ih
theorem Kd.wp {α : Type} {M : Model} {Γ : PySem.Ctx} {t : Sem α} (k : Kd t) : ∀ {Q : α → Pos → Shared → Prop} {E : Value → Pos → Shared → Prop} {p : Pos} {s : Shared} {h : Heap}, KD h s.heap → Sem.wp M Γ t Q E p s →
    Sem.wp M Γ t (fun a p' s' => Q a p' s' ∧ KD h s'.heap) (fun e p' s' => E e p' s' ∧ KD h s'.heap) p s := by
  induction k with
  | pure a => exact fun d q => ⟨q, d⟩
  | raise e => exact fun d q => ⟨q, d⟩
  | uns x => exact fun d q => q.elim
  | rule _ ih => exact fun d q => ih d q
  | «at» _ ih => exact fun d q => ih d q
  | load _ ih => exact fun d ⟨o, e, q⟩ => ⟨o, e, ih o d q⟩
  | upd hf _ ih => exact fun d ⟨e, q⟩ => ⟨e, ih (d.trans (KD.upd hf)) q⟩
  | alloc _ ih => exact fun d q => ih _ (d.trans KD.push) q
  | alive _ ih => exact fun d q => ih _ d q
  | point _ ih => exact fun d q => ih d q
  | fresh _ ih => exact fun d q => ih _ d q
  | ask _ ih => exact fun d q => ih _ d q
  | handled _ ih => exact fun d q => ih _ d q
  | stack _ ih => exact fun d q => ih _ d q
  | thread _ ih => exact fun d q => ih _ d q
theorem Kd.any {α : Type} {M : Model} {A : Around} {t : Sem α} {Q : α → Shared → Prop} {E : Value → Shared → Prop} {s : Shared} (k : Kd t) (h : wpAny M A t Q E s) : wpAny M A t (fun a s' => Q a s' ∧ KD s.heap s'.heap) (fun e s' => E e s' ∧ KD s.heap s'.heap) s :=
  fun Γ p i => k.wp (KD.refl _) (h Γ p i)
theorem kd_ite {α : Type} {c : Prop} [Decidable c] {m n : Sem α} (h : Kd m) (k : Kd n) : Kd (if c then m else n) := by
  split
  · exact h
  · exact k
section
variable {a : Addr} {i n : Nat} {v x y : Value} {env : Env} {b : Bool}
theorem kd_load : Kd (load a) := .load fun o => .pure o
theorem kd_fieldsOf : Kd (fieldsOf v) := by
  unfold fieldsOf
  split
  · refine kd_load.bind fun o => ?_
    split
    · exact .pure _
    · exact .uns _
  · exact .uns _
theorem kd_field : Kd (field v i) := by
  unfold field
  refine kd_fieldsOf.bind fun o => ?_
  split
  · exact .pure _
  · exact .uns _
theorem kd_setField : Kd (setField v i x) := by
  unfold setField
  split
  · unfold updateField
    refine kd_load.bind fun o => ?_
    split
    · refine kd_ite ?_ (.uns _)
      exact .upd (df_map _) (.pure _)
    · exact .uns _
  · exact .uns _
theorem kd_setFlight {f : Option Addr} : Kd (setFlight v f) := by
  unfold setFlight
  exact kd_field.bind fun tb => kd_ite kd_setField (.pure _)
theorem kd_behind {l : List Env} : Kd (behindIsImport env l) := by
  unfold behindIsImport
  exact kd_ite (.pure _) (kd_ite (.pure _) (kd_field.bind fun _ => .pure _))
theorem kd_under : Kd underTheClaimsCaller := by
  unfold underTheClaimsCaller
  exact .stack fun _ => .pure _
theorem kd_kept {l : List Env} : Kd (keptBack env b l) := by
  unfold keptBack
  split
  · exact kd_ite (.pure _) (kd_under.bind fun _ => .pure _)
  · exact .pure _
theorem kd_ready : ∀ {l : List Env}, Kd (readyFrames l)
  | [] => .pure _
  | env :: l => by
    rw [readyFrames.eq_2]
    split
    · exact kd_load.bind fun o => kd_ite (.pure _) (kd_behind.bind fun _ => kd_kept.bind fun _ => .upd (df_slots _) kd_ready)
    · exact .uns _
theorem kd_frameOf : Kd (PySem.frameOf env) := by
  unfold PySem.frameOf frameEnvs frameObject
  refine Kd.bind (Kd.bind (.stack fun _ => .pure _) fun _ => .pure _) fun l => Kd.bind ?_ fun r => ?_
  · split
    · exact .pure _
    · exact kd_ready.bind fun _ => .pure _
  · split
    · exact .pure _
    · exact .uns _
theorem kd_place : Kd (entryPlaceOf a b) := by
  unfold entryPlaceOf
  refine Kd.bind (.stack fun _ => .pure _) fun l => ?_
  split
  · exact .pure _
  · exact .pure _
theorem kd_entry {l : List Value} {p q r u z : Value} : Kd (EntryCells.newEntry p q r u z l) := by
  unfold EntryCells.newEntry newFields newObj newObjAsIs
  refine kd_ite (.uns _) ?_
  exact Kd.bind (.alloc fun _ => .pure _) fun _ => .pure _
theorem kd_note : Kd (noteFrame v env) := by
  unfold noteFrame
  split
  · have jp : ∀ (f : Addr) (head : Value) (b : Bool), Kd (do
        let a ← PySem.frameOf env
        let pl ← entryPlaceOf f b
        let e ← EntryCells.newEntry head a Value.none (rawInt f) Value.none pl
        setField v 1 e) := fun f head b => kd_frameOf.bind fun _ => kd_place.bind fun _ => kd_entry.bind fun _ => kd_setField
    refine kd_field.bind fun head => kd_ite (kd_field.bind fun _ => kd_ite (.pure _) (kd_setField.bind fun _ => jp _ _ _)) (jp _ _ _)
  · exact .uns _
theorem kd_leaving : Kd (leaving env v) := by
  unfold leaving
  exact kd_note.bind fun _ => kd_setFlight
end
section
variable {M : Model} {A : Around} {E : Value → Shared → Prop} {s : Shared} {base : Heap} {env : Env} {outer : List Env} {l : List Env} {L e : Addr} {cls a0 : Value} {Q : Unit → Shared → Prop}
theorem kd_then {t : Sem Unit} (k : Kd t) {R : Heap → Prop} (h : wpAny M A t (fun _ s' => ∃ h', s' = { s with heap := h' } ∧ R h') (fun _ _ => False) s) (q : ∀ h', R h' → KD s.heap h' → Q () { s with heap := h' }) : wpAny M A t Q E s := by
  refine wpAny_mono (k.any h) (fun _ s' ⟨⟨h', e, r⟩, d⟩ => ?_) fun _ _ z => z.1.elim
  subst e
  exact q h' r d
theorem leaves_onD (hA : A.frames = some (env :: outer)) (hf : env.frame = some L) (fl : base.FlyingW (env :: outer) e cls a0 s.heap)
    (q : ∀ h' : Heap, base.FlyingW outer e cls a0 h' → s.heap.UpToSlots h' → KD s.heap h' → Q () { s with heap := h' }) : wpAny M A (leaving env (.ref e)) Q E s :=
  kd_then (R := fun h' => base.FlyingW outer e cls a0 h' ∧ s.heap.UpToSlots h') kd_leaving (wpAny_leaves_onW hA hf fl fun h' f u => ⟨h', rfl, f, u⟩) fun h' r d => q h' r.1 r.2 d
theorem looks_onD (hA : A.frames = some (env :: outer)) (hf : env.frame = some L) (fl : base.FlyingW (env :: outer) e cls a0 s.heap)
    (q : ∀ h' : Heap, base.HeldW (env :: outer) e cls a0 L h' → s.heap.UpToSlots h' → KD s.heap h' → Q () { s with heap := h' }) : wpAny M A (noteFrame (.ref e) env) Q E s :=
  kd_then (R := fun h' => base.HeldW (env :: outer) e cls a0 L h' ∧ s.heap.UpToSlots h') kd_note (wpAny_looks_onW hA hf fl fun h' f u => ⟨h', rfl, f, u⟩) fun h' r d => q h' r.1 r.2 d
theorem landsD (hl : base.HeldW l e cls a0 L s.heap)
    (q : ∀ h' : Heap, base.FlyingW l e cls a0 h' → s.heap.UpToSlots h' → KD s.heap h' → Q () { s with heap := h' }) : wpAny M A (setFlight (.ref e) none) Q E s :=
  kd_then (R := fun h' => base.FlyingW l e cls a0 h' ∧ s.heap.UpToSlots h') kd_setFlight (wpAny_landsW hl fun h' f u => ⟨h', rfl, f, u⟩) fun h' r d => q h' r.1 r.2 d
theorem lands_againD (hl : base.FlyingW l e cls a0 s.heap)
    (q : ∀ h' : Heap, base.FlyingW l e cls a0 h' → s.heap.UpToSlots h' → KD s.heap h' → Q () { s with heap := h' }) : wpAny M A (setFlight (.ref e) none) Q E s :=
  kd_then (R := fun h' => base.FlyingW l e cls a0 h' ∧ s.heap.UpToSlots h') kd_setFlight (lands_againW hl fun h' f u => ⟨h', rfl, f, u⟩) fun h' r d => q h' r.1 r.2 d
end
end L2

set_option Elab.async false
set_option linter.all false
set_option maxRecDepth 100000
set_option maxHeartbeats 0
namespace L2
open PySem PySem.Spec PyProof.Rows
/-! ### an exception on its way -/
/-- the exception at a, of the class cls, its traceback at T, in no frame's hands -/
def FlyE (h : Heap) (a : Addr) (cls a0 : Value) (T : Addr) (d : Option Addr) : Prop :=
  ∃ oe vs oT ts, h.get? a = some oe ∧ (oe.cls = cls ∧ vs[0]? = some a0) ∧ oe.data = .fields vs ∧ vs[1]? = some (.ref T) ∧ T ≠ a ∧ h.get? T = some oT ∧ oT.data = .fields ts ∧ ts[3]? = some .none ∧ oe.dict = d
theorem frames_hid {base h : Heap} {as : List Addr} : ∀ {l : List Env}, h.FunFrames base l → (∀ b ∈ frs l, b ∈ as) → h.FunFrames (PySem.W.hideAll h as) l
  | [], _, _ => trivial
  | env :: l, ⟨hk, ⟨L, o, hf, hn, ho, hd⟩, hr⟩, hs => by
    have hL : L ∈ frs (env :: l) := by unfold frs; rw [List.filterMap_cons, hf]; exact .head _
    refine ⟨hk, ⟨L, o, hf, PySem.W.hideAll_none _ (hs L hL), ho, hd⟩, frames_hid hr fun b hb => hs b ?_⟩
    unfold frs at hb ⊢
    rw [List.filterMap_cons, hf]
    exact .tail _ hb
/-- the heap without the exception, its traceback and the frames: it stays -/
def restOf (h : Heap) (a T : Addr) (l : List Env) : Heap := PySem.W.hideAll h (a :: T :: frs l)
theorem FlyE.flying {h base : Heap} {a T : Addr} {cls a0 : Value} {l : List Env} {d : Option Addr} (f : FlyE h a cls a0 T d) (hl : h.FunFrames base l) : Heap.FlyingW (restOf h a T l) l a cls a0 h := by
  obtain ⟨oe, vs, oT, ts, h1, h2, h3, h4, h5, h6, h7, h8, _⟩ := f
  exact ⟨fun b o e => PySem.W.of_hideAll _ e, PySem.W.hideAll_none _ (.head _), frames_hid hl (fun b hb => .tail _ (.tail _ hb)), oe, vs, T, oT, ts, h1, h2, h3, h4, PySem.W.hideAll_none _ (.tail _ (.head _)), h5, h6, h7, h8⟩
section
variable {P : Program} {w : World} {H : Hp} {h h' B : Heap} {a T : Addr} {cls a0 : Value} {l : List Env} {as : List Addr}
/-- what is tracked stays where all but the hidden stays, and what was hidden was not tracked -/
theorem hok_rest (ok : HOk P w H h) (hs : (PySem.W.hideAll h as).StaysIn h') (hn : ∀ b ∈ as, H b = none) : HOk P w H h' := fun b u q =>
  (ok b u q).stay (fun c v hc r => hs c v (PySem.W.hideAll_get _ r fun z => by
    have := hn c z
    rcases hc with e | e
    · rw [e, q] at this; cases this
    · rw [e] at this; cases this)) (fun _ r => r) fun _ _ r => r
theorem untracked_new (ok : HOk P w H h) (hn : ∀ b ∈ as, H b = none) {t : Addr} (ht : (PySem.W.hideAll h as).get? t = none) : H t = none := by
  cases q : H t with
  | none => rfl
  | some u =>
    by_cases m : t ∈ as
    · rw [hn t m] at q; cases q
    · obtain ⟨o, ho⟩ : ∃ o, h.get? t = some o := by
        have hlt := (ok t u q)
        cases u with
        | lst xs => obtain ⟨_, _, _, _, e⟩ := hlt; exact ⟨_, e⟩
        | tup xs => obtain ⟨_, _, _, o, e, _⟩ := hlt; exact ⟨_, e⟩
        | dK kvs => obtain ⟨_, _, _, _, o, _, _, e, _⟩ := hlt; exact ⟨_, e⟩
        | dT kvs => obtain ⟨_, _, _, _, o, _, _, e, _⟩ := hlt; exact ⟨_, e⟩
        | set S n => obtain ⟨o, _, _, _, e, _⟩ := hlt; exact ⟨_, e⟩
        | ins C dx fs => obtain ⟨_, _, _, e, _⟩ := hlt; exact ⟨_, e⟩
        | own y => obtain ⟨_, e⟩ := hlt; exact ⟨_, e⟩
        | xd fs => obtain ⟨_, ⟨_, _, _, e, _⟩, _⟩ := hlt; exact ⟨_, e⟩
        | rng lo hi => obtain ⟨_, _, _, e⟩ := hlt; exact ⟨_, e⟩
        | frz ob u => obtain ⟨e, _⟩ := hlt; exact ⟨_, e⟩
        | tbl ps => obtain ⟨_, e, _⟩ := hlt; exact ⟨_, e⟩
        | met f y => exact ⟨_, (show h.get? t = some _ from hlt)⟩
        | ext φ => obtain ⟨_, ⟨_, e⟩, _⟩ := hlt; exact ⟨_, e⟩
      rw [PySem.W.hideAll_get _ ho m] at ht
      cases ht
end
/-- how an exception lies behind a call -/
def CXE (P : Program) (w : World) : CXT := fun outer H s E e s' =>
  ∃ (a C T : Addr) (a0 : Value) (d : Option Addr) (H' : Hp), e = .ref a ∧ s'.os = s.os ∧ AllBare s'.gens ∧ Un (frs outer) [] H H' s.heap s'.heap ∧ HOk P w H' s'.heap ∧ H' a = none ∧ H' T = none ∧ s.heap.get? a = none ∧ s.heap.get? T = none ∧
    FlyE s'.heap a (.ref C) a0 T d ∧ E (.ref C) d H'
section
variable {P : Program} {w : World} {K : PySem.W.Frag} {mg : Str → Option Value} {base : Heap} {N : List Str} {qual : Str} {scope : Scope} {f : Addr} {cd : Value} {A : Around} {outer : List Env} {s : Shared} {H : Hp} {E : XK}
/-- behind the last row of a body that raises: from the body's heap s1 to the caller's -/
theorem un_out {s1 : Shared} {h' : Heap} {H1 : Hp} {pins : List (Addr × Obj)} {σ : St} {as : List Addr} (I : Inv (cxOf (CXE P w) P w K mg base N qual scope f cd A outer s H E) pins σ H1 s1) (hs : (PySem.W.hideAll s1.heap as).StaysIn h') (up : s1.heap.UpToSlots h')
    (has : ∀ b ∈ as, b ∈ frs outer ∨ s.heap.get? b = none) : Un (frs outer) [] H H1 s.heap h' := by
  have b0 : Un (frs outer) [] H H1 s.heap s1.heap := I.base
  have fr : ∀ b ∈ frs outer, ∃ o, s1.heap.get? b = some o ∧ ∀ vs, o.data ≠ .fields vs := fun b hb => (I.funs.mem hb).2
  refine ⟨fun b o e n hb hx => ?_, fun b o e n hb hx => ?_, b0.free, fun b o e hx => ?_, b0.tups, b0.frzs, b0.tbls⟩
  · refine hs b o (PySem.W.hideAll_get _ (b0.keep b o e n hb hx) fun z => ?_)
    rcases has b z with q | q
    · exact hb q
    · rw [e] at q; cases q
  · obtain ⟨sl, e1⟩ := b0.slot b o e n hb hx
    obtain ⟨o', e2, nf⟩ := fr b hb
    rw [e1] at e2
    cases e2
    obtain ⟨sl2, e3⟩ := up b _ e1 nf
    exact ⟨sl2, e3⟩
  · obtain ⟨o', e1⟩ := b0.there b o e hx
    by_cases m : b ∈ as
    · rcases has b m with q | q
      · obtain ⟨o2, e2, nf⟩ := fr b q
        obtain ⟨sl2, e3⟩ := up b _ e2 nf
        exact ⟨_, e3⟩
      · rw [e] at q; cases q
    · exact ⟨o', hs b o' (PySem.W.hideAll_get _ e1 m)⟩
end
section
variable {P : Program} {w : World} {K : PySem.W.Frag} {mg : Str → Option Value} {base : Heap} {N : List Str} {qual : Str} {scope : Scope} {f : Addr} {cd : Value} {A : Around} {outer : List Env} {s : Shared} {H : Hp} {E : XK} {pins : List (Addr × Obj)} {σ : St}
abbrev cxE (P : Program) (w : World) (K : PySem.W.Frag) (mg : Str → Option Value) (base : Heap) (N : List Str) (qual : Str) (scope : Scope) (f : Addr) (cd : Value) (A : Around) (outer : List Env) (s : Shared) (H : Hp) (E : XK) : Cx := cxOf (CXE P w) P w K mg base N qual scope f cd A outer s H E
/-- the frame's own address is new -/
theorem loc_new {H1 : Hp} {s1 : Shared} (I : Inv (cxE P w K mg base N qual scope f cd A outer s H E) pins σ H1 s1) : s.heap.get? s.heap.objs.size = none := Heap.get?_none_of_le (Nat.le_refl _)
theorem fr_split {b : Addr} (hb : b ∈ frs (envOfC qual scope s.heap.objs.size f cd :: outer)) : b = s.heap.objs.size ∨ b ∈ frs outer := by
  unfold frs at hb ⊢
  rw [List.filterMap_cons] at hb
  have e : (envOfC qual scope s.heap.objs.size f cd).frame = some s.heap.objs.size := rfl
  rw [e] at hb
  exact List.mem_cons.mp hb
/-- an exception that came out of a call leaves this frame too -/
theorem leave_on {H1 : Hp} {s1 : Shared} {a C T : Addr} {a0 : Value} {d : Option Addr} (I : Inv (cxE P w K mg base N qual scope f cd A outer s H E) pins σ H1 s1) (hf : FlyE s1.heap a (.ref C) a0 T d) (ha : H1 a = none) (hT : H1 T = none) (hna : s.heap.get? a = none) (hnT : s.heap.get? T = none) (q : E (.ref C) d H1) :
    (cxE P w K mg base N qual scope f cd A outer s H E).xe (.ref a) s1 := by
  have hstk := I.stack
  have hfl := hf.flying hstk
  have hfree : ∀ b ∈ a :: T :: frs (envOfC qual scope s.heap.objs.size f cd :: outer), H1 b = none := fun b hb => by
    rcases List.mem_cons.mp hb with e | hb
    · rw [e]; exact ha
    · rcases List.mem_cons.mp hb with e | hb
      · rw [e]; exact hT
      · exact I.stkFree b hb
  refine leaves_onD (env := envOfC qual scope s.heap.objs.size f cd) (outer := outer) I.ok.frames rfl hfl fun h' hfl' up kd => ?_
  obtain ⟨st, hne, hfr, oe, vs, T', oT, ts, g1, g2, g3, g4, g5, g6, g7, g8, g9⟩ := hfl'
  have g10 : oe.dict = d := by
    obtain ⟨oe0, _, _, _, e0, _, _, _, _, _, _, _, d0⟩ := hf
    obtain ⟨o', e1, d1⟩ := kd a oe0 e0
    rw [g1] at e1
    cases e1
    exact d1.trans d0
  have hnT' : s.heap.get? T' = none := by
    cases q : s.heap.get? T' with
    | none => rfl
    | some o =>
      obtain ⟨o', e1⟩ := (show Un (frs outer) [] H H1 s.heap s1.heap from I.base).there T' o q (by simp)
      by_cases m : T' ∈ a :: T :: frs (envOfC qual scope s.heap.objs.size f cd :: outer)
      · rcases List.mem_cons.mp m with e | m
        · exact absurd e g6
        · rcases List.mem_cons.mp m with e | m
          · rw [e, hnT] at q; cases q
          · obtain ⟨_, o2, e2, nf⟩ := hstk.mem m
            obtain ⟨sl, e3⟩ := up T' o2 e2 nf
            rw [g7] at e3
            cases e3
            exact absurd g8 (nf ts)
      · have g5' : (PySem.W.hideAll s1.heap (a :: T :: frs (envOfC qual scope s.heap.objs.size f cd :: outer))).get? T' = none := g5
        rw [PySem.W.hideAll_get _ e1 m] at g5'
        cases g5'
  refine ⟨a, C, T', a0, d, H1, rfl, I.os, I.bare, un_out I st up fun b hb => ?_, hok_rest I.hok st hfree, ha, untracked_new I.hok hfree g5, hna, hnT', ⟨oe, vs, oT, ts, g1, g2, g3, g4, g6, g7, g8, g9, g10⟩, q⟩
  rcases List.mem_cons.mp hb with e | hb
  · rw [e]; exact .inr hna
  · rcases List.mem_cons.mp hb with e | hb
    · rw [e]; exact .inr hnT
    · rcases fr_split hb with e | hb
      · rw [e]; exact .inr (Heap.get?_none_of_le (Nat.le_refl _))
      · exact .inl hb
/-- a call's exception passes this frame -/
theorem passE : Passes (CXE P w) (cxE P w K mg base N qual scope f cd A outer s H E) E := by
  intro pins σ H1 s1 e s' I h
  obtain ⟨a, C, T, a0, d, H', rfl, hos, hb, un, hok, ha, hT, na, nT, fl, q⟩ := h
  have I' := I.call' (ch := []) hos un hok hb (fun b z => absurd z (by simp))
  have nn : ∀ b, s1.heap.get? b = none → s.heap.get? b = none := fun b e => by
    cases z : s.heap.get? b with
    | none => rfl
    | some o =>
      obtain ⟨o', e1⟩ := (show Un (frs outer) [] H H1 s.heap s1.heap from I.base).there b o z (by simp)
      rw [e] at e1; cases e1
  exact leave_on I' fl ha hT (nn a na) (nn T nT) q
/-- a new exception leaves the frame that raised it -/
theorem leave_new {H1 : Hp} {s1 : Shared} {h' : Heap} {e C : Addr} {args : List Value} (I : Inv (cxE P w K mg base N qual scope f cd A outer s H E) pins σ H1 s1) (hx : Heap.MadeExcOf s1.heap h' e (.ref C) args) (q : E (.ref C) none H1) :
    (cxE P w K mg base N qual scope f cd A outer s H E).xe (.ref e) { s1 with heap := h' } := by
  have hstk := I.stack
  have nn : ∀ b, s1.heap.get? b = none → s.heap.get? b = none := fun b e => by
    cases z : s.heap.get? b with
    | none => rfl
    | some o =>
      obtain ⟨o', e1⟩ := (show Un (frs outer) [] H H1 s.heap s1.heap from I.base).there b o z (by simp)
      rw [e] at e1; cases e1
  have hunt : ∀ b, s1.heap.get? b = none → H1 b = none := fun b e => untracked_new (as := []) I.hok (fun _ z => nomatch z) e
  have hfree : ∀ b ∈ frs (envOfC qual scope s.heap.objs.size f cd :: outer), H1 b = none := I.stkFree
  refine kd_then (R := fun h2 => ∃ t, (PySem.W.hideAll s1.heap (frs (envOfC qual scope s.heap.objs.size f cd :: outer))).FlyingW outer e (.ref C) (.ref t) h2 ∧ h2.TupAt t args ∧ (PySem.W.hideAll s1.heap (frs (envOfC qual scope s.heap.objs.size f cd :: outer))).get? t = none ∧ h'.UpToSlots h2) (s := { s1 with heap := h' }) kd_leaving (wpAny_leaves_madeW (s := { s1 with heap := h' }) (env := envOfC qual scope s.heap.objs.size f cd) (outer := outer) (base := PySem.W.hideAll s1.heap (frs (envOfC qual scope s.heap.objs.size f cd :: outer))) (h := s1.heap) I.ok.frames rfl
    (fun b o e => PySem.W.of_hideAll _ e) (frames_hid hstk fun b hb => hb) hx fun h2 t fl htup hbt up => ⟨h2, rfl, t, fl, htup, hbt, up⟩) ?_
  rintro h2 ⟨t, fl, htup, hbt, up⟩ kd
  obtain ⟨st, hne, hfr, oe, vs, T', oT, ts, g1, g2, g3, g4, g5, g6, g7, g8, g9⟩ := fl
  have g10 : oe.dict = none := by
    obtain ⟨tt, e0, _⟩ := hx.there
    obtain ⟨o', e1, d1⟩ := kd e _ e0
    rw [g1] at e1
    cases e1
    exact d1
  have up' : s1.heap.UpToSlots h2 := (Heap.UpToSlots.of_keeps hx.keeps).trans up
  have hnT1 : s1.heap.get? T' = none := by
    cases q : s1.heap.get? T' with
    | none => rfl
    | some o =>
      by_cases m : T' ∈ frs (envOfC qual scope s.heap.objs.size f cd :: outer)
      · obtain ⟨_, o2, e2, nf⟩ := hstk.mem m
        obtain ⟨sl, e3⟩ := up' T' o2 e2 nf
        rw [g7] at e3
        cases e3
        exact absurd g8 (nf ts)
      · rw [PySem.W.hideAll_get _ q m] at g5
        cases g5
  refine ⟨e, C, T', .ref t, none, H1, rfl, I.os, I.bare, un_out I st up' fun b hb => ?_, hok_rest I.hok st hfree, hunt e hx.new, hunt T' hnT1, nn e hx.new, nn T' hnT1, ⟨oe, vs, oT, ts, g1, g2, g3, g4, g6, g7, g8, g9, g10⟩, q⟩
  rcases fr_split hb with z | hb
  · rw [z]; exact .inr (Heap.get?_none_of_le (Nat.le_refl _))
  · exact .inl hb
/-- an exception that lies in the heap, untracked, leaves the frame that raised it -/
theorem leave_own {H1 : Hp} {s1 : Shared} {e C : Addr} {oe : Obj} {vs : Array Value} {a0 : Value} {d : Option Addr} (I : Inv (cxE P w K mg base N qual scope f cd A outer s H E) pins σ H1 s1)
    (en : s.heap.get? e = none) (un : H1 e = none) (he : s1.heap.get? e = some oe) (hc : oe.cls = .ref C) (hd : oe.data = .fields vs) (h1 : vs[1]? = some .none) (h0 : vs[0]? = some a0) (dc : oe.dict = d) (q : E (.ref C) d H1) :
    (cxE P w K mg base N qual scope f cd A outer s H E).xe (.ref e) s1 := by
  have hstk := I.stack
  have nn : ∀ b, s1.heap.get? b = none → s.heap.get? b = none := fun b e => by
    cases z : s.heap.get? b with
    | none => rfl
    | some o =>
      obtain ⟨o', e1⟩ := (show Un (frs outer) [] H H1 s.heap s1.heap from I.base).there b o z (by simp)
      rw [e] at e1; cases e1
  have hfree : ∀ b ∈ e :: frs (envOfC qual scope s.heap.objs.size f cd :: outer), H1 b = none := fun b hb => by
    rcases List.mem_cons.mp hb with z | hb
    · rw [z]; exact un
    · exact I.stkFree b hb
  refine kd_then (R := fun h2 => Heap.LeftW (PySem.W.hideAll s1.heap (e :: frs (envOfC qual scope s.heap.objs.size f cd :: outer))) (envOfC qual scope s.heap.objs.size f cd :: outer) e oe.cls a0 s1.heap h2) kd_leaving
    (wpAny_leaving_firstW (env := envOfC qual scope s.heap.objs.size f cd) (outer := outer) I.ok.frames (frames_hid hstk fun b hb => .tail _ hb) rfl he (fun b o e => PySem.W.of_hideAll _ e) (PySem.W.hideAll_none _ (.head _)) hd h1 h0 fun h2 lf => ⟨h2, rfl, lf⟩) fun h2 lf kd => ?_
  obtain ⟨st, hfr, ⟨oe2, vs2, T', oT, ts, g1, g2, g3, g4, g5, g6, g7, g8, g9⟩, up⟩ := lf
  have up : s1.heap.UpToSlots h2 := up
  have g10 : oe2.dict = d := by
    obtain ⟨o', e1, d1⟩ := kd e oe he
    rw [g1] at e1
    cases e1
    exact d1.trans dc
  have hnT1 : s1.heap.get? T' = none := by
    cases q : s1.heap.get? T' with
    | none => rfl
    | some o =>
      by_cases m : T' ∈ e :: frs (envOfC qual scope s.heap.objs.size f cd :: outer)
      · rcases List.mem_cons.mp m with y | m
        · exact absurd y g6
        · obtain ⟨_, o2, e2, nf⟩ := hstk.mem m
          obtain ⟨sl, e3⟩ := up T' o2 e2 nf
          rw [g7] at e3
          cases e3
          exact absurd g8 (nf ts)
      · rw [PySem.W.hideAll_get _ q m] at g5
        cases g5
  have hunt : ∀ b, s1.heap.get? b = none → H1 b = none := fun b e => untracked_new (as := []) I.hok (fun _ z => nomatch z) e
  rw [hc] at g2
  refine ⟨e, C, T', a0, d, H1, rfl, I.os, I.bare, un_out I st up fun b hb => ?_, hok_rest I.hok st hfree, un, hunt T' hnT1, en, nn T' hnT1, ⟨oe2, vs2, oT, ts, g1, g2, g3, g4, g6, g7, g8, g9, g10⟩, q⟩
  rcases List.mem_cons.mp hb with z | hb
  · rw [z]; exact .inr en
  rcases fr_split hb with z | hb
  · rw [z]; exact .inr (Heap.get?_none_of_le (Nat.le_refl _))
  · exact .inl hb
end
end L2

set_option Elab.async false
set_option linter.all false
set_option maxRecDepth 100000
set_option maxHeartbeats 0
namespace L2
open PySem PySem.Spec PyProof.Rows
/-! ### raise C(..), C an own class over ValueError without an __init__ -/
abbrev bmV : List Value := [.type "ValueError", .type "Exception", .type "BaseException", .type "object"]
def ExcCl (K : PySem.W.Frag) (C : Addr) : Prop := PySem.W.excIn K C bmV "ValueError.__new__" = true
theorem exc_obj {K : PySem.W.Frag} {h : Heap} {C : Addr} {bmB : List Value} {newId : String} (X : K.In h) (q : PySem.W.excIn K C bmB newId = true) :
    ∃ bm N nm qn bs hd sn sub ab col dd k0 k1 k2 k3 k5 mN, h.get? C = some (excClassObj nm qn C N bs bm hd sn sub ab col dd k0 k1 k2 k3 k5 newId) ∧ h.Ns N mN ∧ mN "__init__" = none ∧ OwnTail h bmB bm := by
  unfold PySem.W.excIn at q
  split at q
  · rename_i dd cd sl ho
    split at q
    · rename_i C' bm k0 k1 k2 k3 n k5 hm hs
      simp only [Bool.and_eq_true, beq_iff_eq, Bool.not_eq_true'] at q
      obtain ⟨⟨⟨⟨⟨rfl, rfl⟩, hdel⟩, ht⟩, hok⟩, hni⟩ := q
      obtain ⟨nm, bs, mro, ns, qn, hd, sn, sub, ab, col, del⟩ := cd
      dsimp only at hm hdel hok hni
      subst hm hdel
      have hsl : sl = #[k0, k1, k2, k3, some (.builtin n), k5] := by
        obtain ⟨l⟩ := sl
        simp only at hs
        rw [hs]
      subst hsl
      exact ⟨bm, ns, nm, qn, bs, hd, sn, sub, ab, col, dd, k0, k1, k2, k3, k5, _, X _ _ ho, .of_isNs (PySem.W.isNs_of_in X hok), PySem.W.nsMap_none_of_in X hok hni, PySem.W.tail_of_in X ht⟩
    · cases q
  · cases q
def tRaise (E : XK) (C : Addr) (t : TA) : TS := fun _ σ H => t σ H fun xs H1 => xs.length ≤ sizeLine ∧ E (.ref C) none H1
section
variable {P : Program} {w : World} {K : PySem.W.Frag} {mg : Str → Option Value} {base : Heap} {N : List Str} {qual : Str} {scope : Scope} {f : Addr} {cd : Value} {A : Around} {outer : List Env} {s : Shared} {H : Hp} {E : XK}
theorem ps_raise {x : Str} {np cpos pos : Pos} {e : Expr} {es : List Expr} {t : TA} {C : Addr} {k : Nat} (hC : ExcCl K C) (hr : Room k (cxE P w K mg base N qual scope f cd A outer s H E).A) (hm : mg x = some (.ref C)) (ha : PA (cxE P w K mg base N qual scope f cd A outer s H E) (e :: es) t)
    (hg : Gl (cxE P w K mg base N qual scope f cd A outer s H E) x := by rfl) (hdb : (x == ("__debug__" : Str)) = false := by decide) (he : starEach (e :: es) (cxE P w K mg base N qual scope f cd A outer s H E).env = (false, eval e (cxE P w K mg base N qual scope f cd A outer s H E).env) :: starEach es (cxE P w K mg base N qual scope f cd A outer s H E).env := by rfl)
    (hpl : (backTo cpos (starEach es (cxE P w K mg base N qual scope f cd A outer s H E).env)).any (·.1) = false := by rfl) :
    PS (cxE P w K mg base N qual scope f cd A outer s H E) (.Raise (some (.Call (.Name x np) (e :: es) [] cpos)) none pos) (tRaise E C t) := by
  intro pins s1 σ H1 D I h
  obtain ⟨bm, Nn, nm, qn, bs, hd, sn, sub, ab, col, dd, k0, k1, k2, k3, k5, mN, hC1, hN1, hni, TL1⟩ := exc_obj I.mod.kin hC
  have hbase : bm.contains (.type "BaseException") = true := TL1.hasType (by decide)
  have eb : backTo cpos (starEach (e :: es) (cxE P w K mg base N qual scope f cd A outer s H E).env) = (false, eval e (cxE P w K mg base N qual scope f cd A outer s H E).env) :: backTo cpos (starEach es (cxE P w K mg base N qual scope f cd A outer s H E).env) := by rw [he]; rfl
  refine wpAny_Raise_call_subT (C := C) (mN := mN) (nm := nm) (q := qn) (N := Nn) (bs := bs) (hdct := hd) (sn := sn) (sub := sub) (ab := ab) (col := col) (dd := dd) (k0 := k0) (k1 := k1) (k2 := k2) (k3 := k3) (k5 := k5) PySem.F.excBase_ValueError hbase hr.hd ?_ hni ?_
  · rw [eb]
    simpa using hpl
  refine ld_glob I hg hm ⟨rfl, ?_⟩ hdb
  rw [eb]
  refine Calls.evalArgs_plain ?_
  rw [← eb]
  refine thn (ha cpos pins s1 σ H1 _ I h) fun us s2 ⟨xs, H2, I2, r, hz, q⟩ => ?_
  refine ⟨rfl, by rw [← r.length]; exact hz, I2.bk _ _ hC1, hN1.keeps I2.bk, TL1.keeps I2.bk, fun h' e hx => ?_⟩
  exact leave_new I2 hx q
end
/-! ### defs and methods that may raise -/
structure FnAllE (P : Program) (w : World) (K : PySem.W.Frag) (mg : Str → Option Value) (base : Heap) (x : Str) (k : Nat) (ps : List Str) (sp : Sp) : Prop where
  ex : ∃ f fd, FnOk P w K mg base (CXE P w) k f fd ps sp ∧ mg x = some (.ref f) ∧ PySem.W.keepIn K (.ref f) = true ∧ Binds K fd ps []
structure MethAllE (P : Program) (w : World) (K : PySem.W.Frag) (mg : Str → Option Value) (base : Heap) (C : Addr) (m : Str) (k : Nat) (ps : List Str) (sp : Sp) : Prop where
  ex : ∃ f fd, Cls K C ∧ Meth K C m f ∧ FnOk P w K mg base (CXE P w) k f fd ps sp ∧ Binds K fd ps []
section
variable {P : Program} {w : World} {K : PySem.W.Frag} {mg : Str → Option Value} {base : Heap}
theorem Fn.okE {x : Str} {st : Stmt} {N ps : List Str} {k : Nat} {sp : Sp} (F : Fn K mg x st ps) (S : FnScope N ps (defScope st)) (len : ∀ vs H Q E, sp vs H Q E → vs.length = ps.length)
    (hbody : ∀ (f : Addr) (cdv : Value) (A : Around) (outer : List Env) (s : Shared) (H : Hp) (vs : List V) (Q : VK) (E : XK), Room k (A.deeper (envOfC x (defScope st) s.heap.objs.size f cdv)) → sp vs H Q E →
      ∃ t, PSs (cxE P w K mg base N x (defScope st) f cdv A outer s H E) (defBody st) t ∧ t { nx := fun _ H' => Q .non H', rt := Q } (start N vs) H) : FnAllE P w K mg base x (k + 1) ps sp := by
  obtain ⟨f, fd, F, hm, hb⟩ := F.ex
  obtain ⟨oc, od, kV, doc, pm, an, cdv, ct, osl, rfl, lk, hcd⟩ := F.ex
  exact ⟨f, _, fn_of lk hcd S len fun A outer s H vs Q E hr hsp => hbody f cdv A outer s H vs Q E hr hsp, hm, F.kp, hb⟩
theorem Mt.okE {C : Addr} {x qual : Str} {st : Stmt} {N ps : List Str} {k : Nat} {sp : Sp} (F : Mt K C x qual st ps) (c : Cls K C) (S : FnScope N ps (defScope st)) (len : ∀ vs H Q E, sp vs H Q E → vs.length = ps.length)
    (hbody : ∀ (f : Addr) (cdv : Value) (A : Around) (outer : List Env) (s : Shared) (H : Hp) (vs : List V) (Q : VK) (E : XK), Room k (A.deeper (envOfC qual (defScope st) s.heap.objs.size f cdv)) → sp vs H Q E →
      ∃ t, PSs (cxE P w K mg base N qual (defScope st) f cdv A outer s H E) (defBody st) t ∧ t { nx := fun _ H' => Q .non H', rt := Q } (start N vs) H) : MethAllE P w K mg base C x (k + 1) ps sp := by
  obtain ⟨f, fd, F, hf, hi, hb⟩ := F.ex
  obtain ⟨oc, od, kV, doc, pm, an, cdv, ct, osl, rfl, lk, hcd⟩ := F.ex
  exact ⟨f, _, c, ⟨hf, hi, F.kp⟩, fn_of lk hcd S len fun A outer s H vs Q E hr hsp => hbody f cdv A outer s H vs Q E hr hsp, hb⟩
end
def tCallE (sp : Sp) (E : XK) (t : TA) : TE := fun σ H Q => t σ H fun vs H1 => sp vs H1 Q E
def methKE (ok : Addr → Prop) (m : Str) (sp : Addr → Sp) (E : XK) (t : TA) (x : V) (σ : St) (H1 : Hp) (Q : VK) : Prop := ∃ a C dx fs, x = .ref a ∧ H1 a = some (.ins C dx fs) ∧ ok C ∧ fs.lookup m = none ∧ t σ H1 fun vs H2 => sp C (x :: vs) H2 Q E
def tMethE (ok : Addr → Prop) (m : Str) (sp : Addr → Sp) (E : XK) (ta : TE) (t : TA) : TE := fun σ H Q => ta σ H fun x H1 => methKE ok m sp E t x σ H1 Q
section
variable {X : Cx} {x : Str} {k n : Nat} {ps : List Str} {sp : Sp} {spC : Addr → Sp} {e o : Expr} {es : List Expr} {t : TA} {ta : TE} {p pos apos : Pos} {E : XK} {ok : Addr → Prop} {m : Str}
theorem pe_callE (F : FnAllE X.prog X.w X.K X.mg X.base x k ps sp) (hr : Room n X.A) (hx : Passes (CXE X.prog X.w) X E) (ha : PA X (e :: es) t) (hk : k ≤ n := by decide) (hg : Gl X x := by rfl) (hdb : (x == ("__debug__" : Str)) = false := by decide)
    (he : starEach (e :: es) X.env = (false, eval e X.env) :: starEach es X.env := by rfl) (hpl : (backTo pos (starEach es X.env)).any (·.1) = false := by rfl) : PE X (.Call (.Name x p) (e :: es) [] pos) (tCallE sp E t) := by
  obtain ⟨f, fd, G, hm, hkp, hb⟩ := F.ex
  intro pins s σ H Q I h
  refine pe_call G (hr.mono hk) hg hm hkp hb .nil hx ha hdb he hpl pins s σ H Q I ?_
  have z : tCall sp [] E t = tCallE sp E t := by
    unfold tCall tCallE
    funext σ H Q
    congr 1
    funext vs H1
    rw [List.append_nil]
  rw [z]; exact h
theorem pe_methE {pl : Sem Bool} (hok : ∀ C, ok C → MethAllE X.prog X.w X.K X.mg X.base C m k ps (spC C)) (hr : Room n X.A) (hx : Passes (CXE X.prog X.w) X E) (he : PE X o ta) (ha : PA X (e :: es) t) (hk : k ≤ n := by decide)
    (hst : starEach (e :: es) X.env = (false, eval e X.env) :: starEach es X.env := by rfl) (hpl : (backTo pos (starEach es X.env)).any (·.1) = false := by rfl)
    (ht : eval (.Call (.Attribute o m apos) (e :: es) [] pos) X.env = (do
      let ov ← eval o X.env
      standAt apos.atName
      let (f, first) ← holding [ov] (getMethod ov m pl)
      callWith pos f first (backTo pos (starEach (e :: es) X.env)) (backToKw pos (keywordEach [] X.env))) := by rfl) :
    PE X (.Call (.Attribute o m apos) (e :: es) [] pos) (tMethE ok m spC E ta t) := by
  intro pins s σ H Q I h
  refine PySem.W.methodCall_KW (pl := pl) (thn (he pins s σ H _ I h) fun u s1 ⟨x, H1, I1, rx, a, C, dx, fs, ex, ea, hC, l, q⟩ => ?_) ht
  subst ex
  obtain rfl : u = Value.ref a := rx
  obtain ⟨f, fd, c, hm, F, hb⟩ := (hok C hC).ex
  refine getmeth_ok I1 ea c hm l ?_
  refine PySem.W.callWith_K (first := [.ref a]) (h₀ := X.base) I.ok.mod.kin hm.kp (thn (ha pos pins s1 σ H1 _ I1 q) fun us s2 ⟨vs, H2, I2, r, q2⟩ => ⟨I2.kIn, ?_⟩) hst hpl
  exact run_fn (us := .ref a :: us) (vs := .ref a :: vs) (dvs := []) F (hr.mono hk) hb .nil hx I2 (.cons rfl r) (by rw [List.append_nil]; exact q2)
end
/-! ### within an except suite -/
def Cx.hand (X : Cx) (a : Addr) : Cx := { X with A := X.A.mark (some (.ref a)), calm := false, xe := fun _ _ => False }
section
variable {X : Cx} {pins : List (Addr × Obj)} {σ : St} {H H' : Hp} {s : Shared} {a C : Addr}
theorem Inv.hand (I : Inv X pins σ H s) : Inv (X.hand a) pins σ H s :=
  ⟨⟨I.ok.mod, I.ok.kind, I.ok.glob, I.ok.blt, I.ok.above, I.ok.inj, I.ok.has, I.ok.cab, (fun z => nomatch z), I.ok.frames, I.ok.stk, I.ok.exf, I.ok.bs, I.ok.bsz, I.ok.noex, I.ok.exfs, I.ok.funs, I.ok.frf⟩, I.os, I.bare, I.base, I.loc, I.cell, I.free, I.freeC, I.pin, I.hok, I.len⟩
theorem Inv.unhand (ok : X.Ok) (I : Inv (X.hand a) pins σ H s) : Inv X pins σ H s := ⟨ok, I.os, I.bare, I.base, I.loc, I.cell, I.free, I.freeC, I.pin, I.hok, I.len⟩
theorem Inv.reX {F : Value → Shared → Prop} (I : Inv (X.wish F) pins σ H s) : Inv X pins σ H s :=
  ⟨⟨I.ok.mod, I.ok.kind, I.ok.glob, I.ok.blt, I.ok.above, I.ok.inj, I.ok.has, I.ok.cab, I.ok.hd, I.ok.frames, I.ok.stk, I.ok.exf, I.ok.bs, I.ok.bsz, I.ok.noex, I.ok.exfs, I.ok.funs, I.ok.frf⟩, I.os, I.bare, I.base, I.loc, I.cell, I.free, I.freeC, I.pin, I.hok, I.len⟩
theorem Inv.wishX {F : Value → Shared → Prop} (I : Inv X pins σ H s) : Inv (X.wish F) pins σ H s :=
  ⟨⟨I.ok.mod, I.ok.kind, I.ok.glob, I.ok.blt, I.ok.above, I.ok.inj, I.ok.has, I.ok.cab, I.ok.hd, I.ok.frames, I.ok.stk, I.ok.exf, I.ok.bs, I.ok.bsz, I.ok.noex, I.ok.exfs, I.ok.funs, I.ok.frf⟩, I.os, I.bare, I.base, I.loc, I.cell, I.free, I.freeC, I.pin, I.hok, I.len⟩
def noSt (X : Cx) : St := List.replicate X.N.length none
theorem Inv.forget (I : Inv X pins σ H s) : Inv X pins (noSt X) H s := by
  refine ⟨I.ok, I.os, I.bare, I.base, ?_, I.cell, I.free, I.freeC, I.pin, I.hok, by unfold noSt; rw [List.length_replicate]⟩
  obtain ⟨m, hn, _⟩ := I.loc
  refine ⟨m, hn, fun i x v _ h2 => ?_⟩
  unfold noSt at h2
  rw [List.getElem?_replicate] at h2
  split at h2 <;> cases h2
/-- an exception of the class at C -/
def ExcO (a C : Addr) (d : Option Addr) (h : Heap) : Prop := ∃ o, h.get? a = some o ∧ o.cls = .ref C ∧ o.dict = d ∧ ∃ vs, o.data = .fields vs
def excHO (a C : Addr) (d : Option Addr) : HO := .ext (ExcO a C d)
/-- the caught exception is tracked from now on -/
theorem Inv.caught {s' : Shared} {o : Obj} {vs : Array Value} {d : Option Addr} (I : Inv X pins σ H s) (hos : s'.os = s.os) (hb : AllBare s'.gens) (un : Un (frs X.stack) [] H H' s.heap s'.heap) (hok : HOk X.prog X.w H' s'.heap) (na : s.heap.get? a = none) (ha : H' a = none)
    (ho : s'.heap.get? a = some o) (hoc : o.cls = .ref C) (hod : o.data = .fields vs) (hodd : o.dict = d) : Inv X pins σ (upd H' a (excHO a C d)) s' := by
  have I' := I.call' (ch := []) hos un hok hb (fun b z => absurd z (by simp))
  have na0 : X.s₀.heap.get? a = none ∨ a ∈ X.ex := by
    cases z : X.s₀.heap.get? a with
    | none => exact .inl rfl
    | some q =>
      by_cases m : a ∈ X.ex
      · exact .inr m
      · obtain ⟨o', e1⟩ := I.base.there a q z m
        rw [na] at e1; cases e1
  have nL : X.env.locals ≠ a := fun e => by
    obtain ⟨m, ⟨oL, es, ep, hoL, hdL, _⟩, _⟩ := I'.loc
    rw [e, ho] at hoL; cases hoL; rw [hod] at hdL; cases hdL
  have nt : ∀ b u, H' b = some u → b ≠ a := fun b u e z => by rw [z, ha] at e; cases e
  refine ⟨I'.ok, I'.os, I'.bare, ⟨I'.base.keep, I'.base.slot, fun b q e n hx => ?_, I'.base.there, fun b xs e => ?_, fun b q u e => ?_, fun b ps e => ?_⟩, I'.loc, I'.cell, ?_, fun x c e => ?_, fun p hp => ?_, fun b u e => ?_, I'.len⟩
  · rw [upd_ne]
    · exact I'.base.free b q e n hx
    · intro z
      rcases na0 with y | y
      · rw [z, y] at e; cases e
      · exact hx (by rw [z]; exact y)
  · have := I'.base.tups b xs e
    rw [upd_ne (nt b _ this)]; exact this
  · have := I'.base.frzs b q u e
    rw [upd_ne (nt b _ this)]; exact this
  · obtain ⟨more, h1⟩ := I'.base.tbls b ps e
    exact ⟨more, by rw [upd_ne (nt b _ h1)]; exact h1⟩
  · rw [upd_ne nL]; exact I'.free
  · rw [upd_ne]
    · exact I'.freeC x c e
    · intro z
      obtain ⟨v, oc, hoc', hdc⟩ := I'.cell x c e
      rw [z, ho] at hoc'; cases hoc'; rw [hod] at hdc; cases hdc
  · obtain ⟨e, n, ne, nf, d⟩ := I'.pin p hp
    refine ⟨e, ?_, ne, nf, d⟩
    rw [upd_ne]
    · exact n
    · intro z
      have := (I.pin p hp).1
      rw [z, na] at this; cases this
  · by_cases hba : b = a
    · subst hba
      rw [upd_same] at e
      cases e
      exact ⟨⟨o, ho, hoc, hodd, _, hod⟩, ⟨o, ho⟩, fun h1 h2 ⟨q, e1, e2⟩ k => ⟨q, k q e1, e2⟩⟩
    · rw [upd_ne hba] at e
      refine (I'.hok b u e).stay (fun _ _ _ r => r) (fun c r => ?_) fun c xs r => ?_
      · rw [upd_ne (nt c _ r)]; exact r
      · rw [upd_ne (nt c _ r)]; exact r
/-- a name of the frame's own goes -/
theorem Inv.unbound {i : Nat} {x : Str} {h' : Heap} {m : Str → Option Value} {u : Option Value} (I : Inv X pins σ H s) (hN : X.N.Nodup) (hi : X.N[i]? = some x) (hn : s.heap.Ns X.env.locals m) (hn' : h'.Ns X.env.locals (fun y => if y = x then u else m y)) (hs : Heap.SameBut X.env.locals s.heap h') :
    Inv X pins (σ.set i none) H { s with heap := h' } := by
  obtain ⟨m0, hn0, hl⟩ := id I.loc
  have cne := I.cne
  have em : m0 = m := by
    obtain ⟨o1, es1, ep1, a1, b1, c1, d1⟩ := hn0
    obtain ⟨o2, es2, ep2, a2, b2, c2, d2⟩ := hn
    rw [a1] at a2
    cases a2
    rw [b1] at b2
    cases b2
    funext y
    rw [← d1 y, ← d2 y]
  subst em
  obtain ⟨oL, _, _, hoL, _⟩ := id hn0
  refine ⟨I.ok, I.os, I.bare, ⟨fun b o e n hb hx => ?_, fun b o e n hb hx => ?_, I.base.free, fun b o e hx => ?_, I.base.tups, I.base.frzs, I.base.tbls⟩, ⟨_, hn', fun j y v' e1 e2 e3 => ?_⟩, fun y c e => ?_, I.free, I.freeC, fun p hp => ?_, fun b ob e => ?_, by simpa using I.len⟩
  · exact (hs.2 b (Nat.ne_of_lt (Nat.lt_of_lt_of_le (Heap.lt_size e) I.ok.above))).trans (I.base.keep b o e n hb hx)
  · obtain ⟨sl, e1⟩ := I.base.slot b o e n hb hx
    exact ⟨sl, (hs.2 b (Nat.ne_of_lt (Nat.lt_of_lt_of_le (Heap.lt_size e) I.ok.above))).trans e1⟩
  · obtain ⟨o', e1⟩ := I.base.there b o e hx
    exact ⟨o', (hs.2 b (Nat.ne_of_lt (Nat.lt_of_lt_of_le (Heap.lt_size e) I.ok.above))).trans e1⟩
  · by_cases hj : j = i
    · subst hj
      have hiσ : j < σ.length := by rw [I.len]; exact (List.getElem?_eq_some_iff.mp hi).1
      rw [List.getElem?_set_self hiσ] at e2
      cases e2
    · rw [List.getElem?_set_ne (Ne.symm hj)] at e2
      obtain ⟨u', r', q⟩ := hl j y v' e1 e2 e3
      refine ⟨u', r', ?_⟩
      rcases q with ⟨k, e⟩ | ⟨k, c, e, z⟩
      · refine .inl ⟨k, ?_⟩
        have : y ≠ x := fun e => hj (nodup_ix hN e1 (e ▸ hi))
        simp [this, e]
      · exact .inr ⟨k, c, e, z.sameBut hs (cne y c e)⟩
  · obtain ⟨w', z⟩ := I.cell y c e
    exact ⟨w', z.sameBut hs (cne y c e)⟩
  · obtain ⟨e, n, ne, nf, d⟩ := I.pin p hp
    exact ⟨(hs.2 p.1 ne).trans e, n, ne, nf, d⟩
  · refine (I.hok b ob e).stay (fun c w' hc q => (hs.2 c ?_).trans q) (fun _ q => q) fun _ _ q => q
    rintro rfl
    rcases hc with rfl | hc
    · rw [I.free] at e; cases e
    · rw [I.free] at hc; cases hc
end
end L2

set_option Elab.async false
set_option linter.all false
set_option maxRecDepth 100000
set_option maxHeartbeats 0
namespace L2
open PySem PySem.Spec PyProof.Rows
abbrev Cx.inTry (X : Cx) (pn : List (Addr × Obj)) (F : Value → Shared → Prop) : Cx := { X with pn := pn, xe := F }
section
variable {X : Cx} {pins : List (Addr × Obj)} {σ : St} {H H' : Hp} {s : Shared} {a C : Addr} {F : Value → Shared → Prop}
theorem Inv.toTry (I : Inv X pins σ H s) : Inv (X.inTry (X.pn ++ pins) F) [] σ H s :=
  ⟨⟨I.ok.mod, I.ok.kind, I.ok.glob, I.ok.blt, I.ok.above, I.ok.inj, I.ok.has, I.ok.cab, I.ok.hd, I.ok.frames, I.ok.stk, I.ok.exf, I.ok.bs, I.ok.bsz, I.ok.noex, I.ok.exfs, I.ok.funs, I.ok.frf⟩, I.os, I.bare, I.base, I.loc, I.cell, I.free, I.freeC, fun p hp => I.pin p (by
    have : p ∈ (X.pn ++ pins) ++ [] := hp
    rwa [List.append_nil] at this), I.hok, I.len⟩
theorem Inv.ofTry {pl : List (Addr × Obj)} (I : Inv (X.inTry (X.pn ++ pins) F) pl σ H s) : Inv X pins σ H s :=
  ⟨⟨I.ok.mod, I.ok.kind, I.ok.glob, I.ok.blt, I.ok.above, I.ok.inj, I.ok.has, I.ok.cab, I.ok.hd, I.ok.frames, I.ok.stk, I.ok.exf, I.ok.bs, I.ok.bsz, I.ok.noex, I.ok.exfs, I.ok.funs, I.ok.frf⟩, I.os, I.bare, I.base, I.loc, I.cell, I.free, I.freeC, fun p hp => I.pin p (List.mem_append_left _ hp), I.hok, I.len⟩
theorem SP.ofTry {D : Ends} {f : Flow} {s' : Shared} (h : SP (X.inTry (X.pn ++ pins) F) [] D f s') : SP X pins D f s' := by
  cases f with
  | next => obtain ⟨σ', H', I, q⟩ := h; exact ⟨σ', H', I.ofTry, q⟩
  | brk => obtain ⟨σ', H', I, q⟩ := h; exact ⟨σ', H', I.ofTry, q⟩
  | cont => obtain ⟨σ', H', I, q⟩ := h; exact ⟨σ', H', I.ofTry, q⟩
  | ret u => obtain ⟨v, σ', H', I, r, q⟩ := h; exact ⟨v, σ', H', I.ofTry, r, q⟩
end
/-- what a suite's end asks of the rest: the name is gone -/
def handD (D : Ends) (i : Nat) : Ends := { nx := fun σ H => D.nx (σ.set i none) H, rt := D.rt, bk := fun σ H => D.bk (σ.set i none) H, ct := fun σ H => D.ct (σ.set i none) H }
/-- what is asked of an exception that comes out of the try's body -/
def handE (K : PySem.W.Frag) (CB : Addr) (i : Nat) (z : St) (ts : TS) (D : Ends) : XK := fun cls d H' => ∃ C, cls = .ref C ∧ PySem.W.exmOne K (.ref C) (.ref CB) = some true ∧ ∀ a, H' a = none → ts (handD D i) (z.set i (some (.ref a))) (upd H' a (excHO a C d))
def tTry (K : PySem.W.Frag) (CB : Addr) (i : Nat) (z : St) (tb : XK → TS) (ts : TS) : TS := fun D σ H => tb (handE K CB i z ts D) D σ H
section
variable {X : Cx} {body : List Stmt} {x n : Str} {np hpos pos : Pos} {b0 : Stmt} {suite : List Stmt} {CB : Addr} {i : Nat} {tb : XK → TS} {ts : TS} {L : Addr}
theorem ps_try (hm : X.mg x = some (.ref CB)) (hN : X.N.Nodup) (hi : X.N[i]? = some n) (hlo : X.env.scope.names.lookup n = some .local)
    (hb : ∀ (pn : List (Addr × Obj)) (F : Value → Shared → Prop) (E' : XK), Passes (CXE X.prog X.w) (X.inTry pn F) E' → PSs (X.inTry pn F) body (tb E')) (hs : ∀ a, PSs (X.hand a) (b0 :: suite) ts)
    (hgl : Gl X x := by rfl) (hdb : (x == ("__debug__" : Str)) = false := by decide) (hstk : X.stack = X.env :: X.outer := by rfl) (hfr : X.env.frame = some X.env.locals := by rfl) :
    PS X (.Try body [.ExceptHandler (some (.Name x np)) (some n) (b0 :: suite) hpos] [] [] pos) (tTry X.K CB i (noSt X) tb ts) := by
  intro pins s σ H D I h
  refine wpAny_Try_except ?_
  let EB : Value → Shared → Prop := fun e s₁ => wpAny (model X.prog X.w) X.A (noteFrame e X.env) (fun _ s₂ => wpAny (model X.prog X.w) X.A (setFlight e none) (fun _ s₃ => wpAny (model X.prog X.w) X.A (handleBy e X.env [.ExceptHandler (some (.Name x np)) (some n) (b0 :: suite) hpos]) (SP X pins D) X.xe s₃) X.xe s₂) X.xe s₁
  have pass : Passes (CXE X.prog X.w) (X.inTry (X.pn ++ pins) EB) (handE X.K CB i (noSt X) ts D) := by
    intro pl σ1 H1 s1 e s' I1 hc
    obtain ⟨a, C, T, a0, d, H', rfl, hos, hbare, un, hok, ha, hT, na, nT, fl, q⟩ := hc
    obtain ⟨C', eC, hex, hq⟩ := q
    cases eC
    have J1 : Inv X pins σ1 H1 s1 := I1.ofTry
    have Js := J1.call' (ch := []) hos un hok hbare (fun b z => absurd z (by simp))
    have hst := Js.stack
    have fl1 := fl.flying hst
    rw [hstk] at fl1 hst
    have hA : X.A.frames = some (X.env :: X.outer) := by rw [← hstk]; exact J1.ok.frames
    have hfree : ∀ b ∈ a :: T :: frs (X.env :: X.outer), H' b = none := fun b hb => by
      rcases List.mem_cons.mp hb with e | hb
      · rw [e]; exact ha
      · rcases List.mem_cons.mp hb with e | hb
        · rw [e]; exact hT
        · exact Js.stkFree b (by rw [hstk]; exact hb)
    show wpAny _ X.A (noteFrame (.ref a) X.env) _ _ s'
    refine looks_onD hA hfr fl1 fun h4 held4 up4 kd4 => ?_
    refine landsD held4 fun h5 fl5 up5 kd5 => ?_
    -- behind any of these steps: what is not the exception's own is as it was
    have after : ∀ h6 : Heap, (restOf s'.heap a T (X.env :: X.outer)).StaysIn h6 → s'.heap.UpToSlots h6 → Un (frs X.stack) [] H1 H' s1.heap h6 ∧ HOk X.prog X.w H' h6 := by
      intro h6 st6 up6
      refine ⟨⟨fun b o e nn hb hx => ?_, fun b o e nn hb hx => ?_, un.free, fun b o e hx => ?_, un.tups, un.frzs, un.tbls⟩, hok_rest hok st6 hfree⟩
      · have e1 := un.keep b o e nn hb hx
        refine st6 b o (PySem.W.hideAll_get _ e1 fun z => ?_)
        rcases List.mem_cons.mp z with y | z
        · rw [y, na] at e; cases e
        · rcases List.mem_cons.mp z with y | z
          · rw [y, nT] at e; cases e
          · exact hb (by rw [hstk]; exact z)
      · obtain ⟨sl, e1⟩ := un.slot b o e nn hb hx
        have m : b ∈ frs (X.env :: X.outer) := by rw [← hstk]; exact hb
        obtain ⟨_, o2, e2, nf⟩ := hst.mem m
        rw [e1] at e2
        cases e2
        obtain ⟨sl2, e3⟩ := up6 b _ e1 nf
        exact ⟨sl2, e3⟩
      · obtain ⟨o', e1⟩ := un.there b o e hx
        by_cases m : b ∈ a :: T :: frs (X.env :: X.outer)
        · rcases List.mem_cons.mp m with y | m
          · rw [y, na] at e; cases e
          · rcases List.mem_cons.mp m with y | m
            · rw [y, nT] at e; cases e
            · obtain ⟨_, o2, e2, nf⟩ := hst.mem m
              obtain ⟨sl2, e3⟩ := up6 b _ e2 nf
              exact ⟨_, e3⟩
        · exact ⟨o', st6 b o' (PySem.W.hideAll_get _ e1 m)⟩
    have up45 := up4.trans up5
    obtain ⟨un5, hok5⟩ := after h5 fl5.1 up45
    have J5 : Inv X pins σ1 H' { s' with heap := h5 } := J1.call' (ch := []) (s' := { s' with heap := h5 }) hos un5 hok5 hbare (fun b z => absurd z (by simp))
    obtain ⟨oe5, he5, hc5⟩ := fl5.there
    refine wpAny_handleBy_cons (codeAny_handlers_test ?_) (by intro q; cases q)
    refine ld_glob (X := X.hand a) (J5.hand) hgl hm ?_ hdb
    have LT : PySem.W.Looks (model X.prog X.w) h5 (typeOf (.ref a)) (.ref C) := hc5 ▸ (PySem.W.Looks.ld he5).andThen .now
    have LM := PySem.W.exm_one (M := model X.prog X.w) (h := h5) J5.kIn LT hex
    refine LM.here ?_
    refine codeAny_handlers_suite_as ?_
    refine lands_againD fl5 fun h6 fl6 up6 kd6 => ?_
    have up46 := up45.trans up6
    obtain ⟨un6, hok6⟩ := after h6 fl6.1 up46
    obtain ⟨oe6, vs6, he6, hc6, hd6, _⟩ := fl6.first
    have hdd6 : oe6.dict = d := by
      obtain ⟨oe0, _, _, _, e0, _, _, _, _, _, _, _, d0⟩ := fl
      obtain ⟨o', e1, d1⟩ := ((kd4.trans kd5).trans kd6) a oe0 e0
      have e2 := he6.symm.trans e1
      cases e2
      exact d1.trans d0
    have J6 := J1.caught (s' := { s' with heap := h6 }) (a := a) (C := C) hos hbare un6 hok6 na ha he6 hc6 hd6 hdd6
    have J6' := J6.forget
    refine store_ok (X := X.hand a) (v := .ref a) (J6'.hand) hN hi (.inl hlo) rfl (fun s7 J7 => ?_) (.inr hlo)
    have suite := hs a pins s7 _ _ (handD D i) J7 (hq a ha)
    refine wpAny_mono suite (fun f s8 h8 => ?_) fun _ _ z => z.elim
    -- the name goes
    have gone : ∀ {σ8 : St} {H8 : Hp}, Inv (X.hand a) pins σ8 H8 s8 → ∀ (R : Shared → Prop), (∀ s9, Inv X pins (σ8.set i none) H8 s9 → R s9) → wpAny (model X.prog X.w) X.A (do bindName X.env n .none; unbindBehindTheSuite X.env n hpos) (fun _ s9 => R s9) X.xe s8 := by
      intro σ8 H8 J8 R hR
      have K8 : Inv X pins σ8 H8 s8 := J8.unhand J1.ok
      refine wpAny_bind (wpAny_bindName (store_ok (v := .non) K8 hN hi (.inl hlo) rfl (fun s9 J9 => ?_) (.inr hlo)))
      unfold unbindBehindTheSuite
      refine wpAny_onRaise ?_
      obtain ⟨m, hn, hl⟩ := id J9.loc
      have hiσ : i < σ8.length := by rw [K8.len]; exact (List.getElem?_eq_some_iff.mp hi).1
      obtain ⟨u, ru, lk⟩ := hl i n .non hi (by rw [List.getElem?_set_self hiσ]) (.inl hlo)
      have hmn : m n = some u := by
        rcases lk with ⟨_, e⟩ | ⟨k, _⟩
        · exact e
        · rcases k with k | k <;> rw [show X.env.kindOf n = some .local from hlo] at k <;> cases k
      have hcls : (X.env.scope.kind == .class || (X.env.scope.kind == .module && X.env.locals != X.env.globals)) = false := by rw [J9.ok.kind]; rfl
      refine wpAny_unbindName_local hlo hn hmn hcls fun h' u' hn' hsb => ?_
      have J10 := J9.unbound hN hi hn hn' hsb
      rw [List.set_set] at J10
      exact hR _ J10
    cases f with
    | next => obtain ⟨σ8, H8, J8, q8⟩ := h8; exact gone J8 _ fun s9 J9 => ⟨_, _, J9, q8⟩
    | brk => obtain ⟨σ8, H8, J8, q8⟩ := h8; exact gone J8 _ fun s9 J9 => ⟨_, _, J9, q8⟩
    | cont => obtain ⟨σ8, H8, J8, q8⟩ := h8; exact gone J8 _ fun s9 J9 => ⟨_, _, J9, q8⟩
    | ret u => obtain ⟨v, σ8, H8, J8, r8, q8⟩ := h8; exact gone J8 _ fun s9 J9 => ⟨_, _, _, J9, r8, q8⟩
  have hb' := hb (X.pn ++ pins) EB _ pass [] s σ H D I.toTry h
  refine wpAny_mono hb' (fun f s1 q => ?_) fun _ _ z => z
  cases f with
  | next => exact wpAny_execs_nil (SP.ofTry q)
  | brk => exact SP.ofTry q
  | cont => exact SP.ofTry q
  | ret u => exact SP.ofTry q
end
end L2

set_option Elab.async false
set_option linter.all false
set_option maxRecDepth 100000
set_option maxHeartbeats 0
namespace L2
open PySem PySem.Spec PySem.Calls PyProof.Rows PySem.W PySem.Builtin PySem.Builtin.ObjectAttr PySem.Builtin.Getset_descriptor
section
variable {prog : Program} {w : World} {A : Around} {E : Value → Shared → Prop} {s : Shared} {K : PySem.W.Frag} {a C : Addr} {d : Option Addr} {R : Result → Shared → Prop}
/-- the class facts that isinstance leans on -/
structure ExcF (K : PySem.W.Frag) (C : Addr) : Prop where
  ga : PySem.W.findIn K (.ref C) "__getattribute__" = some (some (.builtin "BaseException.__getattribute__"))
  gt : PySem.W.findIn K (.ref C) "__getattr__" = some none
  cl : PySem.W.findIn K (.ref C) "__class__" = some (some (.builtin "object.__class__"))
  ob : PySem.W.mroIn K C (.type "object") = some true
  be : PySem.W.mroIn K C (.type "BaseException") = some true
  ci : (PySem.W.clsIn K C).isSome = true
theorem exc_class_get {tp : Value} (X : K.In s.heap) (x : ExcO a C d s.heap) (F : ExcF K C) (h : R (.ok (.ret (.ref C))) s) :
    codeAny (model prog w) A (.call (.builtin "getset_descriptor.__get__") ⟨[.builtin "object.__class__", .ref a, tp], []⟩) R s := by
  obtain ⟨hh, g, dr, t, os⟩ := s
  obtain ⟨o, ho, hc, _⟩ := x
  have L0 : Looks (model prog w) hh (typeOf (.ref a)) (.ref C) := hc ▸ (Looks.ld ho).andThen .now
  have L1 := looks_mroIn (M := model prog w) X F.ob
  refine codeAny_call_builtin KF.slot_gs.plain KF.entry_gs (KF.slot_gs.check _ _ _ _ _ _ _ _ KF.type_class (KF.args_gs _ _ _) ?_)
  unfold Builtin.«getset_descriptor.__get__» descrGet
  rw [dga_obj]
  refine wpAny_bind (wpAny_pure ?_)
  unfold descrGetter descrCheckInstance descrNameAndClass isInstance
  simp only [KF.owner_class]
  repeat lk
  refine ⟨Code.quiet_builtin _ (by decide +kernel), codeAny_builtin KF.entry_class ?_⟩
  unfold Builtin.«object.__class__» shownTypeOf
  repeat lk
  exact h
theorem exc_class_entry {tk : Tok} {Q : Fin → Shared → Prop} (X : K.In s.heap) (x : ExcO a C d s.heap) (F : ExcF K C) (h : Q (.done (.ret (.ref C))) s) : wpAny (model prog w) A (Builtin.«object.__getattribute__» ⟨[.ref a, .str "__class__" tk], []⟩) Q E s := by
  obtain ⟨hh, g, dr, t, os⟩ := s
  obtain ⟨o, ho, hc, _⟩ := id x
  have L0 : Looks (model prog w) hh (typeOf (.ref a)) (.ref C) := hc ▸ (Looks.ld ho).andThen .now
  have L1 := looks_findIn (M := model prog w) X F.cl
  have hT5 : (⟨hh, g, dr, t, os⟩ : Shared).TypeIs (.builtin "object.__class__") "getset_descriptor" := PySem.F.typeOf_object_class
  have f5 := PySem.F.typeOf_object_class
  have f6 := PySem.F.slot_gs_get.lookup
  have f7 := PySem.F.slot_gs_set.lookup
  repeat (any_goals (first | assumption | with_reducible refine Looks.at L0 ?_ | with_reducible refine Looks.at L1 ?_ | wp_step))
  refine exc_class_get X x F ?_
  exact wpAny_pure h
theorem exc_ga_check {M : Model} {nameV : Value} {Q : Unit → Shared → Prop} (X : K.In s.heap) (x : ExcO a C d s.heap) (F : ExcF K C) (hq : Q () s) : wpAny M A (checkBuiltinCall "BaseException.__getattribute__" ⟨[.ref a, nameV], []⟩) Q E s := by
  obtain ⟨hh, g, dr, t, os⟩ := s
  obtain ⟨o, ho, hc, _⟩ := id x
  have L0 : Looks M hh (typeOf (.ref a)) (.ref C) := hc ▸ (Looks.ld ho).andThen .now
  have L1 := looks_mroIn (M := M) X F.be
  have hk : builtinKind "BaseException.__getattribute__" = some .slot := by decide +kernel
  have hsplit : splitId "BaseException.__getattribute__" = some ("BaseException", "__getattribute__") := by decide +kernel
  have ha := PySem.F.args_bexc_ga (.ref a) nameV
  simp only [checkBuiltinCall, hk, hsplit]
  refine wpAny_bind ?_
  · unfold isInstance
    repeat (first | with_reducible refine Looks.at L0 ?_ | with_reducible refine Looks.at L1 ?_ | wp_step)
    exact hq
theorem exc_class_by {tk : Tok} {fill expr : Bool} {Q : Value → Shared → Prop} (X : K.In s.heap) (x : ExcO a C d s.heap) (F : ExcF K C) (hq : Q (.ref C) s) : wpAny (model prog w) A (getAttrBy (.ref a) (.str "__class__" tk) fill expr) Q E s := by
  obtain ⟨hh, g, dr, t, os⟩ := s
  obtain ⟨o, ho, hc, _⟩ := id x
  have L0 : Looks (model prog w) hh (typeOf (.ref a)) (.ref C) := hc ▸ (Looks.ld ho).andThen .now
  have L1 := looks_findIn (M := model prog w) X F.ga
  have L2 := looks_findIn (M := model prog w) X F.gt
  have f3 := PySem.F.attrBase_ValueError.ga.bind (.ref a)
  have hx0 : (expr && onTheHeap (Value.builtin "BaseException.__getattribute__")) = false := by cases expr <;> rfl
  have hx2 : (Value.builtin "BaseException.__getattribute__" == Value.builtin "object.__getattribute__") = false := by decide +kernel
  have hx1 : (onTheHeap (Value.ref C) && Value.builtin "BaseException.__getattribute__" == Value.builtin "object.__getattribute__") = false := by rw [hx2]; rfl
  repeat (any_goals (first | assumption | with_reducible refine Looks.at L0 ?_ | with_reducible refine Looks.at L1 ?_ | with_reducible refine Looks.at L2 ?_ | wp_step))
  refine codeAny_call_builtin PySem.F.attrBase_ValueError.ga.plain PySem.F.entry_bexc_ga (exc_ga_check X x F (exc_class_entry X x F ?_))
  repeat (any_goals (first | assumption | wp_step))
theorem exc_class {Q : Option Value → Shared → Prop} (X : K.In s.heap) (x : ExcO a C d s.heap) (F : ExcF K C) (hq : Q (some (.ref C)) { s with toks := s.toks + 1 }) : wpAny (model prog w) A (getAttr? (.ref a) "__class__") Q E s := by
  obtain ⟨hh, g, dr, t, os⟩ := s
  unfold getAttr? getAttrBy?
  refine wpAny_bind (wpAny_mkText (wpAny_bind (wpAny_attempt (exc_class_by (s := ⟨hh, g, dr, t + 1, os⟩) X x F ?_))))
  exact wpAny_pure hq
theorem kitx_exc (F : ExcF K C) : KitX K (.ref a) (.ref C) (ExcO a C d) where
  ty := fun M h _ ⟨o, ho, hc, _⟩ => hc ▸ (Looks.ld ho).andThen .now
  it := fun _ _ X _ => by
    have hcD := F.ci
    unfold PySem.W.clsIn at hcD
    split at hcD
    · rename_i c' d' cd' sl' ho
      intro A' Q' E' s' k q
      unfold isType loadHead
      exact wpAny_bind (wpAny_loadPart (k _ _ (X _ _ ho)) (wpAny_pure q))
    · cases hcD
  ne := fun h tp dd its n sl X htp => by
    have hcD := F.ci
    refine Bool.eq_false_iff.mpr fun q => ?_
    have e : C = tp := Value.ref.inj (beq_iff_eq.mp q)
    subst e
    unfold PySem.W.clsIn at hcD
    split at hcD
    · rename_i c' d' cd' sl' ho
      have z := (X _ _ ho).symm.trans htp
      cases z
    · cases hcD
  ca := fun X x k => exc_class X x F k
end
/-! ### isinstance of a caught exception -/
section
variable {X : Cx}
def rIsiE (K : PySem.W.Frag) : List V → Hp → VK → Prop := fun xs H Q => ∃ a C d c cv b, xs = [.ref a, c] ∧ H a = some (excHO a C d) ∧ ExcF K C ∧ clsVal c = some cv ∧ PySem.W.kitOne K (.ref C) cv = some b ∧ Q (.bl b) H
theorem call_isinstE : CallR X (.builtin "isinstance") (rIsiE X.K) := by
  intro pins s σ H xs us Q I r h
  obtain ⟨a, C, d, c, cv, b, rfl, ha, F, hc, hk, q⟩ := h
  obtain ⟨u, w', rfl, r1, r2⟩ := vals2 r
  cases r1
  have e : w' = cv := by
    cases c with
    | ty n => cases hc; exact r2
    | ref C => cases hc; exact r2
    | _ => cases hc
  subst e
  obtain ⟨x, _, _⟩ := (show ObjOk X.prog X.w H s.heap a (excHO a C d) from I.hok a _ ha)
  exact PySem.W.kia_one (kitx_exc F) I.kIn x hk (fun z => nomatch z) fun tk => ⟨.bl b, H, I.tok _, rfl, q⟩
end
end L2

set_option Elab.async false
set_option linter.all false
set_option maxRecDepth 100000
set_option maxHeartbeats 0
namespace L2
open PySem PySem.Spec PyProof.Rows
/-! ### calls made while an exception is handled -/
structure RoomH (k : Nat) (A : Around) : Prop where
  dp : A.depth + 3 * k + 5 < recursionLimit
  un : A.units + 16 * k + 200 < cLine
theorem RoomH.mono {j k : Nat} {A : Around} (r : RoomH k A) (h : j ≤ k) : RoomH j A := ⟨by have := r.dp; omega, by have := r.un; omega⟩
theorem RoomH.deeper {k : Nat} {A : Around} (r : RoomH (k + 1) A) (env : Env) : RoomH k (A.deeper env) :=
  ⟨by have := r.dp; show A.depth + 1 + 3 * k + 5 < _; omega, by have := r.un; show A.units + 3 + 16 * k + 200 < _; omega⟩
theorem RoomH.depth {k : Nat} {A : Around} (r : RoomH k A) : A.depth < recursionLimit := by have := r.dp; omega
theorem RoomH.units {k : Nat} {A : Around} (r : RoomH k A) : A.units + 64 < cLine := by have := r.un; omega
theorem Room.hand {k : Nat} {A : Around} {h : Option Value} (r : Room k A) : RoomH k (A.mark h) := ⟨r.dp, r.un⟩
theorem hu16H {A : Around} {k : Nat} (hr : RoomH k A) : A.units + 16 < cLine := Nat.lt_of_le_of_lt (Nat.add_le_add_left (by decide : 16 ≤ 64) _) hr.units
def cxH (CX : CXT) (P : Program) (w : World) (K : PySem.W.Frag) (mg : Str → Option Value) (base : Heap) (N : List Str) (qual : Str) (scope : Scope) (f : Addr) (cd : Value) (A : Around) (outer : List Env) (s : Shared) (H : Hp) (E : XK) : Cx := { cxOf CX P w K mg base N qual scope f cd A outer s H E with calm := false }
structure FnOkH (P : Program) (w : World) (K : PySem.W.Frag) (mg : Str → Option Value) (base : Heap) (CX : CXT) (k : Nat) (f : Addr) (fd : FuncData) (ps : List Str) (sp : Sp) : Prop where
  len : ∀ vs H Q E, sp vs H Q E → vs.length = ps.length
  run : ∀ (A : Around) (outer : List Env) (s : Shared) (H : Hp) (args : Args) (us : List Value) (vs : List V) (Q : VK) (E : XK), RoomH k A → Env0 P w K mg base A outer s H → BindsTo s fd args (ps.zip us) → Vals vs us → sp vs H Q E →
    codeAny (model P w) A (.call (.ref f) args) (CR CX outer P w H s Q E) s
theorem inv_startH {CX : CXT} {P : Program} {w : World} {K : PySem.W.Frag} {mg : Str → Option Value} {base : Heap} {N ps : List Str} {qual : Str} {scope : Scope} {f : Addr} {cd : Value} {A : Around} {outer : List Env} {s s1 : Shared} {H : Hp} {E : XK} {us : List Value} {vs : List V}
    (S : FnScope N ps scope) (e0 : Env0 P w K mg base A outer s H) (hl : vs.length = ps.length) (r : Vals vs us)
    (x : InCallC s s.heap.objs.size (bindL (envOfC qual scope s.heap.objs.size f cd).kindOf (ps.zip us) fun _ => none) (cellsFrom (s.heap.objs.size + 1) scope.names []) (bindC (envOfC qual scope s.heap.objs.size f cd).kindOf (ps.zip us) fun _ => none) s1) :
    Inv (cxH CX P w K mg base N qual scope f cd A outer s H E) [] (start N vs) H s1 := by
  have hpl : ps.length ≤ N.length := by have := congrArg List.length S.pre; rw [List.length_take] at this; omega
  obtain ⟨h1, tk, rfl, hk⟩ := x.done
  have noA : ∀ b : Addr, b ∉ (cxH CX P w K mg base N qual scope f cd A outer s H E).ex := fun b z => absurd (show b ∈ ([] : List Addr) from z) (by simp)
  refine ⟨⟨e0.mod, S.kind, rfl, rfl, Nat.le_refl _, fun y z c h1 h2 => ?_, fun y hy => ?_, fun y c _ h => ?_, (fun z => nomatch z), Around.frames_deeper e0.frames, .inr ⟨rfl, rfl⟩, fun b z => absurd z (noA b), e0.bs, e0.bsz, fun b _ _ => noA b, fun b z => absurd z (noA b), e0.funs, e0.frf⟩,
    rfl, e0.bare, Un.kept hk, ⟨_, x.toInCall.ns, fun i y v h1 h2 h3 => ?_⟩, fun y c h => ⟨_, x.cell y c h⟩, e0.hok.fresh (Nat.le_refl _), fun y c h => ?_, fun p hp => absurd (show p ∈ ([] : List (Addr × Obj)) from hp) (by simp), e0.hok.kept hk, ?_⟩
  · exact name_of_addr x.apart (PySem.mem_of_lookup h1) (PySem.mem_of_lookup h2)
  · have hy : scope.names.lookup y = some .cell ∨ scope.names.lookup y = some .free := hy
    rcases hy with hy | hy
    · exact cell_has hy
    · exact absurd rfl (S.nofree _ (PySem.mem_of_lookup hy))
  · exact Nat.le_of_lt (x.above y c (PySem.mem_of_lookup h))
  · have hi : i < vs.length := by
      unfold start at h2
      by_cases hi : i < vs.length
      · exact hi
      · rw [List.getElem?_append_right (by simpa using hi)] at h2
        rw [List.getElem?_replicate] at h2
        split at h2 <;> cases h2
    have ha : vs[i]? = some v := by
      unfold start at h2
      rw [List.getElem?_append_left (by simpa using hi), List.getElem?_map] at h2
      cases e : vs[i]? with
      | none => rw [e] at h2; cases h2
      | some a => rw [e] at h2; cases h2; rfl
    obtain ⟨u, hu, rv⟩ := r.get ha
    have hp : ps[i]? = some y := by
      rw [← S.pre, List.getElem?_take_of_lt (by omega)]; exact h1
    have ndP : ps.Nodup := by rw [← S.pre]; exact S.nd.sublist (List.take_sublist _ _)
    refine ⟨u, rv, ?_⟩
    rcases S.par y (List.mem_of_getElem? hp) with k | k
    · exact .inl ⟨k, bindL_get ndP hp hu k⟩
    · obtain ⟨c, e⟩ := cell_has (n := s.heap.objs.size + 1) k
      refine .inr ⟨.inl k, c, e, ?_⟩
      have q := x.cell y c e
      rw [bindC_get ndP hp hu (by show scope.names.lookup y ≠ _; rw [k]; decide)] at q
      exact q
  · exact e0.hok.fresh (Nat.le_of_lt (x.above y c (PySem.mem_of_lookup h)))
  · unfold start
    show _ = N.length
    rw [List.length_append, List.length_map, List.length_replicate]
    omega
theorem fn_ofH {CX : CXT} {P : Program} {w : World} {K : PySem.W.Frag} {mg : Str → Option Value} {base : Heap} {k : Nat} {f : Addr} {name qual : Str} {params : Arguments} {body : List Stmt} {scope : Scope} {dV kV doc pm cdv ct oc : Value} {an od : Option Addr}
    {osl : Array (Option Value)} {N ps : List Str} {sp : Sp} (lk : K.lookup f = some ⟨oc, od, .func (PySem.W.fnOf name qual params body scope dV kV doc pm an cdv ct), osl⟩) (hcd : PySem.W.codeIn K cdv qual = true) (S : FnScope N ps scope)
    (len : ∀ vs H Q E, sp vs H Q E → vs.length = ps.length)
    (hbody : ∀ (A : Around) (outer : List Env) (s : Shared) (H : Hp) (vs : List V) (Q : VK) (E : XK), RoomH k (A.deeper (envOfC qual scope s.heap.objs.size f cdv)) → sp vs H Q E →
      ∃ t, PSs (cxH CX P w K mg base N qual scope f cdv A outer s H E) body t ∧ t { nx := fun _ H' => Q .non H', rt := Q } (start N vs) H) :
    FnOkH P w K mg base CX (k + 1) f (PySem.W.fnOf name qual params body scope dV kV doc pm an cdv ct) ps sp := by
  refine ⟨len, fun A outer s H args us vs Q E hr e0 hb r hsp => ?_⟩
  have hl := len _ _ _ _ hsp
  have KX : K.In s.heap := e0.mod.kin.keeps fun b o e => (e0.bs b o e).1
  have lim : s.heap.NoLimit := e0.mod.nolimit.keeps fun b o e => (e0.bs b o e).1
  have hkind : ∀ y ∈ ps.zip us, scope.names.lookup y.1 = some .local ∨ (scope.names.lookup y.1 = some .cell ∧ ((cellsFrom (s.heap.objs.size + 1) scope.names []).lookup y.1).isSome = true) := fun ⟨n, v⟩ hy => by
    rcases S.par n (List.of_mem_zip hy).1 with q | q
    · exact .inl q
    · exact .inr ⟨q, PySem.W.cellsFrom_some _ _ _ (.inl q)⟩
  refine codeAny_call_function hr.depth (KX _ _ lk) rfl S.co S.gen rfl (PySem.W.codeRec_of KX hcd) (hb _ _ _ _ ?_)
  refine wpAny_newFunctionEnv_cells S.kind hkind fun env he s1 x => ?_
  subst he
  refine ⟨lim.keeps x.toInCall.keep, codeAny_func ?_⟩
  obtain ⟨t, ht, hq⟩ := hbody A outer s H vs Q E (hr.deeper _) hsp
  have I : Inv (cxH CX P w K mg base N qual scope f cdv A outer s H E) [] (start N vs) H s1 := inv_startH S e0 hl r x
  refine wpAny_mono (ht [] s1 (start N vs) H _ I hq) (fun fl s' hs => ?_) fun e s' hs => hs
  have fin : ∀ {σ' : St} {H' : Hp} {v : V} {u : Value}, Inv (cxH CX P w K mg base N qual scope f cdv A outer s H E) [] σ' H' s' → RelV v u → Q v H' → CE outer P w H s Q u s' :=
    fun {σ' H' v u} J rv q => ⟨v, H', J.os, J.bare, J.base, J.hok, rv, q⟩
  cases fl with
  | ret u =>
    obtain ⟨v, σ', H', J, rv, q⟩ := hs
    exact fin J rv q
  | next =>
    obtain ⟨σ', H', J, q⟩ := hs
    exact fin (v := V.non) (u := Value.none) J rfl q
  | brk =>
    obtain ⟨_, _, _, q⟩ := hs
    exact False.elim q
  | cont =>
    obtain ⟨_, _, _, q⟩ := hs
    exact False.elim q
structure FnAllH (P : Program) (w : World) (K : PySem.W.Frag) (mg : Str → Option Value) (base : Heap) (x : Str) (k : Nat) (ps : List Str) (sp : Sp) : Prop where
  ex : ∃ f fd, FnOkH P w K mg base CX0 k f fd ps sp ∧ mg x = some (.ref f) ∧ PySem.W.keepIn K (.ref f) = true ∧ Binds K fd ps []
section
variable {P : Program} {w : World} {K : PySem.W.Frag} {mg : Str → Option Value} {base : Heap}
theorem Fn.okH {x : Str} {st : Stmt} {N ps : List Str} {k : Nat} {sp : Sp} (F : Fn K mg x st ps) (S : FnScope N ps (defScope st)) (len : ∀ vs H Q E, sp vs H Q E → vs.length = ps.length)
    (hbody : ∀ (f : Addr) (cdv : Value) (A : Around) (outer : List Env) (s : Shared) (H : Hp) (vs : List V) (Q : VK) (E : XK), RoomH k (A.deeper (envOfC x (defScope st) s.heap.objs.size f cdv)) → sp vs H Q E →
      ∃ t, PSs (cxH CX0 P w K mg base N x (defScope st) f cdv A outer s H E).nox (defBody st) t ∧ t { nx := fun _ H' => Q .non H', rt := Q } (start N vs) H) : FnAllH P w K mg base x (k + 1) ps sp := by
  obtain ⟨f, fd, F, hm, hb⟩ := F.ex
  obtain ⟨oc, od, kV, doc, pm, an, cdv, ct, osl, rfl, lk, hcd⟩ := F.ex
  exact ⟨f, _, fn_ofH lk hcd S len fun A outer s H vs Q E hr hsp => let ⟨t, h, q⟩ := hbody f cdv A outer s H vs Q E hr hsp; ⟨t, h.nox, q⟩, hm, F.kp, hb⟩
end
section
variable {X : Cx} {x : Str} {k n : Nat} {ps : List Str} {sp : Sp} {e : Expr} {es : List Expr} {t : TA} {p pos : Pos}
theorem pe_callH (F : FnAllH X.prog X.w X.K X.mg X.base x k ps sp) (hr : RoomH n X.A) (ha : PA X (e :: es) t) (hk : k ≤ n := by decide) (hg : Gl X x := by rfl) (hdb : (x == ("__debug__" : Str)) = false := by decide)
    (he : starEach (e :: es) X.env = (false, eval e X.env) :: starEach es X.env := by rfl) (hpl : (backTo pos (starEach es X.env)).any (·.1) = false := by rfl) : PE X (.Call (.Name x p) (e :: es) [] pos) (tCall0 sp t) := by
  obtain ⟨f, fd, G, hm, hkp, hb⟩ := F.ex
  intro pins s σ H Q I h
  refine wpAny_Call_Name_kw (ld_glob I hg hm ?_ hdb)
  refine PySem.W.callWith_K (h₀ := X.base) I.ok.mod.kin hkp (thn (ha pos pins s σ H _ I h) fun us s1 ⟨vs, H1, I1, r, q⟩ => ⟨I1.kIn, ?_⟩) he hpl
  have hl : us.length = ps.length := by rw [← r.length]; exact G.len _ _ _ _ q
  have hb' := hb s1 us I1.kIn (by simpa using hl)
  rw [List.append_nil] at hb'
  refine wpAny_call (codeAny_mono (G.run X.A X.stack s1 H1 ⟨us, []⟩ us vs Q E0 (hr.mono hk) I1.env0 hb' r q) fun r s' hq => ?_)
  cases r with
  | error e => exact (hq : False).elim
  | ok fl =>
    cases fl with
    | ret u => exact I1.after hq
    | _ => exact (hq : False).elim
end
end L2

set_option Elab.async false
set_option linter.all false
set_option maxRecDepth 100000
set_option maxHeartbeats 0
namespace L2
open PySem PySem.Spec PySem.Calls PyProof.Rows PySem.W PySem.Builtin PySem.Builtin.ObjectAttr PySem.Builtin.Getset_descriptor
/-! ### an own class of exceptions with an __init__ of its own -/
def exiIn (K : PySem.W.Frag) (C : Addr) (bmB : List Value) (newId : String) : Bool :=
  (List.lookup C K).any fun o => o.cls == Value.type "type" && (decide (o.slots.size = 6) && (o.slots[4]? == some (some (Value.builtin newId)) &&
    match o.data with
    | .cls c => c.mro.head? == some (Value.ref C) && (PySem.W.tailIn K bmB c.mro.tail && (PySem.W.nsOkIn K c.ns && c.hasDel == false))
    | _ => false))
theorem exi_obj {K : PySem.W.Frag} {h : Heap} {C : Addr} {bmB : List Value} {newId : String} (X : K.In h) (q : exiIn K C bmB newId = true) :
    ∃ bm N nm qn bs hd sn sub ab col dd k0 k1 k2 k3 k5 mN, h.get? C = some (excClassObj nm qn C N bs bm hd sn sub ab col dd k0 k1 k2 k3 k5 newId) ∧ h.Ns N mN ∧ OwnTail h bmB bm := by
  unfold exiIn at q
  cases ho : List.lookup C K with
  | none => rw [ho] at q; cases q
  | some o =>
    rw [ho] at q
    obtain ⟨cl, dd, dt, sl⟩ := o
    rw [Option.any_some] at q
    dsimp only at q
    obtain ⟨q1, r1⟩ := Bool.and_eq_true_iff.mp q
    obtain ⟨q2, r2⟩ := Bool.and_eq_true_iff.mp r1
    obtain ⟨q3, r3⟩ := Bool.and_eq_true_iff.mp r2
    clear q r1 r2
    obtain rfl : cl = Value.type "type" := beq_iff_eq.mp q1
    cases dt with
    | cls c =>
      obtain ⟨q4, r4⟩ := Bool.and_eq_true_iff.mp r3
      obtain ⟨q5, r5⟩ := Bool.and_eq_true_iff.mp r4
      obtain ⟨q6, q7⟩ := Bool.and_eq_true_iff.mp r5
      clear r3 r4 r5
      obtain ⟨nm, bs, mro, ns, qn, hd, sn, sub, ab, col, del⟩ := c
      have p4 := beq_iff_eq.mp q4
      have p7 : del = false := beq_iff_eq.mp q7
      clear q4 q7
      dsimp only at p4 q5 q6
      subst p7
      obtain ⟨bm, rfl⟩ : ∃ bm, mro = Value.ref C :: bm := by
        cases mro with
        | nil => cases p4
        | cons a l => cases p4; exact ⟨l, rfl⟩
      have p2 : sl.size = 6 := of_decide_eq_true q2
      have p3 : sl[4]? = some (some (Value.builtin newId)) := beq_iff_eq.mp q3
      clear q2 q3
      obtain ⟨k0, k1, k2, k3, k5, rfl⟩ : ∃ k0 k1 k2 k3 k5, sl = #[k0, k1, k2, k3, some (.builtin newId), k5] := by
        obtain ⟨l⟩ := sl
        match l, p2, p3 with
        | [k0, k1, k2, k3, k4, k5], _, p3 => cases p3; exact ⟨k0, k1, k2, k3, k5, rfl⟩
      exact ⟨bm, ns, nm, qn, bs, hd, sn, sub, ab, col, dd, k0, k1, k2, k3, k5, _, X _ _ ho, .of_isNs (PySem.W.isNs_of_in X q6), PySem.W.tail_of_in X q5⟩
    | _ => cases r3
/-- the heap with a new exception of the class at C, made of rest, at its end -/
def excHp (h : Heap) (C : Addr) (rest : List Value) : Heap := (h.push { cls := .type "tuple", data := .seq rest.toArray }).push { cls := .ref C, data := .fields #[.ref h.objs.size, .none, .none, .none, .bool false, .none] }
theorem excHp_keeps {h : Heap} {C : Addr} {rest : List Value} : ∀ b o, h.get? b = some o → (excHp h C rest).get? b = some o := fun b o e => Heap.get?_push_of_some _ (Heap.get?_push_of_some _ e)
theorem excHp_at {h : Heap} {C : Addr} {rest : List Value} : (excHp h C rest).get? (h.objs.size + 1) = some { cls := .ref C, data := .fields #[.ref h.objs.size, .none, .none, .none, .bool false, .none] } := by
  have := Heap.get?_push_size (h.push { cls := .type "tuple", data := .seq rest.toArray }) (o := { cls := .ref C, data := .fields #[.ref h.objs.size, .none, .none, .none, .bool false, .none] }) rfl
  rwa [Heap.size_push] at this
section
variable {prog : Program} {w : World} {A : Around} {E : Value → Shared → Prop} {s : Shared} {K : PySem.W.Frag} {a C f : Addr} {d : Option Addr} {R : Result → Shared → Prop} {rest : List Value}
theorem exi_type_call {Q : Fin → Shared → Prop} (X : K.In s.heap) (hC : exiIn K C bmV "ValueError.__new__" = true) (hi : PySem.W.findIn K (.ref C) "__init__" = some (some (.ref f))) (hf : PySem.W.typeIn K (.ref f) = some (.type "function")) (hz : rest.length ≤ sizeLine)
    (h : wpAny (model prog w) A (call (.ref f) (.ref (s.heap.objs.size + 1) :: rest)) (fun r s' => r = .none ∧ Q (.done (.ret (.ref (s.heap.objs.size + 1)))) s') E { s with heap := excHp s.heap C rest }) :
    wpAny (model prog w) A (Builtin.«type.__call__» ⟨.ref C :: rest, []⟩) Q E s := by
  obtain ⟨hh, g, dr, t, os⟩ := s
  obtain ⟨bm, Nn, nm, qn, bs, hd, sn, sub, ab, col, dd, k0, k1, k2, k3, k5, mN, hC1, hN1, TL1⟩ := exi_obj X hC
  have LM : Looks (model prog w) hh (mroOf (.ref C)) (.ref C :: bm) := by
    unfold mroOf classData
    exact ((Looks.ld hC1).andThen .now).andThen .now
  have LS : Looks (model prog w) hh (slotAt C 4) (some (.builtin "ValueError.__new__")) := by
    unfold slotAt
    exact (Looks.ld hC1).andThen .now
  have LB : Looks (model prog w) hh (Bind.madeBy (.ref C)) (some "ValueError.__new__") := by
    unfold Bind.madeBy
    refine LM.andThen ?_
    rw [List.forIn_cons]
    refine Looks.andThen (a := (some (some "ValueError.__new__"), Value.ref C)) (Looks.andThen (a := ForInStep.done (some (some "ValueError.__new__"), Value.ref C)) ?_ .now) .now
    exact LS.andThen .now
  have LF := looks_findIn (M := model prog w) X hi
  have base := PySem.F.excBase_ValueError
  unfold Builtin.«type.__call__»
  simp only [show ((Value.ref C) == Value.type "type") = false from rfl, Bool.false_eq_true, if_false]
  refine wpAny_bind (Looks.at LM ?_)
  simp only [List.isEmpty_cons, Bool.false_eq_true, if_false]
  refine wpAny_bind (Looks.at LB ?_)
  refine wpAny_bind (wpAny_pure ?_)
  refine wpAny_bind (wpAny_holding (wpAny_call (codeAny_call_builtin_code (Code.quiet_builtin _ (by decide +kernel)) (wpAny_check_new_subU base (by decide) TL1 hC1 (codeAny_exc_new_subU base (by decide) base TL1 hC1 ?_ hz)))))
  have kp : ∀ b o, hh.get? b = some o → (excHp hh C rest).get? b = some o := excHp_keeps
  have e2 : (excHp hh C rest).get? (hh.objs.size + 1) = some { cls := .ref C, data := .fields #[.ref hh.objs.size, .none, .none, .none, .bool false, .none] } := excHp_at
  have q : wpAny (model prog w) A (call (.ref f) (.ref (hh.objs.size + 1) :: rest)) (fun r s' => r = .none ∧ Q (.done (.ret (.ref (hh.objs.size + 1)))) s') E ⟨excHp hh C rest, g, dr, t, os⟩ := h
  show wpAny _ _ _ _ _ ⟨excHp hh C rest, g, dr, t, os⟩
  generalize excHp hh C rest = h2 at kp e2 q ⊢
  have X2 : K.In h2 := X.keeps kp
  have LM2 : Looks (model prog w) h2 (mroOf (.ref C)) (.ref C :: bm) := by
    unfold mroOf classData
    exact ((Looks.ld (kp _ _ hC1)).andThen .now).andThen .now
  have LI : Looks (model prog w) h2 (isInstance (.ref (hh.objs.size + 1)) (.ref C)) true := by
    unfold isInstance
    refine Looks.andThen (a := Value.ref C) ((Looks.ld e2).andThen .now) ?_
    unfold isSubtype
    refine LM2.andThen ?_
    simp only [List.isEmpty_cons, Bool.false_eq_true, if_false, List.contains_cons, beq_self_eq_true, Bool.true_or]
    exact .now
  refine wpAny_bind (Looks.at LI ?_)
  simp only [Bool.not_true, Bool.false_eq_true, if_false]
  refine wpAny_bind (wpAny_holding (special_fn (od := none) X2 ⟨e2, rfl, rfl, True.intro⟩ hi hf (wpAny_mono q (fun v s' z => ?_) fun _ _ z => z)))
  obtain ⟨rfl, z⟩ := z
  exact wpAny_pure z
/-- the class facts that making one leans on -/
structure ExcI (K : PySem.W.Frag) (C f : Addr) : Prop where
  ex : exiIn K C bmV "ValueError.__new__" = true
  init : PySem.W.findIn K (.ref C) "__init__" = some (some (.ref f))
  fn : PySem.W.typeIn K (.ref f) = some (.type "function")
  call : PySem.W.specialIn K (.ref C) "__call__" = some (some (.builtin "type.__call__"))
  typ : PySem.W.instIn K (.ref C) (.type "type") = some true
theorem exi_call (X : K.In s.heap) (F : ExcI K C f) (hz : rest.length ≤ sizeLine)
    (h : codeAny (model prog w) (A.under (.builtin "type.__call__" ⟨.ref C :: rest, []⟩)) (.call (.ref f) ⟨.ref (s.heap.objs.size + 1) :: rest, []⟩) (PySem.W.InitBack (s.heap.objs.size + 1) R) { s with heap := excHp s.heap C rest }) :
    codeAny (model prog w) A (.call (.ref C) ⟨rest, []⟩) R s := by
  obtain ⟨bm, Nn, nm, qn, bs, hd, sn, sub, ab, col, dd, k0, k1, k2, k3, k5, mN, hC1, hN1, TL1⟩ := exi_obj X F.ex
  have LC := looks_specialIn (M := model prog w) X F.call
  have LT := looks_instIn (M := model prog w) X F.typ
  obtain ⟨hh, g, dr, t, os⟩ := s
  refine codeAny_of_tree ?_
  show wpAny _ _ (callAny (.ref C) ⟨rest, []⟩) _ _ _
  unfold callAny
  refine nd_load hC1 ?_
  show wpAny _ _ (callAny.viaDunder (.ref C) ⟨rest, []⟩) _ _ _
  unfold callAny.viaDunder
  refine wpAny_bind (Looks.at LC ?_)
  show wpAny _ _ (bindSpecial _ _ >>= _) _ _ _
  rw [tc_bind]
  refine wpAny_bind (wpAny_pure (wpAny_bind (wpAny_pure (wpAny_pure ⟨rfl, ?_⟩))))
  show codeAny _ _ (.call (.builtin "type.__call__") ⟨.ref C :: rest, []⟩) _ _
  refine codeAny_call_builtin_at (Code.quiet_builtin _ (by decide +kernel)) entry_typeCall ?_
  have ar := tc_args (.ref C) rest []
  with_reducible refine PySem.W.check_slot tc_kind tc_split LT ar ?_
  refine exi_type_call X F.ex F.init F.fn hz (wpAny_call (codeAny_mono h fun r s' q => ?_))
  cases r with
  | error e => exact q
  | ok fl => cases fl <;> first | exact q | exact q.elim
/-- BoughError.__init__(self, ..): new args -/
theorem exi_init {e t0 : Addr} {oe : Obj} {vs : Array Value} {Q : Value → Shared → Prop} (X : K.In s.heap) (hC : exiIn K C bmV "ValueError.__new__" = true) (he : s.heap.get? e = some oe) (hcl : oe.cls = .ref C) (hd : oe.data = .fields vs) (h0 : vs[0]? = some (.ref t0)) (hz : rest.length ≤ sizeLine)
    (h : Q .none { s with heap := (s.heap.push { cls := .type "tuple", data := .seq rest.toArray }).update e (Obj.mapFields fun x => x.setIfInBounds 0 (.ref s.heap.objs.size)) }) :
    wpAny (model prog w) A (call (.builtin "ValueError.__init__") (.ref e :: rest)) Q E s := by
  obtain ⟨bm, Nn, nm, qn, bs, hdd, sn, sub, ab, col, dd, k0, k1, k2, k3, k5, mN, hC1, hN1, TL1⟩ := exi_obj X hC
  have base := PySem.F.excBase_ValueError
  obtain ⟨hh, g, dr, t, os⟩ := s
  refine wpAny_call (codeAny_call_builtin (by decide +kernel) base.initEntry (wpAny_check_init_subU base TL1 hC1 he hcl ?_))
  unfold Builtin.«BaseException.__init__»
  simp only [List.isEmpty_nil, Bool.not_true, Bool.false_eq_true, if_false]
  have he1 := Heap.get?_push_of_some { cls := Value.type "tuple", data := Data.seq rest.toArray } he
  have hsz := (Array.getElem?_eq_some_iff.mp h0).1
  refine wpAny_bind (wpAny_newObj_type (wpAny_bind (wpAny_bind (wpAny_field he1 hd h0 (wpAny_bind (wpAny_setField he1 hd hsz (wpAny_letGo (wpAny_pure h))))))) ?_)
  show rest.toArray.size ≤ sizeLine
  rw [List.size_toArray]
  exact hz
end
end L2

set_option Elab.async false
set_option linter.all false
set_option maxRecDepth 100000
set_option maxHeartbeats 0
namespace L2
open PySem PySem.Spec PySem.Calls PyProof.Rows PySem.W PySem.Builtin PySem.Builtin.ObjectAttr PySem.Builtin.Getset_descriptor
section
variable {prog : Program} {w : World} {A : Around} {E : Value → Shared → Prop} {s : Shared} {K : PySem.W.Frag} {a C f : Addr} {d : Option Addr} {R : Result → Shared → Prop} {rest : List Value}
theorem own_sa1 : builtinOwn "ValueError" "__setattr__" = none := by rw [builtinOwn_eq_fast]; decide +kernel
theorem own_sa2 : builtinOwn "Exception" "__setattr__" = none := by rw [builtinOwn_eq_fast]; decide +kernel
theorem own_sa3 : builtinOwn "BaseException" "__setattr__" = none := by rw [builtinOwn_eq_fast]; decide +kernel
theorem refuse_skip {self : Value} {n : String} {l : List Value} (h1 : (n == "_thread._local") = false) (h2 : (n == "_pickle.Pickler" || n == "_pickle.Unpickler") = false) (h3 : builtinOwn n "__setattr__" = none) :
    refuseLoop self "__setattr__" (.type n :: l) = refuseLoop self "__setattr__" l := by
  unfold refuseLoop
  rw [List.forIn_cons]
  simp only [h1, h2, Bool.false_eq_true, if_false, classOwn, h3, Option.isSome_none]
  rfl
theorem refuse_bmV {self : Value} : refuseLoop self "__setattr__" bmV = pure () := by
  rw [refuse_skip (by decide) (by decide) own_sa1, refuse_skip (by decide) (by decide) own_sa2, refuse_skip (by decide) (by decide) own_sa3]
  exact refuse_only self rfl
theorem refuse_tail {self : Value} {h : Heap} {bm : List Value} (o : OwnTail h bmV bm) : refuseLoop self "__setattr__" bm = pure () := by
  induction o with
  | base => exact refuse_bmV
  | own _ _ _ _ ih => rw [refuseLoop_ref]; exact ih
theorem exi_setattr {e : Addr} {oe : Obj} {vs : Array Value} {name : Str} {v : Value} {Q : Unit → Shared → Prop} (X : K.In s.heap) (hC : exiIn K C bmV "ValueError.__new__" = true) (he : s.heap.get? e = some oe) (hcl : oe.cls = .ref C) (hd : oe.data = .fields vs) (hn : oe.dict = none)
    (hs : PySem.W.findIn K (.ref C) "__setattr__" = some (some (.builtin "object.__setattr__"))) (ho : PySem.W.mroIn K C (.type "object") = some true) (ha : PySem.W.findIn K (.ref C) name = some none) (hh : PySem.W.hasDictIn K C = true)
    (h : ∀ h' : Heap, (∀ b u, b ≠ e → s.heap.get? b = some u → h'.get? b = some u) → h'.get? e = some { oe with dict := some s.heap.objs.size } → h'.Ns1 s.heap.objs.size (fun y => if y = name then some v else none) → Q () { s with heap := h', toks := s.toks + 2 }) :
    wpAny (model prog w) A (setAttr (.ref e) name v) Q E s := by
  obtain ⟨bm, Nn, nm, qn, bs, hdd, sn, sub, ab, col, dd, k0, k1, k2, k3, k5, mN, hC1, hN1, TL1⟩ := exi_obj X hC
  have nc : notCls oe = true := by unfold notCls; rw [hd]
  have IA : InstAt s.heap e oe C none := ⟨he, hcl, nc, by rw [hn]; exact True.intro⟩
  have SF := PySem.F.store_object
  refine set_plain X IA hs ?_
  have sub : Looks (model prog w) s.heap (isInstance (.ref e) (.type "object")) true := Looks.andThen (InstAt.type IA) (looks_mroIn X ho)
  refine codeAny_call_builtin SF.slot.plain SF.entry ?_
  have ar := SF.args (.ref e) (.str name s.toks) v
  with_reducible refine PySem.W.check_slot SF.kind SF.split sub ar ?_
  rw [osa_eq]
  have LM : Looks (model prog w) s.heap (mroOf (.ref C)) (.ref C :: bm) := by
    unfold mroOf classData
    exact ((Looks.ld hC1).andThen .now).andThen .now
  have LR : Looks (model prog w) s.heap (refuseIfOverridden (.ref e) "__setattr__") () := by
    unfold refuseIfOverridden
    refine Looks.andThen (InstAt.type IA) (LM.andThen ?_)
    show Looks _ _ (refuseLoop (.ref e) "__setattr__" (.ref C :: bm)) ()
    rw [refuseLoop_ref, refuse_tail TL1]
    exact .now
  obtain ⟨hp, g, dr, t, os⟩ := s
  refine wpAny_bind (Looks.at LR (wpAny_bind (Looks.at (InstAt.type IA) (wpAny_bind (Looks.at (looks_findIn X ha) (wpAny_bind (wpAny_pure ?_)))))))
  show wpAny _ _ (storeInOwnDict (.ref e) (.ref C) (.str name t) name v false) _ _ _
  obtain ⟨cd, hc, hd'⟩ := any_some hh
  have LD : Looks (model prog w) hp (classData C) cd := looks_clsIn X hc
  have hx : hp.get? e = some oe := he
  unfold storeInOwnDict
  refine wpAny_bind (wpAny_pure ?_)
  show wpAny _ _ (ownDictForStores (.ref e) >>= _) _ _ _
  unfold ownDictForStores instanceDict
  refine wpAny_bind (wpAny_bind (wpAny_loadPart hx ?_))
  rw [hcl]
  refine wpAny_bind (Looks.at LD ?_)
  rw [hd']
  simp only [Bool.not_true, Bool.false_eq_true, if_false]
  rw [hn, hd]
  refine wpAny_bind (wpAny_alloc ?_)
  refine wpAny_bind (wpAny_update (o := oe) (Heap.get?_push_of_some _ hx) ?_)
  refine wpAny_pure ?_
  have e1 : (hp.push { cls := Value.type "dict", data := Data.dict #[] }).get? hp.objs.size = some { cls := Value.type "dict", data := Data.dict #[] } := Heap.get?_push_size hp rfl
  have ne : e ≠ hp.objs.size := Nat.ne_of_lt (Heap.lt_size hx)
  have nf : Obj.isFreed { cls := oe.cls, dict := some hp.objs.size, data := oe.data, slots := oe.slots } = false := Obj.isFreed_of_fields hd
  have e2 := Heap.get?_update_self (h := hp.push { cls := Value.type "dict", data := Data.dict #[] }) (fun o => { cls := o.cls, dict := some hp.objs.size, data := o.data, slots := o.slots }) (Heap.get?_push_of_some _ hx) nf
  have e3 : ((hp.push { cls := Value.type "dict", data := Data.dict #[] }).update e fun o => { cls := o.cls, dict := some hp.objs.size, data := o.data, slots := o.slots }).get? hp.objs.size = some { cls := Value.type "dict", data := Data.dict #[] } := (Heap.get?_update_other _ _ ne).trans e1
  have kp : ∀ b u, b ≠ e → hp.get? b = some u → ((hp.push { cls := Value.type "dict", data := Data.dict #[] }).update e fun o => { cls := o.cls, dict := some hp.objs.size, data := o.data, slots := o.slots }).get? b = some u := fun b u q z => (Heap.get?_update_other _ _ (Ne.symm q)).trans (Heap.get?_push_of_some _ z)
  show wpAny _ _ (storeInDict hp.objs.size (.str name t) name v) _ _ ⟨(hp.push { cls := Value.type "dict", data := Data.dict #[] }).update e (fun o => { cls := o.cls, dict := some hp.objs.size, data := o.data, slots := o.slots }), g, dr, t + 1, os⟩
  generalize ((hp.push { cls := Value.type "dict", data := Data.dict #[] }).update e fun o => { cls := o.cls, dict := some hp.objs.size, data := o.data, slots := o.slots }) = h2 at e2 e3 kp ⊢
  have n0 : h2.Ns1 hp.objs.size (fun _ => none) := Heap.Ns1.of_empty ⟨_, #[], _, e3, rfl, (fun e he => absurd he (by simp)), fun _ => rfl⟩
  unfold storeInDict
  refine wpAny_bind (wpAny_pure (wpAny_bind ?_))
  refine wpAny_nsSet1 (s := ⟨h2, g, dr, t + 1, os⟩) n0 fun h3 hn3 hs3 => ?_
  have w0 : PySem.Within (fun _ : Str => (none : Option Value)) [] := fun y hy => absurd rfl hy
  obtain ⟨oD, esD, epD, hoD, hdD, hcD⟩ := hn3.count (PySem.Within.cons name v w0)
  refine wpAny_bind (wpAny_lookBehind hoD (by rw [hdD]; exact pastItsLine_dict (Nat.le_trans hcD (by simp [sizeLine]))) ?_)
  refine wpAny_pure (h h3 (fun b u q z => (hs3.2 b ?_).trans (kp b u q z)) ((hs3.2 e ne).trans e2) hn3)
  exact Nat.ne_of_lt (Heap.lt_size z)
/-- e.at of a caught exception -/
theorem exd_entry {e dx : Addr} {oe : Obj} {vs : Array Value} {name : Str} {v : Value} {m : Str → Option Value} {tk : Tok} {Q : Fin → Shared → Prop} (X : K.In s.heap) (he : s.heap.get? e = some oe) (hcl : oe.cls = .ref C) (hd : oe.data = .fields vs) (hn : oe.dict = some dx) (hm : s.heap.Ns1 dx m) (hv : m name = some v)
    (ha : PySem.W.findIn K (.ref C) name = some none) (hh : PySem.W.hasDictIn K C = true) (h : Q (.done (.ret v)) s) :
    wpAny (model prog w) A (Builtin.«object.__getattribute__» ⟨[.ref e, .str name tk], []⟩) Q E s := by
  obtain ⟨hp, g, dr, t, os⟩ := s
  have L0 : Looks (model prog w) hp (typeOf (.ref e)) (.ref C) := hcl ▸ (Looks.ld he).andThen .now
  have L1 := looks_findIn (M := model prog w) X ha
  obtain ⟨cd, hc, hd'⟩ := any_some hh
  have LD : Looks (model prog w) hp (classData C) cd := looks_clsIn X hc
  have hx : hp.get? e = some oe := he
  refine wpAny_bind (wpAny_pure ?_)
  refine wpAny_bind (wpAny_pure (wpAny_bind (Looks.at L0 (wpAny_bind ?_))))
  unfold find
  refine wpAny_bind (Looks.at L1 (wpAny_bind (wpAny_pure (wpAny_bind (wpAny_pure ?_)))))
  show wpAny _ _ (ownThenClass (.ref e) name none none) _ _ _
  unfold ownThenClass inOwnDict ObjectAttr.ownDict loadHead
  refine wpAny_bind (wpAny_bind (wpAny_bind (wpAny_loadPart hx ?_)))
  rw [hd]
  show wpAny _ _ (instanceDict e false) _ _ _
  unfold instanceDict
  refine wpAny_bind (wpAny_loadPart hx ?_)
  rw [hcl]
  refine wpAny_bind (Looks.at LD ?_)
  rw [hd']
  simp only [Bool.not_true, Bool.false_eq_true, if_false]
  rw [hn]
  refine wpAny_pure ?_
  show wpAny _ _ (nsGet dx name) _ _ _
  refine wpAny_nsGet hm.ns ?_
  rw [hv]
  exact wpAny_bind (wpAny_rule (wpAny_pure (wpAny_pure h)))
theorem exd_by {e dx : Addr} {oe : Obj} {vs : Array Value} {name : Str} {v : Value} {m : Str → Option Value} {tk : Tok} {fill expr : Bool} {Q : Value → Shared → Prop} (X : K.In s.heap) (he : s.heap.get? e = some oe) (hcl : oe.cls = .ref C) (hd : oe.data = .fields vs) (hn : oe.dict = some dx) (hm : s.heap.Ns1 dx m) (hv : m name = some v)
    (F : ExcF K C) (ha : PySem.W.findIn K (.ref C) name = some none) (hh : PySem.W.hasDictIn K C = true) (hq : wpAny (model prog w) A (handedOut v) Q E s) : wpAny (model prog w) A (getAttrBy (.ref e) (.str name tk) fill expr) Q E s := by
  obtain ⟨hp, g, dr, t, os⟩ := s
  have L0 : Looks (model prog w) hp (typeOf (.ref e)) (.ref C) := hcl ▸ (Looks.ld he).andThen .now
  have L1 := looks_findIn (M := model prog w) X F.ga
  have L2 := looks_findIn (M := model prog w) X F.gt
  have f3 := PySem.F.attrBase_ValueError.ga.bind (.ref e)
  have hx0 : (expr && onTheHeap (Value.builtin "BaseException.__getattribute__")) = false := by cases expr <;> rfl
  have hx2 : (Value.builtin "BaseException.__getattribute__" == Value.builtin "object.__getattribute__") = false := by decide +kernel
  have hx1 : (onTheHeap (Value.ref C) && Value.builtin "BaseException.__getattribute__" == Value.builtin "object.__getattribute__") = false := by rw [hx2]; rfl
  repeat (any_goals (first | assumption | with_reducible refine Looks.at L0 ?_ | with_reducible refine Looks.at L1 ?_ | with_reducible refine Looks.at L2 ?_ | wp_step))
  refine codeAny_call_builtin PySem.F.attrBase_ValueError.ga.plain PySem.F.entry_bexc_ga (exc_ga_check (d := some dx) X ⟨oe, he, hcl, hn, _, hd⟩ F (exd_entry X he hcl hd hn hm hv ha hh ?_))
  exact hq
/-- raise of an exception of an own class -/
theorem raise_own {M : Model} {x : Expr} {env : Env} {pos : Pos} {Q : Flow → Shared → Prop} (hh : A.handled = none) (be : PySem.W.mroIn K C (.type "BaseException") = some true) (ty : PySem.W.typeIn K (.ref C) = some (.type "type"))
    (h : wpAny M A (eval x env) (fun v s1 => ∃ (e : Addr) (oe : Obj) (vs : Array Value), v = .ref e ∧ K.In s1.heap ∧ s1.heap.get? e = some oe ∧ oe.cls = .ref C ∧ oe.data = .fields vs ∧ vs[1]? = some .none ∧ E (.ref e) s1) E s) :
    wpAny M A (exec (.Raise (some x) none pos) env) Q E s := by
  rw [arm_exec_Raise]
  refine wpAny_bind (wpAny_standAt ?_)
  show wpAny M A (raiseStmt env (some (do let v ← eval x env; standAt pos; pure v)) none) Q E s
  unfold raiseStmt
  refine wpAny_bind (wpAny_bind (wpAny_mono h (fun v s1 z => ?_) fun _ _ z => z))
  obtain ⟨e, oe, vs, rfl, X, he, hc, hd, h1, q⟩ := z
  obtain ⟨hp, g, dr, t, os⟩ := s1
  have L0 : Looks M hp (typeOf (.ref e)) (.ref C) := hc ▸ (Looks.ld he).andThen .now
  have LB := looks_mroIn (M := M) X be
  have LT := looks_typeIn (M := M) X ty
  have LI : Looks M hp (isType (.ref e)) false := by
    unfold isType loadHead
    refine (Looks.ld he).andThen ?_
    rw [hd]
    exact .now
  refine wpAny_bind (wpAny_standAt (wpAny_pure ?_))
  refine wpAny_bind (wpAny_pure (wpAny_bind (wpAny_holding ?_)))
  unfold excFromValue isExcClass isInstance
  refine wpAny_bind (wpAny_bind (Looks.at LI (wpAny_pure (wpAny_bind (wpAny_bind (Looks.at L0 (Looks.at LB (wpAny_pure ?_))))))))
  refine wpAny_bind (Looks.at LI ?_)
  simp only [Bool.false_eq_true, if_false]
  unfold raisedInstance
  refine wpAny_bind (wpAny_bind (Looks.at L0 (wpAny_bind (Looks.at LT ?_))))
  rw [if_pos (by decide)]
  refine wpAny_pure ?_
  unfold setFlight
  refine wpAny_bind (wpAny_bind (wpAny_field he hd h1 ?_))
  rw [if_neg (by decide)]
  refine wpAny_pure ?_
  unfold raiseNew
  refine wpAny_bind (wpAny_handled ?_)
  rw [hh]
  exact wpAny_throw q
end
end L2

set_option Elab.async false
set_option linter.all false
set_option maxRecDepth 100000
set_option maxHeartbeats 0
namespace L2
open PySem PySem.Spec PyProof.Rows
/-! ### rules of the layer: __init__ of such a class, raise, e.f -/
/-- an exception in the making: nothing behind it yet -/
def ExcN (a C : Addr) (d : Option Addr) (h : Heap) : Prop := ∃ o vs t, h.get? a = some o ∧ o.cls = .ref C ∧ o.dict = d ∧ o.data = .fields vs ∧ vs[0]? = some (.ref t) ∧ vs[1]? = some .none
def excN (a C : Addr) (d : Option Addr) : HO := .ext (ExcN a C d)
theorem excN_ok {P : Program} {w : World} {H : Hp} {h : Heap} {a C t : Addr} {d : Option Addr} {o : Obj} {vs : Array Value} (h1 : h.get? a = some o) (h2 : o.cls = .ref C) (h3 : o.dict = d) (h4 : o.data = .fields vs) (h5 : vs[0]? = some (.ref t)) (h6 : vs[1]? = some .none) : ObjOk P w H h a (excN a C d) :=
  ⟨⟨o, vs, t, h1, h2, h3, h4, h5, h6⟩, ⟨o, h1⟩, fun _ _ ⟨o, vs, t, e, r⟩ k => ⟨o, vs, t, k o e, r⟩⟩
theorem upd_id {H : Hp} {a : Addr} {o : HO} (h : H a = some o) : upd H a o = H := by
  funext b
  unfold upd
  split
  · rename_i e; rw [e, h]
  · rfl
/-- Base.__init__ where Base's own is ValueError's -/
structure BaseI (K : PySem.W.Frag) (CB : Addr) : Prop where
  ga : PySem.W.specialIn K (.ref CB) "__getattribute__" = some (some (.builtin "type.__getattribute__"))
  rd : PySem.W.readsIn K CB (.type "type") = true
  fd : PySem.W.findCls K (.ref CB) (.type "type") "__init__" = some (.val (.builtin "ValueError.__init__"))
/-- the class facts that self.f = .. and e.f lean on -/
structure ExcS (K : PySem.W.Frag) (C : Addr) (f : Str) : Prop where
  ex : exiIn K C bmV "ValueError.__new__" = true
  sa : PySem.W.findIn K (.ref C) "__setattr__" = some (some (.builtin "object.__setattr__"))
  ob : PySem.W.mroIn K C (.type "object") = some true
  no : PySem.W.findIn K (.ref C) f = some none
  hd : PySem.W.hasDictIn K C = true
def rInit (K : PySem.W.Frag) : List V → Hp → VK → Prop := fun xs H Q => ∃ a C d ys, xs = .ref a :: ys ∧ H a = some (excN a C d) ∧ exiIn K C bmV "ValueError.__new__" = true ∧ ys.length ≤ sizeLine ∧ Q .non H
section
variable {X : Cx} {x f : Str} {np apos pos pos' : Pos} {e o value : Expr} {es : List Expr} {t : TA} {ta tv : TE} {CB : Addr}
theorem call_exInit : CallR X (.builtin "ValueError.__init__") (rInit X.K) := by
  intro pins s σ H xs us Q I r h
  obtain ⟨a, C, d, ys, rfl, ha, hC, hz, q⟩ := h
  cases r with
  | cons r1 r2 =>
    rename_i u us'
    obtain rfl : u = Value.ref a := r1
    obtain ⟨⟨ob, vs, t, h1, h2, h3, h4, h5, h6⟩, _, _⟩ := (show ObjOk X.prog X.w H s.heap a (excN a C d) from I.hok a _ ha)
    refine exi_init I.kIn hC h1 h2 h4 h5 (by rw [← r2.length]; exact hz) ?_
    have ha1 := Heap.get?_push_of_some { cls := Value.type "tuple", data := Data.seq us'.toArray } h1
    have sz : 1 < vs.size := (Array.getElem?_eq_some_iff.mp h6).1
    have nf : (Obj.mapFields (fun x => x.setIfInBounds 0 (.ref s.heap.objs.size)) ob).isFreed = false := (df_map _ ob).2 (get_alive h1)
    have ha2 := Heap.get?_update_self (Obj.mapFields fun x => x.setIfInBounds 0 (.ref s.heap.objs.size)) ha1 nf
    have eo : Obj.mapFields (fun x => x.setIfInBounds 0 (.ref s.heap.objs.size)) ob = { ob with data := .fields (vs.setIfInBounds 0 (.ref s.heap.objs.size)) } := by
      obtain ⟨c, dd, dt, sl⟩ := ob
      cases h4
      rfl
    rw [eo] at ha2
    have I2 := I.write (x := a) (e := a) (o := excN a C d) (t' := s.toks) (h' := (s.heap.push { cls := Value.type "tuple", data := Data.seq us'.toArray }).update a (Obj.mapFields fun x => x.setIfInBounds 0 (.ref s.heap.objs.size))) (by rw [ha]; exact True.intro) (.inl rfl)
      (fun b u ne q => (Heap.get?_update_other _ _ (Ne.symm ne)).trans (Heap.get?_push_of_some _ q)) ⟨_, ha2⟩
      (excN_ok ha2 h2 h3 rfl (t := s.heap.objs.size) (by rw [Array.getElem?_setIfInBounds_self_of_lt (by omega)]) (by rw [Array.getElem?_setIfInBounds_ne (by decide)]; exact h6))
    rw [upd_id ha] at I2
    exact ⟨.non, H, I2, rfl, q⟩
theorem pe_baseInit {pl : Sem Bool} (F : BaseI X.K CB) (hm : X.mg x = some (.ref CB)) (ha : PA X (e :: es) t) (hg : Gl X x := by rfl) (hdb : (x == ("__debug__" : Str)) = false := by decide)
    (hst : starEach (e :: es) X.env = (false, eval e X.env) :: starEach es X.env := by rfl) (hpl : (backTo pos (starEach es X.env)).any (·.1) = false := by rfl)
    (ht : eval (.Call (.Attribute (.Name x np) "__init__" apos) (e :: es) [] pos) X.env = (do
      let ov ← eval (.Name x np) X.env
      standAt apos.atName
      let (f, first) ← holding [ov] (getMethod ov "__init__" pl)
      callWith pos f first (backTo pos (starEach (e :: es) X.env)) (backToKw pos (keywordEach [] X.env))) := by rfl) :
    PE X (.Call (.Attribute (.Name x np) "__init__" apos) (e :: es) [] pos) (tCB (rInit X.K) t) := by
  intro pins s σ H Q I h
  refine PySem.W.methodCall_KW (pl := pl) (ld_glob I hg hm ?_ hdb) ht
  refine PySem.W.method_cls I.kIn F.ga (PySem.W.cls_value I.kIn F.rd F.fd rfl ?_)
  have I1 : Inv X pins σ H { s with toks := s.toks + 1 } := I.tok _
  exact PyProof.Rows.callWith_builtin1 (thn (ha pos pins _ σ H _ I1 h) fun us s1 ⟨vs, H1, I2, r1, q1⟩ => call_exInit pins s1 σ H1 vs us Q I2 r1 q1) hst hpl
/-- self.f = value, the first value of an exception in the making -/
def sExc (K : PySem.W.Frag) (ta tv : TE) (f : Str) : TS := fun D σ H => tv σ H fun y H1 => ta σ H1 fun x H2 => ∃ a C, x = .ref a ∧ H2 a = some (excN a C none) ∧ ExcS K C f ∧ ∀ dx, H2 dx = none → dx ≠ a →
  D.nx σ (upd (upd H2 dx (.xd [(f, y)])) a (excN a C (some dx)))
theorem ps_exc (ha : PE X o ta) (hv : PE X value tv) (hs : swapsWith value (some (.Attribute o f pos')) pos.line X.env = pure false) : PS X (.Assign [.Attribute o f pos'] value pos) (sExc X.K ta tv f) := by
  intro pins s σ H D I h
  refine plainObj_wpAny_Assign_Attribute (thn (hv pins s σ H _ I h) fun u s1 ⟨y, H1, I1, ry, q⟩ => thn (ha pins s1 σ H1 _ I1 q) fun ov s2 ⟨x, H2, I2, rx, a, C, ex, ea, S, q2⟩ => ?_) hs
  subst ex
  obtain rfl : ov = Value.ref a := rx
  obtain ⟨⟨ob, vs, t, h1, h2, h3, h4, h5, h6⟩, _, _⟩ := (show ObjOk X.prog X.w H2 s2.heap a (excN a C none) from I2.hok a _ ea)
  refine exi_setattr I2.kIn S.ex h1 h2 h4 h3 S.sa S.ob S.no S.hd fun h' kp e1 n1 => ?_
  have ne : s2.heap.objs.size ≠ a := fun z => Nat.lt_irrefl _ (z ▸ Heap.lt_size h1)
  have fr : H2 s2.heap.objs.size = none := I2.hok.fresh (Nat.le_refl _)
  -- the heap with the exception as it was
  have e0 : (h'.update a fun _ => ob).get? a = some ob := Heap.get?_update_self (fun _ => ob) e1 (get_alive h1)
  have eo : ∀ b, b ≠ a → (h'.update a fun _ => ob).get? b = h'.get? b := fun b z => Heap.get?_update_other _ _ (Ne.symm z)
  have J1 : Inv X pins σ (upd H2 s2.heap.objs.size (.xd [(f, y)])) { s2 with heap := h'.update a fun _ => ob, toks := s2.toks } := I2.laid (a := s2.heap.objs.size) (o := .xd [(f, y)]) (h' := h'.update a fun _ => ob) (t' := s2.toks)
    (fun b u z => by
      by_cases w : b = a
      · subst w; rw [h1] at z; cases z; exact e0
      · exact (eo b w).trans (kp b u w z)) (Nat.le_refl _)
    ⟨_, n1.at fun o z => (eo _ ne).trans z, fun g => by
      by_cases z : g = f
      · subst z
        simp only [List.lookup, beq_self_eq_true, if_true]
        exact ry
      · have z' : (g == f) = false := beq_eq_false_iff_ne.mpr z
        simp only [List.lookup, z', if_neg z]
        exact True.intro⟩
  have J2 := J1.write (x := a) (e := a) (o := excN a C (some s2.heap.objs.size)) (h' := h') (t' := s2.toks + 2) (by rw [upd_ne (Ne.symm ne), ea]; exact True.intro) (.inl rfl) (fun b u z r => (eo b z) ▸ r) ⟨_, e1⟩
    (excN_ok e1 h2 rfl h4 h5 h6)
  exact ⟨σ, _, J2, q2 _ fr ne⟩
/-- e.f of a caught exception, an int -/
def tExcAt (K : PySem.W.Frag) (ta : TE) (f : Str) : TE := fun σ H Q => ta σ H fun x H1 => ∃ a C dx fs n, x = .ref a ∧ H1 a = some (excHO a C (some dx)) ∧ H1 dx = some (.xd fs) ∧ fs.lookup f = some (.int n) ∧ ExcF K C ∧ ExcS K C f ∧ Q (.int n) H1
theorem pe_excAt (ha : PE X o ta) (hb : attributeBase o f X.env (eval o X.env) = eval o X.env := by rfl) : PE X (.Attribute o f pos) (tExcAt X.K ta f) := by
  intro pins s σ H Q I h
  refine attr_of hb (thn (ha pins s σ H _ I h) fun u s1 ⟨x, H1, I1, rx, a, C, dx, fs, n, ex, ea, ed, l, F, S, q⟩ => ?_)
  subst ex
  obtain rfl : u = Value.ref a := rx
  obtain ⟨⟨ob, h1, h2, h3, vs, h4⟩, _, _⟩ := (show ObjOk X.prog X.w H1 s1.heap a (excHO a C (some dx)) from I1.hok a _ ea)
  obtain ⟨mA, hm, hr⟩ := (show ObjOk X.prog X.w H1 s1.heap dx (.xd fs) from I1.hok dx _ ed)
  have r := hr f
  rw [l] at r
  cases hv : mA f with
  | none => rw [hv] at r; exact r.elim
  | some v =>
    rw [hv] at r
    obtain ⟨tk, rfl⟩ := (show ∃ tk, v = Value.int n tk from r)
    unfold getAttr
    refine wpAny_bind (wpAny_mkText ?_)
    have I2 : Inv X pins σ H1 { s1 with toks := s1.toks + 1 } := I1.tok _
    exact exd_by (s := { s1 with toks := s1.toks + 1 }) I2.kIn h1 h2 h4 h3 hm hv F S.no S.hd (wpAny_pure ⟨.int n, H1, I2, ⟨tk, rfl⟩, q⟩)
end
/-! ### raise C(..) -/
def delH (H : Hp) (a : Addr) : Hp := fun b => if b = a then none else H b
theorem delH_same {H : Hp} {a : Addr} : delH H a a = none := by unfold delH; rw [if_pos rfl]
theorem delH_ne {H : Hp} {a b : Addr} (h : b ≠ a) : delH H a b = H b := by unfold delH; rw [if_neg h]
section
variable {X : Cx} {pins : List (Addr × Obj)} {σ : St} {H : Hp} {s : Shared} {a : Addr} {φ : Heap → Prop}
/-- a thing is tracked no more -/
theorem Inv.del (I : Inv X pins σ H s) (ha : H a = some (.ext φ)) : Inv X pins σ (delH H a) s := by
  have ne : ∀ b u, H b = some u → (∀ ψ, u ≠ .ext ψ) → b ≠ a := fun b u e n z => by
    rw [z, ha] at e
    cases e
    exact n φ rfl
  have nn : ∀ b, H b = none → delH H a b = none := fun b e => by
    by_cases z : b = a
    · rw [z]; exact delH_same
    · rw [delH_ne z]; exact e
  refine ⟨I.ok, I.os, I.bare, ⟨I.base.keep, I.base.slot, fun b o e n hx => nn b (I.base.free b o e n hx), I.base.there, fun b xs e => ?_, fun b q u e => ?_, fun b ps e => ?_⟩, I.loc, I.cell, nn _ I.free, fun x c e => nn _ (I.freeC x c e), fun p hp => ?_, fun b u e => ?_, I.len⟩
  · have := I.base.tups b xs e
    rw [delH_ne (ne b _ this (by intro ψ z; cases z))]; exact this
  · have := I.base.frzs b q u e
    rw [delH_ne (ne b _ this (by intro ψ z; cases z))]; exact this
  · obtain ⟨more, h1⟩ := I.base.tbls b ps e
    exact ⟨more, by rw [delH_ne (ne b _ h1 (by intro ψ z; cases z))]; exact h1⟩
  · obtain ⟨e, n, r⟩ := I.pin p hp
    exact ⟨e, nn _ n, r⟩
  · have z : b ≠ a := fun z => by rw [z, delH_same] at e; cases e
    rw [delH_ne z] at e
    refine (I.hok b u e).stay (fun _ _ _ r => r) (fun c r => ?_) fun c xs r => ?_
    · rw [delH_ne (ne c _ r (by intro ψ z; cases z))]; exact r
    · rw [delH_ne (ne c _ r (by intro ψ z; cases z))]; exact r
end
def tRaiseI (E : XK) (C : Addr) (sp : Sp) (t : TA) : TS := fun _ σ H => t σ H fun xs H1 => xs.length ≤ sizeLine ∧ ∀ a, H1 a = none → sp (.ref a :: xs) (upd H1 a (excN a C none)) (fun v H2 => v = .non ∧ ∃ d, H2 a = some (excN a C d) ∧ E (.ref C) d (delH H2 a)) (fun _ _ _ => False)
/-- what raise leans on -/
structure ExcR (K : PySem.W.Frag) (C f : Addr) : Prop extends ExcI K C f where
  be : PySem.W.mroIn K C (.type "BaseException") = some true
  ty : PySem.W.typeIn K (.ref C) = some (.type "type")
  kp : PySem.W.keepIn K (.ref C) = true
section
variable {P : Program} {w : World} {K : PySem.W.Frag} {mg : Str → Option Value} {base : Heap} {N : List Str} {qual : Str} {scope : Scope} {f : Addr} {cd : Value} {A : Around} {outer : List Env} {s : Shared} {H : Hp} {E : XK}
theorem ps_raiseI {x : Str} {np cpos pos : Pos} {e : Expr} {es : List Expr} {t : TA} {C fI : Addr} {k : Nat} {fd : FuncData} {ps : List Str} {sp : Sp} (F : ExcR K C fI) (G : FnOk P w K mg base (CXE P w) k fI fd ps sp) (hb : Binds K fd ps []) (hr : Room (k + 1) (cxE P w K mg base N qual scope f cd A outer s H E).A)
    (hm : mg x = some (.ref C)) (ha : PA (cxE P w K mg base N qual scope f cd A outer s H E) (e :: es) t)
    (hg : Gl (cxE P w K mg base N qual scope f cd A outer s H E) x := by rfl) (hdb : (x == ("__debug__" : Str)) = false := by decide) (he : starEach (e :: es) (cxE P w K mg base N qual scope f cd A outer s H E).env = (false, eval e (cxE P w K mg base N qual scope f cd A outer s H E).env) :: starEach es (cxE P w K mg base N qual scope f cd A outer s H E).env := by rfl)
    (hpl : (backTo cpos (starEach es (cxE P w K mg base N qual scope f cd A outer s H E).env)).any (·.1) = false := by rfl) :
    PS (cxE P w K mg base N qual scope f cd A outer s H E) (.Raise (some (.Call (.Name x np) (e :: es) [] cpos)) none pos) (tRaiseI E C sp t) := by
  intro pins s1 σ H1 D I h
  refine raise_own (K := K) (C := C) hr.hd F.be F.ty ?_
  refine wpAny_Call_Name_kw (ld_glob I hg hm ?_ hdb)
  refine PySem.W.callWith_K (h₀ := base) I.ok.mod.kin F.kp (thn (ha cpos pins s1 σ H1 _ I h) fun us s2 ⟨vs, H2, I2, r, hz, q⟩ => ⟨I2.kIn, ?_⟩) he hpl
  have fr : H2 (s2.heap.objs.size + 1) = none := I2.hok.fresh (Nat.le_succ _)
  have hq := q _ fr
  have sz : us.length ≤ sizeLine := by rw [← r.length]; exact hz
  have I3 : Inv (cxE P w K mg base N qual scope f cd A outer s H E) pins σ (upd H2 (s2.heap.objs.size + 1) (excN (s2.heap.objs.size + 1) C none)) { s2 with heap := excHp s2.heap C us, toks := s2.toks } :=
    I2.laid (a := s2.heap.objs.size + 1) (o := excN (s2.heap.objs.size + 1) C none) (h' := excHp s2.heap C us) (t' := s2.toks) excHp_keeps (Nat.le_succ _) (excN_ok (t := s2.heap.objs.size) excHp_at rfl rfl rfl rfl rfl)
  have r2 : Vals (V.ref (s2.heap.objs.size + 1) :: vs) (Value.ref (s2.heap.objs.size + 1) :: us) := .cons rfl r
  have hl : (Value.ref (s2.heap.objs.size + 1) :: us ++ []).length = ps.length := by
    have z := r2.length
    rw [G.len _ _ _ _ hq] at z
    rw [List.append_nil]
    exact z.symm
  have ne0 : s.heap.get? (s2.heap.objs.size + 1) = none := Heap.get?_none_of_le (Nat.le_trans I2.sz (Nat.le_succ _))
  refine wpAny_call (exi_call (f := fI) I2.kIn F.toExcI sz (codeAny_mono (G.run _ (cxE P w K mg base N qual scope f cd A outer s H E).stack _ _ ⟨Value.ref (s2.heap.objs.size + 1) :: us, []⟩ (Value.ref (s2.heap.objs.size + 1) :: us) _ _ (fun _ _ _ => False) (hr.make C us [])
    (I3.env0.make C us []) (by have := hb _ (Value.ref (s2.heap.objs.size + 1) :: us) I3.kIn hl; rw [List.append_nil] at this; exact this) r2 hq) fun rr s' hq' => ?_))
  cases rr with
  | error ev =>
    obtain ⟨_, _, _, _, _, _, _, _, _, _, _, _, _, _, _, _, z⟩ := hq'
    exact z.elim
  | ok fl =>
    cases fl with
    | ret u =>
      obtain ⟨v, H', I4, rv, ev, d, hd, q3⟩ := I3.after hq'
      subst ev
      refine ⟨rv, ?_⟩
      obtain ⟨⟨ob, ws, tt, h1, h2, h3, h4, h5, h6⟩, _, _⟩ := (show ObjOk P w H' s'.heap (s2.heap.objs.size + 1) (excN (s2.heap.objs.size + 1) C d) from I4.hok _ _ hd)
      have I5 := I4.del hd
      exact ⟨s2.heap.objs.size + 1, ob, ws, rfl, I5.kIn, h1, h2, h4, h6, leave_own I5 ne0 delH_same h1 h2 h4 h6 h5 h3 q3⟩
    | next => exact False.elim hq'
    | brk => exact False.elim hq'
    | cont => exact False.elim hq'
end
end L2

set_option Elab.async false
set_option linter.all false
set_option maxRecDepth 100000
namespace L2
open PySem PySem.Spec PyProof.Rows
/-! ### lists of pairs as tables -/
section
variable {κ : Type} [DecidableEq κ]
def valV (kvs : List (κ × V)) (k : κ) : Option V := (kvs.find? fun kv => decide (kv.1 = k)).map (·.2)
/-- in its place, or at the end -/
def putK (kvs : List (κ × V)) (k : κ) (v : V) : List (κ × V) :=
  if (kvs.any fun kv => decide (kv.1 = k)) = true then kvs.map (fun kv => if kv.1 = k then (kv.1, v) else kv) else kvs ++ [(k, v)]
def dropK (kvs : List (κ × V)) (k : κ) : List (κ × V) := kvs.filter fun kv => decide (kv.1 ≠ k)

theorem valV_nil {k : κ} : valV ([] : List (κ × V)) k = none := rfl
theorem valV_pos {p : κ × V} {r : List (κ × V)} {k : κ} (e : p.1 = k) : valV (p :: r) k = some p.2 := by simp [valV, List.find?_cons, e]
theorem valV_neg {p : κ × V} {r : List (κ × V)} {k : κ} (e : ¬ p.1 = k) : valV (p :: r) k = valV r k := by simp [valV, List.find?_cons, e]
theorem valV_any (k : κ) : ∀ kvs : List (κ × V), (kvs.any fun kv => decide (kv.1 = k)) = (valV kvs k).isSome
  | [] => rfl
  | p :: r => by
    rw [List.any_cons]
    by_cases e : p.1 = k
    · simp only [valV_pos e, decide_eq_true e, Bool.true_or, Option.isSome_some]
    · rw [valV_neg e, decide_eq_false e, Bool.false_or]; exact valV_any k r
theorem valV_map (k j : κ) (y : V) : ∀ kvs : List (κ × V), valV (kvs.map fun kv => if kv.1 = k then (kv.1, y) else kv) j = (valV kvs j).map fun x => if j = k then y else x
  | [] => rfl
  | p :: r => by
    have ih := valV_map k j y r
    rw [List.map_cons]
    by_cases h : p.1 = k
    · rw [if_pos h]
      by_cases e : p.1 = j
      · rw [valV_pos (p := (p.1, y)) e, valV_pos e, Option.map_some, if_pos (e.symm.trans h)]
      · rw [valV_neg (p := (p.1, y)) e, valV_neg e, ih]
    · rw [if_neg h]
      by_cases e : p.1 = j
      · rw [valV_pos (p := p) e, valV_pos e, Option.map_some, if_neg (fun z => h (e.trans z))]
      · rw [valV_neg (p := p) e, valV_neg e, ih]
theorem valV_snoc (k j : κ) (y : V) : ∀ kvs : List (κ × V), valV kvs k = none → valV (kvs ++ [(k, y)]) j = if j = k then some y else valV kvs j
  | [], _ => by
    by_cases e : k = j
    · rw [if_pos e.symm]; exact valV_pos (p := (k, y)) e
    · rw [if_neg (fun z => e z.symm)]; exact valV_neg (p := (k, y)) e
  | p :: r, hn => by
    rw [List.cons_append]
    have hk : ¬ p.1 = k := fun z => by rw [valV_pos z] at hn; cases hn
    rw [valV_neg hk] at hn
    have ih := valV_snoc k j y r hn
    by_cases e : p.1 = j
    · rw [valV_pos e, valV_pos e, if_neg (fun z => hk (e.trans z))]
    · rw [valV_neg e, valV_neg e, ih]
theorem valV_put (kvs : List (κ × V)) (k j : κ) (y : V) : valV (putK kvs k y) j = if j = k then some y else valV kvs j := by
  unfold putK
  by_cases a : (kvs.any fun kv => decide (kv.1 = k)) = true
  · rw [if_pos a, valV_map]
    rw [valV_any] at a
    by_cases e : j = k
    · obtain ⟨x, hx⟩ := Option.isSome_iff_exists.mp a
      rw [if_pos e, e, hx, Option.map_some, if_pos rfl]
    · rw [if_neg e]
      cases valV kvs j with
      | none => rfl
      | some x => rw [Option.map_some, if_neg e]
  · rw [if_neg a]
    refine valV_snoc k j y kvs ?_
    rw [valV_any] at a
    cases q : valV kvs k with
    | none => rfl
    | some x => rw [q] at a; exact (a rfl).elim
theorem length_putK (kvs : List (κ × V)) (k : κ) (v : V) : (putK kvs k v).length ≤ kvs.length + 1 := by
  unfold putK
  split
  · rw [List.length_map]; omega
  · rw [List.length_append, List.length_cons, List.length_nil]; omega
theorem putK_new {kvs : List (κ × V)} {k : κ} (v : V) (h : valV kvs k = none) : putK kvs k v = kvs ++ [(k, v)] := by
  unfold putK
  rw [valV_any, h]
  exact if_neg (by decide)

theorem RelO.isSome_eq {o : Option V} {u : Option Value} (r : RelO o u) : o.isSome = u.isSome := by
  cases o with
  | none => cases u with
    | none => rfl
    | some _ => exact (show False from r).elim
  | some _ => cases u with
    | none => exact (show False from r).elim
    | some _ => rfl
theorem RelO.getD {o : Option V} {u : Option Value} {d : V} {d' : Value} (r : RelO o u) (rd : RelV d d') : RelV (o.getD d) (u.getD d') := by
  cases o with
  | none => cases u with
    | none => exact rd
    | some _ => exact (show False from r).elim
  | some _ => cases u with
    | none => exact (show False from r).elim
    | some _ => exact r

/-- raw tables of the same keys -/
theorem KV.val {kvs : List (κ × V)} {vs : List (κ × Value)} (r : KV kvs vs) (k : κ) : RelO (valV kvs k) (valueAt vs k) := by
  unfold KV at r
  induction r with
  | nil => exact True.intro
  | @cons p q ps qs h t ih =>
    obtain ⟨h1, h2⟩ := h
    by_cases e : p.1 = k
    · have e' : q.1 = k := h1.symm.trans e
      have b : valueAt (q :: qs) k = some q.2 := by simp [valueAt, List.find?_cons, e']
      rw [valV_pos e, b]; exact h2
    · have e' : ¬ q.1 = k := fun z => e (h1.trans z)
      have b : valueAt (q :: qs) k = valueAt qs k := by simp [valueAt, List.find?_cons, e']
      rw [valV_neg e, b]; exact ih
theorem KV.any {kvs : List (κ × V)} {vs : List (κ × Value)} (r : KV kvs vs) (k : κ) : (kvs.any fun kv => decide (kv.1 = k)) = vs.any fun kv => decide (kv.1 = k) := by
  unfold KV at r
  induction r with
  | nil => rfl
  | cons h t ih => rw [List.any_cons, List.any_cons, ih, h.1]
theorem KV.repl {kvs : List (κ × V)} {vs : List (κ × Value)} (r : KV kvs vs) (k : κ) {y : V} {u : Value} (ry : RelV y u) :
    KV (kvs.map fun kv => if kv.1 = k then (kv.1, y) else kv) (vs.map fun kv => if kv.1 = k then (kv.1, u) else kv) := by
  unfold KV at r ⊢
  induction r with
  | nil => exact .nil
  | @cons p q ps qs h t ih =>
    rw [List.map_cons, List.map_cons]
    refine .cons ?_ ih
    obtain ⟨h1, h2⟩ := h
    by_cases e : p.1 = k
    · rw [if_pos e, if_pos (h1.symm.trans e)]; exact ⟨h1, ry⟩
    · rw [if_neg e, if_neg (fun z => e (h1.trans z))]; exact ⟨h1, h2⟩
theorem KV.put {kvs : List (κ × V)} {vs : List (κ × Value)} (r : KV kvs vs) (k : κ) {y : V} {u : Value} (ry : RelV y u) : KV (putK kvs k y) (stored vs k u) := by
  unfold putK stored
  rw [r.any k]
  by_cases e : (vs.any fun kv => decide (kv.1 = k)) = true
  · rw [if_pos e, if_pos e]; exact r.repl k ry
  · rw [if_neg e, if_neg e]; exact Paired.snoc r ⟨rfl, ry⟩
theorem KV.drop {kvs : List (κ × V)} {vs : List (κ × Value)} (r : KV kvs vs) (k : κ) : KV (dropK kvs k) (without vs k) := by
  unfold KV at r ⊢
  unfold dropK without
  induction r with
  | nil => exact .nil
  | @cons p q ps qs h t ih =>
    obtain ⟨h1, h2⟩ := h
    rw [List.filter_cons, List.filter_cons]
    by_cases e : p.1 = k
    · have a : ¬ decide (p.1 ≠ k) = true := by simp [e]
      have b : ¬ decide (q.1 ≠ k) = true := by simp [h1.symm.trans e]
      rw [if_neg a, if_neg b]; exact ih
    · have e' : ¬ q.1 = k := fun z => e (h1.trans z)
      have a : decide (p.1 ≠ k) = true := by simp [e]
      have b : decide (q.1 ≠ k) = true := by simp [e']
      rw [if_pos a, if_pos b]; exact .cons ⟨h1, h2⟩ ih
theorem KV.keys {kvs : List (κ × V)} {vs : List (κ × Value)} (r : KV kvs vs) : kvs.map (·.1) = vs.map (·.1) := by
  unfold KV at r
  induction r with
  | nil => rfl
  | cons h t ih => rw [List.map_cons, List.map_cons, ih, h.1]
theorem KV.length {kvs : List (κ × V)} {vs : List (κ × Value)} (r : KV kvs vs) : kvs.length = vs.length := Paired.length r
theorem dropK_le (kvs : List (κ × V)) (k : κ) : (dropK kvs k).length ≤ kvs.length := List.length_filter_le _ _
end


/-! ### a tracked dict, its keys ints and texts or tuples of these -/
theorem kV_is {P : Program} {w : World} {k : Key} {u : Value} (r : RelV (kV k) u) : (mixKind P w).is k u = true := by
  cases k with
  | inl i => obtain ⟨t, e⟩ := (show ∃ t, u = Value.int i t from r); subst e; exact mixKind_int P w i t
  | inr x => obtain ⟨t, e⟩ := (show ∃ t, u = Value.str x t from r); subst e; exact mixKind_str P w x t
theorem kV_inj {a b : Key} (e : kV a = kV b) : a = b := by
  cases a with
  | inl i => cases b with
    | inl j => have e' : V.int i = V.int j := e; injection e' with e'; rw [e']
    | inr y => exact nomatch (show V.int i = V.str y from e)
  | inr x => cases b with
    | inl j => exact nomatch (show V.str x = V.int j from e)
    | inr y => have e' : V.str x = V.str y := e; injection e' with e'; rw [e']
theorem kVs_inj : ∀ {a b : List Key}, a.map kV = b.map kV → a = b
  | [], [], _ => rfl
  | [], _ :: _, e => by simp at e
  | _ :: _, [], e => by simp at e
  | x :: xs, y :: ys, e => by
    rw [List.map_cons, List.map_cons] at e
    injection e with e1 e2
    rw [kV_inj e1, kVs_inj e2]
theorem items_are {P : Program} {w : World} : ∀ {ks : List Key} {us : List Value}, Vals (ks.map kV) us → ItemsAre (mixKind P w) ks us
  | [], _, r => by rw [List.map_nil] at r; cases r; exact .nil
  | k :: ks, _, r => by
    rw [List.map_cons] at r
    cases r with
    | cons h t => exact .cons (kV_is h) (items_are t)

/-- raw entries of a dict with tuple keys -/
abbrev KT (H : Hp) : List (List Key × V) → List (List Key × Addr × Value) → Prop := Paired fun p q => p.1 = q.1 ∧ H q.2.1 = some (.tup (p.1.map kV)) ∧ RelV p.2 q.2.2
theorem KT.val {H : Hp} {kvs : List (List Key × V)} {xs : List (List Key × Addr × Value)} (r : KT H kvs xs) (k : List Key) : RelO (valV kvs k) ((atKey xs k).map (·.2)) := by
  induction r with
  | nil => exact True.intro
  | @cons p q ps qs h t ih =>
    obtain ⟨h1, _, h2⟩ := h
    by_cases e : p.1 = k
    · have e' : q.1 = k := h1.symm.trans e
      have b : atKey (q :: qs) k = some q.2 := by simp [atKey, List.find?_cons, e']
      rw [valV_pos e, b]; exact h2
    · have e' : ¬ q.1 = k := fun z => e (h1.trans z)
      have b : atKey (q :: qs) k = atKey qs k := by simp [atKey, List.find?_cons, e']
      rw [valV_neg e, b]; exact ih
theorem KT.repl {H : Hp} {kvs : List (List Key × V)} {xs : List (List Key × Addr × Value)} (r : KT H kvs xs) (k : List Key) {y : V} {u : Value} (ry : RelV y u) :
    KT H (kvs.map fun kv => if kv.1 = k then (kv.1, y) else kv) (xs.map (putAt k u)) := by
  induction r with
  | nil => exact .nil
  | @cons p q ps qs h t ih =>
    rw [List.map_cons, List.map_cons]
    refine .cons ?_ ih
    obtain ⟨h1, h2, h3⟩ := h
    unfold putAt
    by_cases e : p.1 = k
    · rw [if_pos e, if_pos (h1.symm.trans e)]; exact ⟨h1, h2, ry⟩
    · rw [if_neg e, if_neg (fun z => e (h1.trans z))]; exact ⟨h1, h2, h3⟩
theorem KT.put {H : Hp} {kvs : List (List Key × V)} {xs : List (List Key × Addr × Value)} (r : KT H kvs xs) (k : List Key) {b : Addr} {y : V} {u : Value} (hb : H b = some (.tup (k.map kV))) (ry : RelV y u) :
    KT H (putK kvs k y) (storedH xs k b u) := by
  have e : (kvs.any fun kv => decide (kv.1 = k)) = (atKey xs k).isSome := by
    rw [valV_any, (r.val k).isSome_eq, Option.isSome_map]
  unfold putK storedH
  rw [e]
  by_cases q : (atKey xs k).isSome = true
  · rw [if_pos q, if_pos q]; exact r.repl k ry
  · rw [if_neg q, if_neg q]; exact Paired.snoc r ⟨rfl, hb, ry⟩
theorem KT.keeps {H H' : Hp} {kvs : List (List Key × V)} {xs : List (List Key × Addr × Value)} (r : KT H kvs xs) (ht : ∀ b ys, H b = some (.tup ys) → H' b = some (.tup ys)) : KT H' kvs xs :=
  Paired.mapP r fun _ _ z => ⟨z.1, ht _ _ z.2.1, z.2.2⟩

section
variable {P : Program} {w : World} {H : Hp} {h : Heap} {a : Addr}
theorem rd_of {u : HO} (ok : HOk P w H h) (e : Rd H a u) : ObjOk P w H h a u := e.ok ok
theorem dk_rd {kvs : List (Key × V)} (ok : HOk P w H h) (e : Rd H a (.dK kvs)) : kvs.length ≤ sizeLine ∧ (a == sysModules) = false ∧ ∃ vs, KV kvs vs ∧ h.DictOf (mixKind P w) a vs :=
  show ObjOk P w H h a (.dK kvs) from rd_of ok e
theorem dk_of {kvs : List (Key × V)} (ok : HOk P w H h) (e : H a = some (.dK kvs)) : kvs.length ≤ sizeLine ∧ (a == sysModules) = false ∧ ∃ vs, KV kvs vs ∧ h.DictOf (mixKind P w) a vs := dk_rd ok (.inl e)
/-- a tracked tuple of ints and texts is a key -/
theorem key_of {ks : List Key} (ok : HOk P w H h) (e : H a = some (.tup (ks.map kV))) : (tupleKind (mixKind P w)).is h ks a := by
  obtain ⟨_, its, r, o, h1, h2, n, h3⟩ := (show ObjOk P w H h a (.tup (ks.map kV)) from ok a _ e)
  exact ⟨o, its.toArray, n, h1, h2, h3, by simpa using items_are r⟩
theorem dt_rd {kvs : List (List Key × V)} (ok : HOk P w H h) (e : Rd H a (.dT kvs)) : kvs.length ≤ sizeLine ∧ (a == sysModules) = false ∧
    ∃ xs, KT H kvs xs ∧ h.DictOfH (tupleKind (mixKind P w)) a xs := by
  obtain ⟨z, y, xs, r, o, es, ep, h1, h2, h3, h4, h5⟩ := (show ObjOk P w H h a (.dT kvs) from rd_of ok e)
  refine ⟨z, y, xs, r, o, es, ep, h1, h2, h3, h4, fun x hx => ?_, h5⟩
  have all : ∀ {l : List (List Key × V)} {m : List (List Key × Addr × Value)}, KT H l m → ∀ x ∈ m, (tupleKind (mixKind P w)).is h x.1 x.2.1 := by
    intro l m q
    induction q with
    | nil => intro x hx; exact nomatch hx
    | @cons p q ps qs hq t ih =>
      intro x hx
      rcases List.mem_cons.mp hx with e | hx
      · subst e
        exact key_of ok (by rw [← hq.1]; exact hq.2.1)
      · exact ih x hx
  exact all r x hx
theorem dt_of {kvs : List (List Key × V)} (ok : HOk P w H h) (e : H a = some (.dT kvs)) : kvs.length ≤ sizeLine ∧ (a == sysModules) = false ∧
    ∃ xs, KT H kvs xs ∧ h.DictOfH (tupleKind (mixKind P w)) a xs := dt_rd ok (.inl e)
end

/-- what the dict at a holds at the key y -/
def DGet (H : Hp) (a : Addr) (y : V) (r : Option V) : Prop :=
  (∃ kvs k, Rd H a (.dK kvs) ∧ y = kV k ∧ r = valV kvs k) ∨ ∃ kvs k b, Rd H a (.dT kvs) ∧ y = .ref b ∧ H b = some (.tup (k.map kV)) ∧ r = valV kvs k
/-- the heap behind a[y] = v -/
def DPut (H : Hp) (a : Addr) (y v : V) (H' : Hp) : Prop :=
  (∃ kvs k, H a = some (.dK kvs) ∧ y = kV k ∧ kvs.length < sizeLine ∧ H' = upd H a (.dK (putK kvs k v))) ∨
  ∃ kvs k b, H a = some (.dT kvs) ∧ y = .ref b ∧ H b = some (.tup (k.map kV)) ∧ kvs.length < sizeLine ∧ H' = upd H a (.dT (putK kvs k v))
theorem DGet.k {H : Hp} {a : Addr} {kvs : List (Key × V)} {k : Key} (e : H a = some (.dK kvs)) : DGet H a (kV k) (valV kvs k) := .inl ⟨kvs, k, .inl e, rfl, rfl⟩
theorem DGet.t {H : Hp} {a b : Addr} {kvs : List (List Key × V)} {k : List Key} (e : H a = some (.dT kvs)) (eb : H b = some (.tup (k.map kV))) : DGet H a (.ref b) (valV kvs k) := .inr ⟨kvs, k, b, .inl e, rfl, eb, rfl⟩
theorem DPut.k {H : Hp} {a : Addr} {kvs : List (Key × V)} {k : Key} {v : V} (e : H a = some (.dK kvs)) (hl : kvs.length < sizeLine) : DPut H a (kV k) v (upd H a (.dK (putK kvs k v))) := .inl ⟨kvs, k, e, rfl, hl, rfl⟩
theorem DPut.t {H : Hp} {a b : Addr} {kvs : List (List Key × V)} {k : List Key} {v : V} (e : H a = some (.dT kvs)) (eb : H b = some (.tup (k.map kV))) (hl : kvs.length < sizeLine) :
    DPut H a (.ref b) v (upd H a (.dT (putK kvs k v))) := .inr ⟨kvs, k, b, e, rfl, eb, hl, rfl⟩


section
variable {X : Cx} {pins : List (Addr × Obj)} {σ : St} {H : Hp} {s : Shared} {a : Addr} {y v : V} {u r : Value} {o : Option V} {A : Around} {E : Value → Shared → Prop}

theorem Inv.big (I : Inv X pins σ H s) : sysModules < s.heap.objs.size := by
  have h : mainGlobals < s.heap.objs.size := (I.mod.glob.keeps I.bk).lt
  exact Nat.lt_trans (by decide) h

/-- d[y], there -/
theorem d_getItem {Q : Value → Shared → Prop} (hu : A.units + 1 < cLine) (I : Inv X pins σ H s) (g : DGet H a y (some v)) (ry : RelV y u) (h : ∀ w' s', Inv X pins σ H s' → RelV v w' → Q w' s') :
    wpAny (model X.prog X.w) A (getItem (.ref a) u) Q E s := by
  rcases g with ⟨kvs, k, e, ey, l⟩ | ⟨kvs, k, b, e, ey, eb, l⟩
  · subst ey
    obtain ⟨z, hd, vs, rel, dd⟩ := dk_rd I.hok e
    obtain ⟨w', hw, rw'⟩ := RelO.some_of (v := v) (o := valueAt vs k) (by rw [l]; exact rel.val k)
    exact wpAny_getItem_of (kV_is ry) dd.mapOf hw (h w' _ (I.tok _) rw')
  · subst ey
    cases (show u = Value.ref b from ry)
    obtain ⟨z, hd, xs, rel, dd⟩ := dt_rd I.hok e
    obtain ⟨w', hw, rw'⟩ := RelO.some_of (v := v) (o := (atKey xs k).map (·.2)) (by rw [l]; exact rel.val k)
    obtain ⟨p, hp, hp2⟩ := Option.map_eq_some_iff.mp hw
    refine wpAny_getItem_heap (tupleKind_room_in1 hu) (key_of I.hok eb) dd hp ?_
    rw [hp2]
    exact h w' _ (I.tok _) rw'
/-- y in d -/
theorem d_in {Q : Value → Shared → Prop} (hu : A.units + 1 < cLine) (I : Inv X pins σ H s) (g : DGet H a y o) (ry : RelV y u) (h : ∀ s', Inv X pins σ H s' → Q (.bool o.isSome) s') :
    wpAny (model X.prog X.w) A (compareOp .In u (.ref a)) Q E s := by
  rcases g with ⟨kvs, k, e, ey, l⟩ | ⟨kvs, k, b, e, ey, eb, l⟩
  · subst ey
    obtain ⟨z, hd, vs, rel, dd⟩ := dk_rd I.hok e
    refine wpAny_in_of (kV_is ry) hd dd.mapOf ?_
    rw [← (rel.val k).isSome_eq, ← l]
    exact h _ (I.tok _)
  · subst ey
    cases (show u = Value.ref b from ry)
    obtain ⟨z, hd, xs, rel, dd⟩ := dt_rd I.hok e
    refine wpAny_in_heap (tupleKind_room_in1 hu) (key_of I.hok eb) hd dd ?_
    have q := (rel.val k).isSome_eq
    rw [Option.isSome_map] at q
    rw [← q, ← l]
    exact h _ (I.tok _)
theorem d_notIn {Q : Value → Shared → Prop} (hu : A.units + 1 < cLine) (I : Inv X pins σ H s) (g : DGet H a y o) (ry : RelV y u) (h : ∀ s', Inv X pins σ H s' → Q (.bool (!o.isSome)) s') :
    wpAny (model X.prog X.w) A (compareOp .NotIn u (.ref a)) Q E s := by
  rcases g with ⟨kvs, k, e, ey, l⟩ | ⟨kvs, k, b, e, ey, eb, l⟩
  · subst ey
    obtain ⟨z, hd, vs, rel, dd⟩ := dk_rd I.hok e
    refine wpAny_notIn_of (kV_is ry) hd dd.mapOf ?_
    rw [← (rel.val k).isSome_eq, ← l]
    exact h _ (I.tok _)
  · subst ey
    cases (show u = Value.ref b from ry)
    obtain ⟨z, hd, xs, rel, dd⟩ := dt_rd I.hok e
    refine wpAny_notIn_heap (tupleKind_room_in1 hu) (key_of I.hok eb) hd dd ?_
    have q := (rel.val k).isSome_eq
    rw [Option.isSome_map] at q
    rw [← q, ← l]
    exact h _ (I.tok _)
/-- a dict's object is replaced -/
theorem d_write {h' : Heap} {t' : Nat} {ob : HO} (I : Inv X pins σ H s) (mu : Mut (H a)) (hs : Heap.SameBut a s.heap h') (he : ∃ q, h'.get? a = some q) (new : ObjOk X.prog X.w (upd H a ob) h' a ob) :
    Inv X pins σ (upd H a ob) { s with heap := h', toks := t' } :=
  I.write (x := a) (e := a) mu (.inl rfl) (fun b q hb z => (hs.2 b hb).trans z) he new
theorem dk_new {P : Program} {w : World} {H' : Hp} {h' : Heap} {kvs : List (Key × V)} {vs : List (Key × Value)} (z : kvs.length ≤ sizeLine) (hd : (a == sysModules) = false) (rel : KV kvs vs) (dd : h'.DictOf (mixKind P w) a vs) :
    ObjOk P w H' h' a (.dK kvs) := ⟨z, hd, vs, rel, dd⟩
/-- d[y] = v -/
theorem d_setItem {H' : Hp} {Q : Unit → Shared → Prop} (hu : A.units + 1 < cLine) (I : Inv X pins σ H s) (g : DPut H a y v H') (ry : RelV y u) (rv : RelV v r) (h : ∀ s', Inv X pins σ H' s' → Q () s') :
    wpAny (model X.prog X.w) A (setItem (.ref a) u r) Q E s := by
  rcases g with ⟨kvs, k, e, ey, l, eH⟩ | ⟨kvs, k, b, e, ey, eb, l, eH⟩
  · subst ey eH
    obtain ⟨z, hd, vs, rel, dd⟩ := dk_of I.hok e
    have hz : vs.length ≤ sizeLine := by rw [← rel.length]; exact z
    have hl : (putK kvs k v).length ≤ sizeLine := by have := length_putK kvs k v; omega
    refine wpAny_setItem_pairs (hsz := hz) (kV_is ry) dd fun h' dd' hs => h _ ?_
    have he : ∃ q, h'.get? a = some q := let ⟨q, _, _, hq, _⟩ := dd'; ⟨q, hq⟩
    exact d_write I (by rw [e]; exact True.intro) hs he (dk_new hl hd (rel.put k rv) dd')
  · subst ey eH
    cases (show u = Value.ref b from ry)
    obtain ⟨z, hd, xs, rel, dd⟩ := dt_of I.hok e
    have hz : xs.length ≤ sizeLine := by rw [← Paired.length rel]; exact z
    have hl : (putK kvs k v).length ≤ sizeLine := by have := length_putK kvs k v; omega
    refine wpAny_setItem_heap (hsz := hz) (tupleKind_room_in1 hu) (key_of I.hok eb) dd fun h' dd' hs => h _ ?_
    obtain ⟨q, es, ep, hq, h2, h3, h4, _, h5⟩ := dd'
    refine d_write I (by rw [e]; exact True.intro) hs ⟨q, hq⟩ ⟨hl, hd, _, (rel.put k eb rv).keeps fun c ys ec => ?_, q, es, ep, hq, h2, h3, h4, h5⟩
    rw [upd_ne (ne_of ec e (fun z => nomatch z))]
    exact ec
end

section
variable {X : Cx} {pins : List (Addr × Obj)} {σ : St} {H : Hp} {s : Shared} {a : Addr} {kvs : List (Key × V)} {k : Key} {u : Value} {A : Around} {E : Value → Shared → Prop}
/-- del d[k] -/
theorem d_delItem {Q : Unit → Shared → Prop} (I : Inv X pins σ H s) (e : H a = some (.dK kvs)) (ry : RelV (kV k) u) (l : (valV kvs k).isSome = true) (h : ∀ s', Inv X pins σ (upd H a (.dK (dropK kvs k))) s' → Q () s') :
    wpAny (model X.prog X.w) A (delItem (.ref a) u) Q E s := by
  obtain ⟨z, hd, vs, rel, dd⟩ := dk_of I.hok e
  refine wpAny_delItem_slot dd.typeIs (by decide) PySem.F.slot_dict_delitem
    (call_meetsIn PySem.F.slot_dict_delitem dd.typeIs PySem.F.entry_dict_delitem (PySem.F.args_dict_delitem_2 _ _) (meets_dict_delitem_pairs (mixKind X.prog X.w) a (kV_is ry)) ⟨vs, dd, by rw [← rel.length]; exact z, by rw [← (rel.val k).isSome_eq]; exact l, fun h' dd' hs => h _ ?_⟩)
  have he : ∃ q, h'.get? a = some q := let ⟨q, _, _, hq, _⟩ := dd'; ⟨q, hq⟩
  exact d_write I (by rw [e]; exact True.intro) hs he (dk_new (Nat.le_trans (dropK_le kvs k) z) hd (rel.drop k) dd')
/-- d.pop(k[, x]), there -/
theorem d_pop {v : V} {more : List Value} {Q : Value → Shared → Prop} (I : Inv X pins σ H s) (e : H a = some (.dK kvs)) (ry : RelV (kV k) u) (l : valV kvs k = some v) (hm : more = [] ∨ ∃ x, more = [x])
    (h : ∀ w' s', Inv X pins σ (upd H a (.dK (dropK kvs k))) s' → RelV v w' → Q w' s') : wpAny (model X.prog X.w) A (call (.builtin "dict.pop") (.ref a :: u :: more)) Q E s := by
  obtain ⟨z, hd, vs, rel, dd⟩ := dk_of I.hok e
  obtain ⟨w', hw, rw'⟩ := RelO.some_of (v := v) (o := valueAt vs k) (by rw [← l]; exact rel.val k)
  have hp : (keyPart u).isSome = true := by
    cases k with
    | inl i => obtain ⟨t, q⟩ := (show ∃ t, u = Value.int i t from ry); subst q; rfl
    | inr x => obtain ⟨t, q⟩ := (show ∃ t, u = Value.str x t from ry); subst q; rfl
  have ha : argsOk "dict.pop" ⟨.ref a :: u :: more, []⟩ := by
    rcases hm with q | ⟨x, q⟩
    · subst q; exact PySem.F.args_dict_pop_2 _ _
    · subst q; exact PySem.F.args_dict_pop_3 _ _ _
  refine call_meetsIn PySem.F.slot_dict_pop dd.typeIs PySem.F.entry_dict_pop ha (meets_dict_pop_there (mixKind X.prog X.w) a (kV_is ry) more hm hp)
    ⟨vs, w', dd, by rw [← rel.length]; exact z, hw, fun h' dd' hs => h w' _ ?_ rw'⟩
  have he : ∃ q, h'.get? a = some q := let ⟨q, _, _, hq, _⟩ := dd'; ⟨q, hq⟩
  exact d_write I (by rw [e]; exact True.intro) hs he (dk_new (Nat.le_trans (dropK_le kvs k) z) hd (rel.drop k) dd')
/-- d.pop(k, x), not there -/
theorem d_popD {r : Value} {Q : Value → Shared → Prop} (I : Inv X pins σ H s) (e : H a = some (.dK kvs)) (ry : RelV (kV k) u) (l : valV kvs k = none) (h : ∀ s', Inv X pins σ H s' → Q r s') :
    wpAny (model X.prog X.w) A (call (.builtin "dict.pop") [.ref a, u, r]) Q E s := by
  obtain ⟨z, hd, vs, rel, dd⟩ := dk_of I.hok e
  have hn : valueAt vs k = none := RelO.none_of (by rw [← l]; exact rel.val k)
  have hp : (keyPart u).isSome = true := by
    cases k with
    | inl i => obtain ⟨t, q⟩ := (show ∃ t, u = Value.int i t from ry); subst q; rfl
    | inr x => obtain ⟨t, q⟩ := (show ∃ t, u = Value.str x t from ry); subst q; rfl
  exact call_meetsIn PySem.F.slot_dict_pop dd.typeIs PySem.F.entry_dict_pop (PySem.F.args_dict_pop_3 _ _ _) (meets_dict_pop_default (mixKind X.prog X.w) a (kV_is ry) hd hp r) ⟨vs, dd, hn, h _ (I.tok _)⟩
/-- d.clear() -/
theorem d_clear {Q : Value → Shared → Prop} (I : Inv X pins σ H s) (e : H a = some (.dK kvs)) (h : ∀ s', Inv X pins σ (upd H a (.dK [])) s' → Q .none s') : wpAny (model X.prog X.w) A (call (.builtin "dict.clear") [.ref a]) Q E s := by
  obtain ⟨z, hd, vs, rel, dd⟩ := dk_of I.hok e
  refine call_meetsIn PySem.F.slot_dict_clear dd.typeIs PySem.F.entry_dict_clear (PySem.F.args_dict_clear_1 _) (meets_dict_clear (mixKind X.prog X.w) a) ⟨vs, dd, by rw [← rel.length]; exact z, fun h' dd' hs => h _ ?_⟩
  have he : ∃ q, h'.get? a = some q := let ⟨q, _, _, hq, _⟩ := dd'; ⟨q, hq⟩
  exact d_write (t' := s.toks) I (by rw [e]; exact True.intro) hs he (dk_new (Nat.zero_le _) hd .nil dd')
/-- len(d) -/
theorem d_len {Q : Value → Shared → Prop} (I : Inv X pins σ H s) (e : Rd H a (.dK kvs)) (h : ∀ t s', Inv X pins σ H s' → Q (.int kvs.length t) s') : wpAny (model X.prog X.w) A (call (.builtin "len") [.ref a]) Q E s := by
  obtain ⟨z, hd, vs, rel, dd⟩ := dk_rd I.hok e
  refine call_len_dict hd dd (by rw [← rel.length]; rw [sizeLine_eq] at z; omega) ?_
  rw [← rel.length]
  exact h _ _ (I.tok _)
/-- if d -/
theorem d_truth {Q : Bool → Shared → Prop} (I : Inv X pins σ H s) (e : Rd H a (.dK kvs)) (h : ∀ s', Inv X pins σ H s' → Q (!kvs.isEmpty) s') : wpAny (model X.prog X.w) A (truthy (.ref a)) Q E s := by
  obtain ⟨z, hd, vs, rel, dd⟩ := dk_rd I.hok e
  refine wpAny_truthy_dict hd dd (by rw [← rel.length]; rw [sizeLine_eq] at z; omega) ?_
  have q : kvs.isEmpty = vs.isEmpty := by cases rel <;> rfl
  rw [← q]
  exact h _ (I.tok _)
end


/-! ### readings and rules -/
/-- the element of a subscription, not a slice -/
def NoSl (i : Expr) : Prop := ∀ ov iv, subscripted i false ov iv = operate [ov, iv] (getItem ov iv)
theorem subD_of {prog : Program} {w : World} {A : Around} {E : Value → Shared → Prop} {s : Shared} {env : Env} {value slice : Expr} {pos : Pos} {T id : String} {Q : Value → Shared → Prop}
    (hl : typeLookup (.type T) "__getitem__" = pure (some (.builtin id))) (hs : NoSl slice)
    (h : wpAny (model prog w) A (eval value env) (fun o s₁ => wpAny (model prog w) A (eval slice env) (fun i s₂ => s₂.TypeIs o T ∧ wpAny (model prog w) A (getItem o i) Q E s₂) E s₁) E s) :
    wpAny (model prog w) A (eval (.Subscript value slice pos) env) Q E s := by
  refine Subscript_ (wpAny_mono h (fun o s₁ h₁ => wpAny_mono h₁ (fun i s₂ h₂ => ?_) fun _ _ x => x) fun _ _ x => x)
  obtain ⟨hT, h₂⟩ := h₂
  unfold subscriptTail
  refine wpAny_bind ?_
  rw [getitemInPython_of_ne hT.not_modules]
  refine wpAny_bind (wpAny_specialOf hT hl ?_)
  have fin : wpAny (model prog w) A (subscripted slice false o i) (fun r s₃ => wpAny (model prog w) A (letTemporaryGo value o r >>= fun _ => pure r) Q E s₃) E s₂ := by
    rw [hs o i]
    exact wpAny_operating (wpAny_mono h₂ (fun r s₃ h₃ => wpAny_bind (wpAny_letTemporaryGo (wpAny_pure h₃))) fun _ _ x => x)
  first
    | exact wpAny_pure (wpAny_bind fin)
    | exact wpAny_bind (wpAny_pure (wpAny_bind fin))
    | exact wpAny_bind fin

theorem dict_typeIs {X : Cx} {pins : List (Addr × Obj)} {σ : St} {H : Hp} {s : Shared} {a : Addr} {y : V} {o : Option V} (I : Inv X pins σ H s) (g : DGet H a y o) : s.TypeIs (.ref a) "dict" := by
  rcases g with ⟨kvs, k, e, _, _⟩ | ⟨kvs, k, b, e, _, _, _⟩
  · obtain ⟨_, _, vs, _, dd⟩ := dk_rd I.hok e
    exact dd.typeIs
  · obtain ⟨_, _, xs, _, dd⟩ := dt_rd I.hok e
    exact dd.typeIs
theorem dict_noDict {X : Cx} {pins : List (Addr × Obj)} {σ : St} {H : Hp} {s : Shared} {a : Addr} {y : V} {o : Option V} (I : Inv X pins σ H s) (g : DGet H a y o) :
    ∀ b, Value.ref a = .ref b → ∃ ob, s.heap.get? b = some ob ∧ ob.dict = none := fun b q => by
  cases q
  rcases g with ⟨kvs, k, e, _, _⟩ | ⟨kvs, k, b, e, _, _, _⟩
  · obtain ⟨_, _, vs, _, ob, _, _, h1, h2, _⟩ := dk_rd I.hok e
    exact ⟨ob, h1, h2.2.1⟩
  · obtain ⟨_, _, xs, _, ob, _, _, h1, h2, _⟩ := dt_rd I.hok e
    exact ⟨ob, h1, h2.2.1⟩

/-- d[y] -/
def tDGet (td ty : TE) : TE := fun σ H Q => td σ H fun x H1 => ty σ H1 fun y H2 => ∃ a v, x = .ref a ∧ DGet H2 a y (some v) ∧ Q v H2
/-- y in d, y not in d -/
def tDIn (ty td : TE) : TE := fun σ H Q => ty σ H fun y H1 => td σ H1 fun x H2 => ∃ a o, x = .ref a ∧ DGet H2 a y o ∧ Q (.bl o.isSome) H2
def tDNotIn (ty td : TE) : TE := fun σ H Q => ty σ H fun y H1 => td σ H1 fun x H2 => ∃ a o, x = .ref a ∧ DGet H2 a y o ∧ Q (.bl (!o.isSome)) H2
/-- d[y] = v -/
def sDPut (td ty tv : TE) : TS := fun D σ H => tv σ H fun v H1 => td σ H1 fun x H2 => ty σ H2 fun y H3 => ∃ a H4, x = .ref a ∧ DPut H3 a y v H4 ∧ D.nx σ H4
/-- d[y] op= v -/
def sDAug (td ty tv : TE) (rd : V → V → Hp → VK → Prop) : TS := fun D σ H => td σ H fun x H1 => ty σ H1 fun y H2 => ∃ a v, x = .ref a ∧ DGet H2 a y (some v) ∧
  tv σ H2 fun y2 H3 => rd v y2 H3 fun z H4 => ∃ H5, DPut H4 a y z H5 ∧ D.nx σ H5
/-- del d[y] -/
def sDDel (td ty : TE) : TS := fun D σ H => td σ H fun x H1 => ty σ H1 fun y H2 => ∃ a kvs k, x = .ref a ∧ H2 a = some (.dK kvs) ∧ y = kV k ∧ (valV kvs k).isSome = true ∧ D.nx σ (upd H2 a (.dK (dropK kvs k)))

section
variable {X : Cx} {o i e value : Expr} {pos pos' tpos : Pos} {td ty tv : TE}
theorem pe_dget (hu : X.A.units + 1 < cLine) (ho : PE X o td) (hi : PE X i ty) (hs : NoSl i) : PE X (.Subscript o i pos) (tDGet td ty) := by
  intro pins s σ H Q I h
  refine subD_of PySem.F.slot_dict_getitem.lookup hs (thn (ho pins s σ H _ I h) fun u s1 ⟨x, H1, I1, rx, q1⟩ => thn (hi pins s1 σ H1 _ I1 q1) fun iv s2 ⟨y, H2, I2, ry, a, v, ex, g, q2⟩ => ?_)
  subst ex
  obtain rfl : u = Value.ref a := rx
  exact ⟨dict_typeIs I2 g, d_getItem hu I2 g ry fun w' s3 I3 rw' => ⟨v, H2, I3, rw', q2⟩⟩
theorem pc_din (hu : X.A.units + 1 < cLine) (hi : PE X i ty) (ho : PE X o td) : PC X .In i o (tDIn ty td) := by
  intro pins s σ H Q I h
  refine thn (hi pins s σ H _ I h) fun iv s1 ⟨y, H1, I1, ry, q1⟩ => thn (ho pins s1 σ H1 _ I1 q1) fun u s2 ⟨x, H2, I2, rx, a, ov, ex, g, q2⟩ => ?_
  subst ex
  obtain rfl : u = Value.ref a := rx
  exact d_in hu I2 g ry fun s3 I3 => ⟨.bl ov.isSome, H2, I3, rfl, q2⟩
theorem pc_dnotin (hu : X.A.units + 1 < cLine) (hi : PE X i ty) (ho : PE X o td) : PC X .NotIn i o (tDNotIn ty td) := by
  intro pins s σ H Q I h
  refine thn (hi pins s σ H _ I h) fun iv s1 ⟨y, H1, I1, ry, q1⟩ => thn (ho pins s1 σ H1 _ I1 q1) fun u s2 ⟨x, H2, I2, rx, a, ov, ex, g, q2⟩ => ?_
  subst ex
  obtain rfl : u = Value.ref a := rx
  exact d_notIn hu I2 g ry fun s3 I3 => ⟨.bl (!ov.isSome), H2, I3, rfl, q2⟩
theorem ps_dput (hu : X.A.units + 1 < cLine) (ho : PE X o td) (hi : PE X i ty) (hv : PE X value tv) (hs : swapsWith value (some (.Subscript o i pos')) pos.line X.env = pure false) :
    PS X (.Assign [.Subscript o i pos'] value pos) (sDPut td ty tv) := by
  intro pins s σ H D I h
  refine wpAny_Assign_Subscript (thn (hv pins s σ H _ I h) fun r s1 ⟨v, H1, I1, rv, q1⟩ => thn (ho pins s1 σ H1 _ I1 q1) fun u s2 ⟨x, H2, I2, rx, q2⟩ => thn (hi pins s2 σ H2 _ I2 q2) fun iv s3 ⟨y, H3, I3, ry, a, H4, ex, g, q3⟩ => ?_) hs
  subst ex
  obtain rfl : u = Value.ref a := rx
  exact d_setItem hu I3 g ry rv fun s4 I4 => ⟨σ, H4, I4, q3⟩
theorem ps_daug {op : Operator} {rd : V → V → Hp → VK → Prop} (hu : X.A.units + 1 < cLine) (ho : PE X o td) (hi : PE X i ty) (hv : PE X value tv) (hop : InOp X op rd)
    (ha : ∀ ov iv new, augStore i ov iv new = (do holding [new, ov, iv] (setItem ov iv new); release [new, ov, iv] []; pure .next)) : PS X (.AugAssign (.Subscript o i tpos) op value pos) (sDAug td ty tv rd) := by
  intro pins s σ H D I h
  refine wpAny_AugAssign_SubscriptAny (thn (ho pins s σ H _ I h) fun u s1 ⟨x, H1, I1, rx, q1⟩ => thn (hi pins s1 σ H1 _ I1 q1) fun iv s2 ⟨y, H2, I2, ry, a, v, ex, g, q2⟩ => ?_) ha
  subst ex
  obtain rfl : u = Value.ref a := rx
  refine d_getItem hu I2 g ry fun w' s3 I3 rw' => thn (hv pins s3 σ H2 _ I3 q2) fun w2 s4 ⟨y2, H3, I4, ry2, q3⟩ => thn (hop pins s4 σ H3 v y2 w' w2 _ I4 rw' ry2 q3) fun w3 s5 ⟨z, H4, I5, rz, H5, g5, q4⟩ => ?_
  exact d_setItem hu I5 g5 ry rz fun s6 I6 => ⟨σ, H5, I6, q4⟩
theorem ps_ddel (ho : PE X o td) (hi : PE X i ty) : PS X (.Delete [.Subscript o i tpos] pos) (sDDel td ty) := by
  intro pins s σ H D I h
  refine wpAny_Delete (wpAny_deleteEach_cons (wpAny_delete_Subscript (thn (ho pins s σ H _ I h) fun u s1 ⟨x, H1, I1, rx, q1⟩ => thn (hi pins s1 σ H1 _ I1 q1) fun iv s2 ⟨y, H2, I2, ry, a, kvs, k, ex, e, ey, l, q2⟩ => ?_)))
  subst ex ey
  obtain rfl : u = Value.ref a := rx
  exact d_delItem I2 e ry l fun s3 I3 => wpAny_deleteEach_nil ⟨σ, _, I3, q2⟩
end


/-! ### displays -/
theorem dk_empty {P : Program} {w : World} {H : Hp} (h : Heap) (hb : sysModules < h.objs.size) : ObjOk P w H (h.push { cls := .type "dict", data := .dict #[] }) h.objs.size (.dK []) :=
  ⟨Nat.zero_le _, beq_eq_false_iff_ne.mpr (Ne.symm (Nat.ne_of_lt hb)), [], .nil, Heap.DictOf.new h⟩
theorem dt_empty {P : Program} {w : World} {H : Hp} (h : Heap) (hb : sysModules < h.objs.size) : ObjOk P w H (h.push { cls := .type "dict", data := .dict #[] }) h.objs.size (.dT []) :=
  ⟨Nat.zero_le _, beq_eq_false_iff_ne.mpr (Ne.symm (Nat.ne_of_lt hb)), [], .nil, _, #[], 0, Heap.get?_push_size _ rfl, ⟨rfl, rfl, rfl⟩, rfl, rfl, List.nodup_nil⟩
/-- {}, to be a dict of the kind that is wanted -/
def tDNewK : TE := fun _ H Q => ∀ p, H p = none → Q (.ref p) (upd H p (.dK []))
def tDNewT : TE := fun _ H Q => ∀ p, H p = none → Q (.ref p) (upd H p (.dT []))
section
variable {X : Cx} {pos : Pos}
theorem pe_dnewK : PE X (.Dict [] [] pos) tDNewK := fun pins s σ H Q I h =>
  wpAny_Dict_empty ⟨.ref s.heap.objs.size, _, I.laid (a := s.heap.objs.size) (o := .dK []) (t' := s.toks) (fun _ _ q => Heap.get?_push_of_some _ q) (Nat.le_refl _) (dk_empty s.heap I.big), rfl, h _ (I.hok.fresh (Nat.le_refl _))⟩
theorem pe_dnewT : PE X (.Dict [] [] pos) tDNewT := fun pins s σ H Q I h =>
  wpAny_Dict_empty ⟨.ref s.heap.objs.size, _, I.laid (a := s.heap.objs.size) (o := .dT []) (t' := s.toks) (fun _ _ q => Heap.get?_push_of_some _ q) (Nat.le_refl _) (dt_empty s.heap I.big), rfl, h _ (I.hok.fresh (Nat.le_refl _))⟩
end

/-- the pairs of a display, from the left -/
def tPairs : List (TE × TE) → St → Hp → (List (V × V) → Hp → Prop) → Prop
  | [], _, H, Q => Q [] H
  | (tk, tv) :: r, σ, H, Q => tk σ H fun x H1 => tv σ H1 fun y H2 => tPairs r σ H2 fun ps H3 => Q ((x, y) :: ps) H3
abbrev VV : List (V × V) → List (Value × Value) → Prop := Paired fun p q => RelV p.1 q.1 ∧ RelV p.2 q.2
def PPs (X : Cx) (pos : Pos) (keys : List (Option Expr)) (values : List Expr) (trs : List (TE × TE)) : Prop :=
  ∀ (pins : List (Addr × Obj)) (s : Shared) (σ : St) (H : Hp) (Q : List (V × V) → Hp → Prop), Inv X pins σ H s → tPairs trs σ H Q →
    wpAny (model X.prog X.w) X.A (evalPairs (pairTrees keys values X.env pos)) (fun vs s' => ∃ ps H', Inv X pins σ H' s' ∧ VV ps vs ∧ Q ps H') X.xe s
theorem pps_nil {X : Cx} {pos : Pos} : PPs X pos [] [] [] := fun pins s σ H Q I h => pairTrees_nil_walk ⟨[], H, I, .nil, h⟩
theorem pps_cons {X : Cx} {pos : Pos} {k v : Expr} {ks : List (Option Expr)} {vs : List Expr} {tk tv : TE} {trs : List (TE × TE)} (hk : PE X k tk) (hv : PE X v tv) (hr : PPs X pos ks vs trs) :
    PPs X pos (some k :: ks) (v :: vs) ((tk, tv) :: trs) := fun pins s σ H Q I h =>
  pairTrees_cons_walk (thn (hk pins s σ H _ I h) fun u s1 ⟨x, H1, I1, rx, q1⟩ => thn (hv pins s1 σ H1 _ I1 q1) fun w2 s2 ⟨y, H2, I2, ry, q2⟩ =>
    thn (hr pins s2 σ H2 _ I2 q2) fun ws s3 ⟨ps, H3, I3, rel, q3⟩ => ⟨(x, y) :: ps, H3, I3, .cons ⟨rx, ry⟩ rel, q3⟩)

def mergeK (kvs more : List (Key × V)) : List (Key × V) := more.foldl (fun acc kv => putK acc kv.1 kv.2) kvs
theorem KV.merge : ∀ {more : List (Key × V)} {rs : List (Key × Value)} {kvs : List (Key × V)} {vs : List (Key × Value)}, KV more rs → KV kvs vs → KV (mergeK kvs more) (merged vs rs) := by
  intro more rs kvs vs r
  unfold KV at r
  induction r generalizing kvs vs with
  | nil => intro q; exact q
  | @cons p q ps qs h t ih =>
    intro r0
    have e : KV (putK kvs p.1 p.2) (stored vs q.1 q.2) := by
      have := r0.put p.1 h.2
      rw [← h.1]; exact this
    exact ih e
theorem length_mergeK : ∀ (more kvs : List (Key × V)), (mergeK kvs more).length ≤ kvs.length + more.length
  | [], kvs => by show kvs.length ≤ kvs.length + 0; omega
  | p :: r, kvs => by
    have h1 := length_mergeK r (putK kvs p.1 p.2)
    have h2 := length_putK kvs p.1 p.2
    show (mergeK (putK kvs p.1 p.2) r).length ≤ _
    rw [List.length_cons]; omega
theorem carries_of {P : Program} {w : World} : ∀ {kvs : List (Key × V)} {ws : List (Value × Value)}, VV (kvs.map fun kv => (kV kv.1, kv.2)) ws → ∃ rs, Carries (mixKind P w) ws rs ∧ KV kvs rs
  | [], _, r => by rw [List.map_nil] at r; cases r; exact ⟨[], True.intro, .nil⟩
  | p :: kvs, _, r => by
    rw [List.map_cons] at r
    cases r with
    | @cons a b as bs h t =>
      obtain ⟨rs, c, q⟩ := carries_of (P := P) (w := w) t
      obtain ⟨b1, b2⟩ := b
      exact ⟨(p.1, b2) :: rs, ⟨kV_is h.1, rfl, c⟩, .cons ⟨rfl, h.2⟩ q⟩
/-- {k: v, ..} with keys ints and texts; the new dict stands empty while the pairs are made -/
def tDisp (trs : List (TE × TE)) : TE := fun σ H Q => ∀ p, H p = none → tPairs trs σ (upd H p (.dK [])) fun ps H2 => H2 p = some (.dK []) ∧ ∃ kvs : List (Key × V), ps = kvs.map (fun kv => (kV kv.1, kv.2)) ∧ kvs.length ≤ 15 ∧ Q (.ref p) (upd H2 p (.dK (mergeK [] kvs)))
theorem pe_disp {X : Cx} {pos : Pos} {keys : List (Option Expr)} {values : List Expr} {trs : List (TE × TE)} (h : PPs X pos keys values trs) (hall : keys.all (·.isSome) = true) (hl : keys.length = values.length) (h0 : keys ≠ [])
    (h15 : keys.length ≤ 15) : PE X (.Dict keys values pos) (tDisp trs) := by
  intro pins s σ H Q I q
  have hn := I.hok.fresh (Nat.le_refl s.heap.objs.size)
  have I1 := I.laid (a := s.heap.objs.size) (o := .dK []) (h' := s.heap.push { cls := .type "dict", data := .dict #[] }) (t' := s.toks) (fun _ _ q => Heap.get?_push_of_some _ q) (Nat.le_refl _) (dk_empty s.heap I.big)
  refine wpAny_Dict_walk (knd := mixKind X.prog X.w) hall hl h0 h15 (thn (h pins _ σ _ _ I1 (q _ hn)) fun ws s2 ⟨ps, H2, I2, rel, e, kvs, ep, lk, q2⟩ => ?_)
  subst ep
  obtain ⟨rs, c, rk⟩ := carries_of (P := X.prog) (w := X.w) rel
  obtain ⟨z, hd, vs0, r0, dd⟩ := dk_of I2.hok e
  cases r0
  refine ⟨rs, c, dd, fun h' dd' hs => ⟨.ref s.heap.objs.size, _, ?_, rfl, q2⟩⟩
  have hz : (mergeK [] kvs).length ≤ sizeLine := by
    have h1 := length_mergeK kvs []
    rw [List.length_nil] at h1
    rw [sizeLine_eq]; omega
  have he : ∃ q, h'.get? s.heap.objs.size = some q := let ⟨q, _, _, hq, _⟩ := dd'; ⟨q, hq⟩
  exact d_write I2 (by rw [e]; exact True.intro) hs he (dk_new hz hd (rk.merge .nil) dd')


/-! ### methods -/
/-- a method call o.m(e) of a built-in, with one argument: what must be seen of the text -/
structure M1 (X : Cx) (o : Expr) (m : Str) (apos : Pos) (e : Expr) (cpos : Pos) : Prop where
  base : attributeBase o m X.env (eval o X.env) = eval o X.env
  few : ((backTo cpos (starEach [e] X.env)).all (fun x => !x.1) && (backToKw cpos (keywordEach [] X.env)).all (fun x => x.1.isSome)
    && decide (([e] : List Expr).length + ([] : List Keyword).length + (if ([] : List Keyword).isEmpty then 0 else 1) < 30)) = true
  line : (apos.endLine == cpos.line) = true
  trees : backTo cpos (starEach [e] X.env) = [(false, eval e X.env)]
structure M2 (X : Cx) (o : Expr) (m : Str) (apos : Pos) (e f : Expr) (cpos : Pos) : Prop where
  base : attributeBase o m X.env (eval o X.env) = eval o X.env
  few : ((backTo cpos (starEach [e, f] X.env)).all (fun x => !x.1) && (backToKw cpos (keywordEach [] X.env)).all (fun x => x.1.isSome)
    && decide (([e, f] : List Expr).length + ([] : List Keyword).length + (if ([] : List Keyword).isEmpty then 0 else 1) < 30)) = true
  line : (apos.endLine == cpos.line) = true
  trees : backTo cpos (starEach [e, f] X.env) = [(false, eval e X.env), (false, eval f X.env)]

/-- a is a dict, whatever its keys -/
def IsDc (H : Hp) (a : Addr) : Prop := (∃ kvs, Rd H a (.dK kvs)) ∨ ∃ kvs, Rd H a (.dT kvs)
theorem isD_at {X : Cx} {pins : List (Addr × Obj)} {σ : St} {H : Hp} {s : Shared} {a : Addr} (I : Inv X pins σ H s) (d : IsDc H a) :
    s.TypeIs (.ref a) "dict" ∧ (∀ b, Value.ref a = .ref b → ∃ ob, s.heap.get? b = some ob ∧ ob.dict = none) ∧ (a == sysModules) = false := by
  rcases d with ⟨kvs, e⟩ | ⟨kvs, e⟩
  · obtain ⟨_, hd, vs, _, dd⟩ := dk_rd I.hok e
    refine ⟨dd.typeIs, fun b q => ?_, hd⟩
    cases q
    obtain ⟨ob, _, _, h1, h2, _⟩ := dd
    exact ⟨ob, h1, h2.2.1⟩
  · obtain ⟨_, hd, xs, _, dd⟩ := dt_rd I.hok e
    refine ⟨dd.typeIs, fun b q => ?_, hd⟩
    cases q
    obtain ⟨ob, _, _, h1, h2, _⟩ := dd
    exact ⟨ob, h1, h2.2.1⟩

section
variable {X : Cx} {pins : List (Addr × Obj)} {σ : St} {H : Hp} {s : Shared} {a : Addr} {y d : V} {u r : Value} {o : Option V} {A : Around} {E : Value → Shared → Prop}
/-- d.get(y) -/
theorem d_get1 {Q : Value → Shared → Prop} (hu : A.units + 1 < cLine) (I : Inv X pins σ H s) (g : DGet H a y o) (ry : RelV y u) (h : ∀ w' s', Inv X pins σ H s' → RelV (o.getD .non) w' → Q w' s') :
    wpAny (model X.prog X.w) A (call (.builtin "dict.get") [.ref a, u]) Q E s := by
  rcases g with ⟨kvs, k, e, ey, l⟩ | ⟨kvs, k, b, e, ey, eb, l⟩
  · subst ey
    obtain ⟨z, hd, vs, rel, dd⟩ := dk_rd I.hok e
    refine call_meetsIn PySem.F.slot_dict_get dd.typeIs PySem.F.entry_dict_get (PySem.F.args_dict_get_2 _ _) (meets_dict_get (mixKind X.prog X.w) a (kV_is ry) hd) ⟨_, dd.mapOf, h _ _ (I.tok _) ?_⟩
    rw [l]
    exact (rel.val k).getD rfl
  · subst ey
    cases (show u = Value.ref b from ry)
    obtain ⟨z, hd, xs, rel, dd⟩ := dt_rd I.hok e
    refine call_meetsIn PySem.F.slot_dict_get dd.typeIs PySem.F.entry_dict_get (PySem.F.args_dict_get_2 _ _) (meetsH_dict_get (tupleKind (mixKind X.prog X.w)) a b hd) ⟨tupleKind_room_in1 hu, k, xs, key_of I.hok eb, dd, h _ _ (I.tok _) ?_⟩
    rw [l]
    exact (rel.val k).getD rfl
/-- d.get(y, x) -/
theorem d_get2 {Q : Value → Shared → Prop} (hu : A.units + 1 < cLine) (I : Inv X pins σ H s) (g : DGet H a y o) (ry : RelV y u) (rd : RelV d r) (h : ∀ w' s', Inv X pins σ H s' → RelV (o.getD d) w' → Q w' s') :
    wpAny (model X.prog X.w) A (call (.builtin "dict.get") [.ref a, u, r]) Q E s := by
  rcases g with ⟨kvs, k, e, ey, l⟩ | ⟨kvs, k, b, e, ey, eb, l⟩
  · subst ey
    obtain ⟨z, hd, vs, rel, dd⟩ := dk_rd I.hok e
    refine call_meetsIn PySem.F.slot_dict_get dd.typeIs PySem.F.entry_dict_get (PySem.F.args_dict_get_3 _ _ _) (meets_dict_get_default (mixKind X.prog X.w) a (kV_is ry) hd r) ⟨_, dd.mapOf, h _ _ (I.tok _) ?_⟩
    rw [l]
    exact (rel.val k).getD rd
  · subst ey
    cases (show u = Value.ref b from ry)
    obtain ⟨z, hd, xs, rel, dd⟩ := dt_rd I.hok e
    refine call_meetsIn PySem.F.slot_dict_get dd.typeIs PySem.F.entry_dict_get (PySem.F.args_dict_get_3 _ _ _) (meetsH_dict_get_default (tupleKind (mixKind X.prog X.w)) a b hd r) ⟨tupleKind_room_in1 hu, k, xs, key_of I.hok eb, dd, h _ _ (I.tok _) ?_⟩
    rw [l]
    exact (rel.val k).getD rd
end

def tDGet1 (td ty : TE) : TE := fun σ H Q => td σ H fun x H1 => ∃ a, x = .ref a ∧ IsDc H1 a ∧ ty σ H1 fun y H2 => ∃ o, DGet H2 a y o ∧ Q (o.getD .non) H2
def tDGet2 (td ty tx : TE) : TE := fun σ H Q => td σ H fun x H1 => ∃ a, x = .ref a ∧ IsDc H1 a ∧ ty σ H1 fun y H2 => tx σ H2 fun z H3 => ∃ o, DGet H3 a y o ∧ Q (o.getD z) H3
/-- d.pop(k): there; d.pop(k, x): there or not -/
def tDPop1 (td ty : TE) : TE := fun σ H Q => td σ H fun x H1 => ∃ a, x = .ref a ∧ IsDc H1 a ∧ ty σ H1 fun y H2 => ∃ kvs k v, H2 a = some (.dK kvs) ∧ y = kV k ∧ valV kvs k = some v ∧ Q v (upd H2 a (.dK (dropK kvs k)))
def tDPop2 (td ty tx : TE) : TE := fun σ H Q => td σ H fun x H1 => ∃ a, x = .ref a ∧ IsDc H1 a ∧ ty σ H1 fun y H2 => tx σ H2 fun z H3 => ∃ kvs k, H3 a = some (.dK kvs) ∧ y = kV k ∧
  (∀ v, valV kvs k = some v → Q v (upd H3 a (.dK (dropK kvs k)))) ∧ (valV kvs k = none → Q z H3)
section
variable {X : Cx} {o e f : Expr} {apos cpos : Pos} {td ty tx : TE}
theorem pe_dget1 (hu : X.A.units + 1 < cLine) (ho : PE X o td) (he : PE X e ty) (m : M1 X o "get" apos e cpos) : PE X (.Call (.Attribute o "get" apos) [e] [] cpos) (tDGet1 td ty) := by
  intro pins s σ H Q I h
  refine wpAny_Call_method m.base m.few m.line PySem.F.plainAttrs_dict PySem.F.slot_dict_get PySem.F.type_dict_get (thn (ho pins s σ H _ I h) fun u s1 ⟨x, H1, I1, rx, a, ex, d, q1⟩ => ?_)
  subst ex
  obtain rfl : u = Value.ref a := rx
  obtain ⟨t1, t2, _⟩ := isD_at I1 d
  refine ⟨t1, t2, ?_⟩
  rw [m.trees]
  refine Calls.callWith_builtin rfl (Calls.evalArgs_plain (Calls.spliced_cons (thn (he pins s1 σ H1 _ I1 q1) fun iv s2 ⟨y, H2, I2, ry, ov, g, q2⟩ => Calls.spliced_nil ?_)))
  exact d_get1 hu I2 g ry fun w' s3 I3 rw' => ⟨_, H2, I3, rw', q2⟩
theorem pe_dget2 (hu : X.A.units + 1 < cLine) (ho : PE X o td) (he : PE X e ty) (hf : PE X f tx) (m : M2 X o "get" apos e f cpos) : PE X (.Call (.Attribute o "get" apos) [e, f] [] cpos) (tDGet2 td ty tx) := by
  intro pins s σ H Q I h
  refine wpAny_Call_method m.base m.few m.line PySem.F.plainAttrs_dict PySem.F.slot_dict_get PySem.F.type_dict_get (thn (ho pins s σ H _ I h) fun u s1 ⟨x, H1, I1, rx, a, ex, d, q1⟩ => ?_)
  subst ex
  obtain rfl : u = Value.ref a := rx
  obtain ⟨t1, t2, _⟩ := isD_at I1 d
  refine ⟨t1, t2, ?_⟩
  rw [m.trees]
  refine Calls.callWith_builtin rfl (Calls.evalArgs_plain (Calls.spliced_cons (thn (he pins s1 σ H1 _ I1 q1) fun iv s2 ⟨y, H2, I2, ry, q2⟩ =>
    Calls.spliced_cons (thn (hf pins s2 σ H2 _ I2 q2) fun fv s3 ⟨z, H3, I3, rz, ov, g, q3⟩ => Calls.spliced_nil ?_))))
  exact d_get2 hu I3 g ry rz fun w' s4 I4 rw' => ⟨_, H3, I4, rw', q3⟩
theorem pe_dpop1 (ho : PE X o td) (he : PE X e ty) (m : M1 X o "pop" apos e cpos) : PE X (.Call (.Attribute o "pop" apos) [e] [] cpos) (tDPop1 td ty) := by
  intro pins s σ H Q I h
  refine wpAny_Call_method m.base m.few m.line PySem.F.plainAttrs_dict PySem.F.slot_dict_pop PySem.F.type_dict_pop (thn (ho pins s σ H _ I h) fun u s1 ⟨x, H1, I1, rx, a, ex, d, q1⟩ => ?_)
  subst ex
  obtain rfl : u = Value.ref a := rx
  obtain ⟨t1, t2, _⟩ := isD_at I1 d
  refine ⟨t1, t2, ?_⟩
  rw [m.trees]
  refine Calls.callWith_builtin rfl (Calls.evalArgs_plain (Calls.spliced_cons (thn (he pins s1 σ H1 _ I1 q1) fun iv s2 ⟨y, H2, I2, ry, kvs, k, v, ea, ey, l, q2⟩ => Calls.spliced_nil ?_)))
  subst ey
  exact d_pop I2 ea ry l (.inl rfl) fun w' s3 I3 rw' => ⟨v, _, I3, rw', q2⟩
theorem pe_dpop2 (ho : PE X o td) (he : PE X e ty) (hf : PE X f tx) (m : M2 X o "pop" apos e f cpos) : PE X (.Call (.Attribute o "pop" apos) [e, f] [] cpos) (tDPop2 td ty tx) := by
  intro pins s σ H Q I h
  refine wpAny_Call_method m.base m.few m.line PySem.F.plainAttrs_dict PySem.F.slot_dict_pop PySem.F.type_dict_pop (thn (ho pins s σ H _ I h) fun u s1 ⟨x, H1, I1, rx, a, ex, d, q1⟩ => ?_)
  subst ex
  obtain rfl : u = Value.ref a := rx
  obtain ⟨t1, t2, _⟩ := isD_at I1 d
  refine ⟨t1, t2, ?_⟩
  rw [m.trees]
  refine Calls.callWith_builtin rfl (Calls.evalArgs_plain (Calls.spliced_cons (thn (he pins s1 σ H1 _ I1 q1) fun iv s2 ⟨y, H2, I2, ry, q2⟩ =>
    Calls.spliced_cons (thn (hf pins s2 σ H2 _ I2 q2) fun fv s3 ⟨z, H3, I3, rz, kvs, k, ea, ey, q3, q4⟩ => Calls.spliced_nil ?_))))
  subst ey
  cases l : valV kvs k with
  | some v => exact d_pop I3 ea ry l (.inr ⟨fv, rfl⟩) fun w' s4 I4 rw' => ⟨v, _, I4, rw', q3 v l⟩
  | none => exact d_popD I3 ea ry l fun s4 I4 => ⟨z, H3, I4, rz, q4 l⟩
end

/-! ### dict(d): a copy -/
section
variable {X : Cx} {pins : List (Addr × Obj)} {σ : St} {H : Hp} {s : Shared} {a : Addr} {kvs : List (Key × V)} {A : Around} {E : Value → Shared → Prop}
theorem d_copyOf {Q : Value → Shared → Prop} (I : Inv X pins σ H s) (e : Rd H a (.dK kvs)) (h : ∀ p s', H p = none → Inv X pins σ (upd H p (.dK kvs)) s' → Q (.ref p) s') : wpAny (model X.prog X.w) A (call (.type "dict") [.ref a]) Q E s := by
  obtain ⟨z, hd, vs, rel, dd⟩ := dk_rd I.hok e
  refine kt_call_dict hd dd (by rw [← rel.length]; exact z) fun h' dd' hs => ?_
  refine h _ _ (I.hok.fresh (Nat.le_refl _)) (I.laid (a := s.heap.objs.size) (o := .dK kvs) (t' := s.toks) (fun b q hq => ?_) (Nat.le_refl _) (dk_new z (beq_eq_false_iff_ne.mpr (Ne.symm (Nat.ne_of_lt I.big))) rel dd'))
  exact (hs.2 b (Nat.ne_of_lt (Heap.lt_size hq))).trans (Heap.get?_push_of_some _ hq)
end


section
variable {X : Cx} {pins : List (Addr × Obj)} {σ : St} {H : Hp} {s : Shared} {a : Addr} {y : V} {u : Value} {A : Around} {E : Value → Shared → Prop}
/-- d[y], not there: a KeyError -/
theorem d_missing {Q : Value → Shared → Prop} (hu : A.units + 1 < cLine) (hh : A.handled = none) (I : Inv X pins σ H s) (g : DGet H a y none) (ry : RelV y u)
    (h : ∀ h' e t', Heap.NewExc s.heap h' e "KeyError" → E (.ref e) { s with heap := h', toks := t' }) : wpAny (model X.prog X.w) A (getItem (.ref a) u) Q E s := by
  rcases g with ⟨kvs, k, e, ey, l⟩ | ⟨kvs, k, b, e, ey, eb, l⟩
  · subst ey
    obtain ⟨z, hd, vs, rel, dd⟩ := dk_rd I.hok e
    have hn : valueAt vs k = none := RelO.none_of (by rw [l]; exact rel.val k)
    exact wpAny_getItem_missing_of (kV_is ry) hd hh dd.mapOf hn fun h' ex ne => h h' ex _ ne
  · subst ey
    cases (show u = Value.ref b from ry)
    obtain ⟨z, hd, xs, rel, dd⟩ := dt_rd I.hok e
    have hn : (atKey xs k).map (·.2) = none := RelO.none_of (by rw [l]; exact rel.val k)
    exact wpAny_getItem_missing_heap (tupleKind_room_in1 hu) (key_of I.hok eb) hd hh dd (Option.map_eq_none_iff.mp hn) fun h' ex ne => h h' ex _ ne
end

/-! ### a dict's pairs: keys that differ -/
section
variable {κ : Type} [DecidableEq κ]
theorem valV_not {kvs : List (κ × V)} {k : κ} (h : valV kvs k = none) : ¬ k ∈ kvs.map (·.1) := by
  intro m
  obtain ⟨p, hp, e⟩ := List.mem_map.mp m
  have q : (kvs.any fun kv => decide (kv.1 = k)) = true := List.any_eq_true.mpr ⟨p, hp, decide_eq_true e⟩
  rw [valV_any, h] at q
  exact absurd q (by simp)
theorem valV_in {kvs : List (κ × V)} {k : κ} {v : V} (h : valV kvs k = some v) : k ∈ kvs.map (·.1) := by
  have q : (kvs.any fun kv => decide (kv.1 = k)) = true := by
    rw [valV_any, h]
    all_goals rfl
  obtain ⟨p, hp, e⟩ := List.any_eq_true.mp q
  exact List.mem_map.mpr ⟨p, hp, of_decide_eq_true e⟩
theorem nd_snoc : ∀ {l : List κ} {k : κ}, l.Nodup → ¬ k ∈ l → (l ++ [k]).Nodup
  | [], k, _, _ => by simp
  | a :: r, k, h, hk => by
    obtain ⟨h1, h2⟩ := List.nodup_cons.mp h
    show (a :: (r ++ [k])).Nodup
    refine List.nodup_cons.mpr ⟨fun m => ?_, nd_snoc h2 fun m => hk (List.mem_cons.mpr (Or.inr m))⟩
    rcases List.mem_append.mp m with q | q
    · exact h1 q
    · exact hk (List.mem_cons.mpr (Or.inl (List.mem_singleton.mp q).symm))
theorem nd_putK {kvs : List (κ × V)} {k : κ} (v : V) (hn : (kvs.map (·.1)).Nodup) (h : valV kvs k = none) : ((putK kvs k v).map (·.1)).Nodup := by
  rw [putK_new v h, List.map_append]
  exact nd_snoc hn (valV_not h)
theorem dropK_pos {p : κ × V} {r : List (κ × V)} {k : κ} (e : p.1 = k) : dropK (p :: r) k = dropK r k := by
  unfold dropK
  rw [List.filter_cons, if_neg (by simp [e])]
theorem dropK_neg {p : κ × V} {r : List (κ × V)} {k : κ} (e : ¬ p.1 = k) : dropK (p :: r) k = p :: dropK r k := by
  unfold dropK
  rw [List.filter_cons, if_pos (by simp [e])]
theorem dropK_no : ∀ {kvs : List (κ × V)} {k : κ}, ¬ k ∈ kvs.map (·.1) → dropK kvs k = kvs
  | [], _, _ => rfl
  | p :: r, k, h => by
    have h' : ¬ k ∈ r.map (·.1) := fun m => by
      obtain ⟨q, hq, e⟩ := List.mem_map.mp m
      exact h (List.mem_map.mpr ⟨q, List.mem_cons.mpr (Or.inr hq), e⟩)
    rw [dropK_neg fun e => h (List.mem_map.mpr ⟨p, List.mem_cons.mpr (Or.inl rfl), e⟩), dropK_no h']
theorem dropK_mem {kvs : List (κ × V)} {k : κ} {p : κ × V} (h : p ∈ dropK kvs k) : p ∈ kvs := (List.mem_filter.mp h).1
theorem nd_dropK : ∀ {kvs : List (κ × V)} {k : κ}, (kvs.map (·.1)).Nodup → ((dropK kvs k).map (·.1)).Nodup
  | [], _, _ => List.nodup_nil
  | p :: r, k, h => by
    have h : (p.1 :: r.map (·.1)).Nodup := h
    obtain ⟨h1, h2⟩ := List.nodup_cons.mp h
    by_cases e : p.1 = k
    · rw [dropK_pos e]
      exact nd_dropK h2
    · rw [dropK_neg e]
      show (p.1 :: (dropK r k).map (·.1)).Nodup
      refine List.nodup_cons.mpr ⟨fun m => h1 ?_, nd_dropK h2⟩
      obtain ⟨q, hq, eq⟩ := List.mem_map.mp m
      exact List.mem_map.mpr ⟨q, dropK_mem hq, eq⟩
theorem dropK_len : ∀ {kvs : List (κ × V)} {k : κ}, (kvs.map (·.1)).Nodup → k ∈ kvs.map (·.1) → (dropK kvs k).length + 1 = kvs.length
  | [], _, _, m => by simp at m
  | p :: r, k, h, m => by
    have h : (p.1 :: r.map (·.1)).Nodup := h
    have m : k = p.1 ∨ k ∈ r.map (·.1) := List.mem_cons.mp m
    obtain ⟨h1, h2⟩ := List.nodup_cons.mp h
    by_cases e : p.1 = k
    · subst e
      rw [dropK_pos rfl, dropK_no h1]
      all_goals rfl
    · have m' : k ∈ r.map (·.1) := m.resolve_left fun z => e z.symm
      have q := dropK_len h2 m'
      rw [dropK_neg e, List.length_cons, List.length_cons]
      omega
end
end L2

set_option Elab.async false
set_option linter.all false
set_option maxRecDepth 100000
set_option maxHeartbeats 1000000
namespace Hd
open PySem PySem.Spec PyProof.Rows
section
variable {prog : Program} {w : World} {K : Type} [DecidableEq K] {knd : HeapKind prog w K} {A : Around} {E : Value → Shared → Prop} {s : Shared} {d a : Addr} {k : K} {xs : List (K × Addr × Value)}
def withoutH (xs : List (K × Addr × Value)) (k : K) : List (K × Addr × Value) := xs.filter fun x => decide (x.1 ≠ k)
theorem eraseIdx_withoutH : ∀ {xs : List (K × Addr × Value)} {j : Nat} {p : Addr × Value}, (xs.map (·.1)).Nodup → xs[j]? = some (k, p) → xs.eraseIdx j = withoutH xs k
  | [], j, p, _, h => by simp at h
  | x :: r, 0, p, hn, h => by
    have hx : x = (k, p) := by simpa using h
    subst hx
    rw [List.map_cons, List.nodup_cons] at hn
    have hr : withoutH r k = r := by
      unfold withoutH
      rw [List.filter_eq_self]
      intro y hy
      have : y.1 ≠ k := fun e => hn.1 (List.mem_map.mpr ⟨y, hy, e⟩)
      simpa using this
    have h1 : withoutH ((k, p) :: r) k = withoutH r k := by unfold withoutH; rw [List.filter_cons, if_neg (by simp)]
    rw [h1, hr]; rfl
  | x :: r, j + 1, p, hn, h => by
    rw [List.map_cons, List.nodup_cons] at hn
    have hj : r[j]? = some (k, p) := by simpa using h
    have hne : x.1 ≠ k := fun e => hn.1 (List.mem_map.mpr ⟨(k, p), List.mem_of_getElem? hj, e.symm⟩)
    have h1 : withoutH (x :: r) k = x :: withoutH r k := by unfold withoutH; rw [List.filter_cons, if_pos (by simpa using hne)]
    rw [h1, List.eraseIdx_cons_succ, eraseIdx_withoutH hn.2 hj]
theorem map_erase {α β : Type} (f : α → β) : ∀ (l : List α) (j : Nat), (l.eraseIdx j).map f = (l.map f).eraseIdx j
  | [], _ => rfl
  | _ :: _, 0 => rfl
  | x :: r, j + 1 => by
    show f x :: (r.eraseIdx j).map f = f x :: (r.map f).eraseIdx j
    rw [map_erase f r j]
theorem withoutH_nodup (hn : (xs.map (·.1)).Nodup) : ((withoutH xs k).map (·.1)).Nodup := by
  unfold withoutH
  exact (List.filter_sublist.map _).nodup hn
/-- an entry goes -/
theorem wp_takeOutH {Q : Option DictEntry → Shared → Prop} (hu : knd.room A) (hkey : knd.is s.heap k a) (hm : s.heap.DictOfH knd d xs) {p : Addr × Value} (hp : atKey xs k = some p) (hsz : xs.length ≤ sizeLine)
    (h : ∀ (e : DictEntry) h', e.val = p.2 → h'.DictOfH knd d (withoutH xs k) → Heap.SameBut d s.heap h' → Q (some e) { s with heap := h', toks := s.toks + knd.draws k }) :
    wpAny (model prog w) A (Builtin.Dict.takeOut d (.ref a)) Q E s := by
  obtain ⟨o, es, ep, ho, hc, hdat, he, his, hn⟩ := hm
  have hes : es.size = xs.length := size_of_entries he
  unfold Builtin.Dict.takeOut
  try with_reducible refine wpAny_holding ?_
  refine wpAny_bind (knd.pyHash hu hkey (wpAny_bind (wpAny_dictFind_heap (s := { s with toks := s.toks + knd.draws k }) hu hkey ho hdat he his hn ?_ ?_)))
  · intro hno
    rw [atKey_none_of_get hno] at hp
    cases hp
  · intro j q hj
    have hq : q = p := by rw [atKey_of_get hn hj] at hp; exact Option.some.inj hp
    subst hq
    refine wpAny_bind (wpAny_dictEntries (s := { s with toks := s.toks + knd.draws k }) ho hdat ?_)
    have hej : es[j]? = some (entryOfKey knd (k, q)) := by rw [entry_at he j, hj]; rfl
    rw [hej]
    refine wpAny_bind (wpAny_updateDictKeys (s := { s with toks := s.toks + knd.draws k }) (hz := by omega) ho hdat (wpAny_pure ?_))
    refine h _ _ rfl ⟨_, _, ep + 1, Heap.get?_update_self _ ho (Obj.isFreed_of_dict (Obj.data_mapDictKeys hdat _)), hc.mapDictKeys _, Obj.data_mapDictKeys hdat _, ?_, fun x hx => ?_, withoutH_nodup hn⟩ (Heap.SameBut.update ..)
    · have hjl : j < es.size := by
        rcases Nat.lt_or_ge j es.size with z | z
        · exact z
        · rw [Array.getElem?_eq_none z] at hej; cases hej
      show (es.eraseIdxIfInBounds j).toList = _
      rw [← eraseIdx_withoutH hn hj, map_erase, ← he]
      obtain ⟨l⟩ := es
      simp only [Array.eraseIdxIfInBounds, hjl, dite_true]
      simp
    · exact knd.keeps (his x (List.mem_filter.mp hx).1) ho hdat (Heap.SameBut.update ..)
theorem meetsH_pop (hu : knd.room A.in1) (hkey : knd.is s.heap k a) (hm : s.heap.DictOfH knd d xs) {p : Addr × Value} (hp : atKey xs k = some p) (hsz : xs.length ≤ sizeLine) {Q : Value → Shared → Prop}
    (h : ∀ h', h'.DictOfH knd d (withoutH xs k) → Heap.SameBut d s.heap h' → Q p.2 { s with heap := h', toks := s.toks + knd.draws k }) :
    wpAny (model prog w) A (call (.builtin "dict.pop") [.ref d, .ref a]) Q E s := by
  refine wpAny_call_entry PySem.F.slot_dict_pop hm.typeIs PySem.F.entry_dict_pop ?_ (PySem.F.args_dict_pop_2 _ _)
  obtain ⟨o, es, ep, ho, hc, hdat, he, his, hn⟩ := id hm
  unfold Builtin.«dict.pop»
  refine wpAny_bind ?_
  unfold Builtin.Dict.keyAndDefault
  refine wpAny_bind (wpAny_notOrdered_dict hm.typeIs ?_)
  show wpAny _ _ (pure (d, Value.ref a, none)) _ _ s
  refine wpAny_pure ?_
  have hne : xs ≠ [] := by intro e; subst e; cases hp
  have hes : es.size = xs.length := size_of_entries he
  have hee : es.isEmpty = false := by
    have : 0 < xs.length := List.length_pos_iff.mpr hne
    rw [Array.isEmpty_eq_false_iff]
    intro e; subst e; simp at hes; omega
  simp only [show (keyPart (Value.ref a)).isSome = false from rfl, Bool.false_eq_true, if_false]
  refine wpAny_bind (wpAny_dictEntries ho hdat (wpAny_bind (wpAny_pure ?_)))
  rw [hee]
  simp only [Bool.false_eq_true, if_false]
  refine wpAny_bind (wp_takeOutH hu hkey hm hp hsz fun e h' hv hm' hs' => ?_)
  simp only [Option.isNone_some, Bool.false_eq_true, if_false]
  refine wpAny_bind (wpAny_letGo (wpAny_pure ⟨e.val, rfl, ?_⟩))
  rw [hv]
  exact h h' hm' hs'

theorem body_lenH {Q : Value → Shared → Prop} (hS : (d == sysModules) = false) (hm : s.heap.DictOfH knd d xs) (hz : xs.length ≤ sizeLine) (h : Q (.int xs.length (s.toks + 1)) { s with toks := s.toks + 1 + 1 }) :
    wpAny (model prog w) A (Builtin.«len» ⟨[.ref d], []⟩) (fun fin s' => ∃ r, fin = .done (.ret r) ∧ Q r s') E s := by
  obtain ⟨o, es, ep, ho, hc, hdat, he, his, hn⟩ := id hm
  have hes : es.size = xs.length := size_of_entries he
  have hL := sizeLine_eq
  unfold Builtin.«len»
  refine wpAny_bind (m := oneArg "len" _) (wpAny_pure ?_)
  refine wpAny_bind (m := callSpecial? (.ref d) (Str.ofString "__len__")) (wpAny_callSpecial?_slot (name := Str.ofString "__len__") hm.typeIs PySem.F.slot_dict_len
    (wpAny_call_entry PySem.F.slot_dict_len hm.typeIs PySem.F.entry_dict_len ?_ (PySem.F.args_dict_len_1 _)))
  show wpAny _ _ (dictSize d >>= _) _ _ s
  unfold dictSize
  refine wpAny_bind (wpAny_bind (wpAny_dictEntries ho hdat (wpAny_pure ?_)))
  show wpAny _ _ (Builtin.Dict.pendingCount d >>= _) _ _ s
  refine wpAny_bind (wpAny_pendingCount_other hS ?_)
  refine wpAny_ret_mkInt ?_
  show wpAny _ _ _ _ _ { s with toks := s.toks + 1 }
  rw [Nat.add_zero, hes]
  refine wpAny_bind (wpAny_holding (wpAny_pure (wpAny_bind (wpAny_letGo ?_))))
  show wpAny _ _ (if ((xs.length : Nat) : Int) < 0 then _ else _) _ _ _
  rw [if_neg (by omega)]
  show wpAny _ _ (if ((xs.length : Nat) : Int) ≥ 2 ^ 63 then _ else _) _ _ _
  rw [if_neg (by omega)]
  exact wpAny_bind (wpAny_mkInt (wpAny_pure ⟨_, rfl, h⟩))
theorem call_lenH {Q : Value → Shared → Prop} (hS : (d == sysModules) = false) (hm : s.heap.DictOfH knd d xs) (hz : xs.length ≤ sizeLine) (h : Q (.int xs.length (s.toks + 1)) { s with toks := s.toks + 1 + 1 }) :
    wpAny (model prog w) A (call (.builtin "len") [.ref d]) Q E s := Calls.call_function_entry kind_len plain_len entry_len (args_len1 _) (body_lenH hS hm hz h)
/-- d.clear() -/
theorem call_clearH {Q : Value → Shared → Prop} (hm : s.heap.DictOfH knd d xs) (hz : xs.length ≤ sizeLine) (h : ∀ h', h'.DictOfH knd d [] → Heap.SameBut d s.heap h' → Q .none { s with heap := h' }) :
    wpAny (model prog w) A (call (.builtin "dict.clear") [.ref d]) Q E s := by
  refine wpAny_call_entry PySem.F.slot_dict_clear hm.typeIs PySem.F.entry_dict_clear ?_ (PySem.F.args_dict_clear_1 _)
  obtain ⟨o, es, ep, ho, hc, hdat, he, his, hn⟩ := id hm
  have hes : es.size = xs.length := size_of_entries he
  unfold Builtin.«dict.clear»
  refine wpAny_bind ?_
  unfold Builtin.Dict.noArgs
  refine wpAny_bind (wpAny_notOrdered_dict hm.typeIs ?_)
  show wpAny _ _ (pure d) _ _ s
  refine wpAny_pure (wpAny_bind (wpAny_dictEntries ho hdat (wpAny_bind ?_)))
  unfold bearsInstanceDictMark
  refine wpAny_bind (wpAny_load ho (wpAny_pure (wpAny_bind (wpAny_updateDictKeys (hz := by omega) ho hdat ?_))))
  have hnew : (s.heap.update d (Obj.mapDictKeys fun _ => #[])).DictOfH knd d [] :=
    ⟨_, _, ep + 1, Heap.get?_update_self _ ho (Obj.isFreed_of_dict (Obj.data_mapDictKeys hdat _)), hc.mapDictKeys _, Obj.data_mapDictKeys hdat _, rfl, (fun _ hx => nomatch hx), List.nodup_nil⟩
  split
  · exact wpAny_bind (wpAny_letGo (wpAny_pure ⟨.none, rfl, h _ hnew (Heap.SameBut.update ..)⟩))
  · exact wpAny_bind (wpAny_pure (wpAny_pure ⟨.none, rfl, h _ hnew (Heap.SameBut.update ..)⟩))
/-- a new key with its known hash -/
theorem wp_setHashedH {v : Value} {Q : Unit → Shared → Prop} (hu : knd.room A) (hkey : knd.is s.heap k a) (hm : s.heap.DictOfH knd d xs) (hz : xs.length ≤ sizeLine) (hno : k ∉ xs.map (·.1))
    (h : ∀ h', h'.DictOfH knd d (xs ++ [(k, a, v)]) → Heap.SameBut d s.heap h' → Q () { s with heap := h' }) : wpAny (model prog w) A (dictSetHashed d (.ref a) (knd.hash k) v) Q E s := by
  obtain ⟨o, es, ep, ho, hc, hdat, he, his, hn⟩ := hm
  have hes : es.size = xs.length := size_of_entries he
  unfold dictSetHashed
  try with_reducible refine wpAny_holding ?_
  refine wpAny_bind (wpAny_dictFind_heap hu hkey ho hdat he his hn ?_ ?_)
  · intro _
    refine wpAny_bind (wpAny_rule (wpAny_updateDictKeys (hz := by omega) ho hdat (h _ ⟨_, _, ep + 1, Heap.get?_update_self _ ho (Obj.isFreed_of_dict (Obj.data_mapDictKeys hdat _)), hc.mapDictKeys _, Obj.data_mapDictKeys hdat _, ?_, fun x hx => ?_, ?_⟩ (Heap.SameBut.update ..))))
    · simp [he, entryOfKey]
    · rcases List.mem_append.mp hx with hx | hx
      · exact knd.keeps (his x hx) ho hdat (Heap.SameBut.update ..)
      · rw [List.mem_singleton.mp hx]
        exact knd.keeps hkey ho hdat (Heap.SameBut.update ..)
    · rw [List.map_append, List.nodup_append]
      refine ⟨hn, by simp, fun x hx y hy => ?_⟩
      rw [List.mem_singleton.mp (show y ∈ [k] from hy)]
      exact fun e => hno (e ▸ hx)
  · intro j p hj
    exact absurd (List.mem_map.mpr ⟨(k, p), List.mem_of_getElem? hj, rfl⟩) hno
theorem DictOfH_push (hm : s.heap.DictOfH knd d xs) (hk : ∀ {h h' : Heap} {k : K} {a : Addr}, knd.is h k a → (∀ b o, h.get? b = some o → h'.get? b = some o) → knd.is h' k a) (o : Obj) : (s.heap.push o).DictOfH knd d xs := by
  obtain ⟨o', es, ep, ho, hc, hdat, he, his, hn⟩ := hm
  exact ⟨o', es, ep, Heap.get?_push_of_some _ ho, hc, hdat, he, fun x hx => hk (his x hx) fun b q hq => Heap.get?_push_of_some _ hq, hn⟩
theorem wp_quietTup {a : Addr} {Q : Bool → Shared → Prop} (hT : s.TypeIs (.ref a) "tuple") (h : Q false s) : wpAny (model prog w) A (Builtin.Dict.quietEq (.ref a)) Q E s := by
  unfold Builtin.Dict.quietEq
  refine wpAny_bind (wpAny_specialOf hT PySem.F.slot_tuple_eq.lookup (wpAny_pure ?_))
  have e : (some (Value.builtin "tuple.__eq__") == some (Value.builtin "object.__eq__")) = false := by decide
  rw [e]; exact h
/-- one entry at most: nothing can collide -/
theorem wp_entries1 {id : String} {o : Obj} {es : Array DictEntry} {ep : Nat} {Q : Array DictEntry → Shared → Prop} (ho : s.heap.get? d = some o) (hd : o.data = .dict es ep) (he : es.toList = xs.map (entryOfKey knd)) (h1 : xs.length ≤ 1) (hT : ∀ x ∈ xs, s.TypeIs (.ref x.2.1) "tuple") (h : Q es s) :
    wpAny (model prog w) A (Builtin.Dict.entriesForEmpty id d) Q E s := by
  have hsz : es.size ≤ 1 := by rw [size_of_entries he]; exact h1
  unfold Builtin.Dict.entriesForEmpty
  refine wpAny_bind (wpAny_dictEntries ho hd (wpAny_bind ?_))
  rw [← Array.forIn_toList, he]
  cases xs with
  | nil => rw [List.map_nil, List.forIn_nil]; exact wpAny_pure (wpAny_pure h)
  | cons x rest =>
  cases rest with
  | cons _ _ => simp at h1
  | nil =>
    rw [List.map_cons, List.map_nil, List.forIn_cons]
    refine wpAny_bind (wpAny_bind (wp_quietTup (hT x (.head _)) ?_))
    have hf : ¬ (es.filter fun y => y.hash == (entryOfKey knd x).hash).size > 1 := by
      have := Array.size_filter_le (p := fun y => y.hash == (entryOfKey knd x).hash) (xs := es)
      omega
    rw [if_pos (show (!false) = true from rfl), if_neg hf]
    refine wpAny_pure ?_
    dsimp only
    rw [List.forIn_nil]
    exact wpAny_pure (wpAny_pure h)
theorem wp_merge1 {nm : String} {o : Addr} {Q : Unit → Shared → Prop} (hdo : d ≠ o) (hS : (o == sysModules) = false) (hd : s.heap.DictOfH knd d []) (ho : s.heap.DictOfH knd o xs) (h1 : xs.length = 1) (hT : ∀ x ∈ xs, s.TypeIs (.ref x.2.1) "tuple")
    (h : ∀ h', h'.DictOfH knd d xs → Heap.SameBut d s.heap h' → Q () { s with heap := h' }) : wpAny (model prog w) A (Builtin.Dict.mergeDict nm d o) Q E s := by
  obtain ⟨od, esd, epd, hod, hcd, hdd, hed, _, _⟩ := id hd
  obtain ⟨oo, es, ep, hoo, hco, hdat, he, his, hn⟩ := id ho
  have hes : es.size = xs.length := size_of_entries he
  have hesd : esd.size = 0 := size_of_entries hed
  have hL := sizeLine_eq
  unfold Builtin.Dict.mergeDict
  rw [if_neg (by simpa using hdo)]
  unfold Builtin.Dict.showsAll
  rw [if_neg (by rw [hS]; exact Bool.false_ne_true)]
  refine wpAny_bind (wpAny_pure (wpAny_bind (wpAny_dictEntries hoo hdat ?_)))
  have hfew : (decide (es.size ≤ 8) && es.all fun e => (keyPart e.key).isSome) = false := by
    obtain ⟨x, hx⟩ : ∃ x, xs = [x] := List.length_eq_one_iff.mp h1
    subst hx
    have : es = #[entryOfKey knd x] := by
      apply Array.toList_inj.mp
      rw [he]; rfl
    rw [this]
    simp [entryOfKey, keyPart]
  dsimp only
  rw [hfew]
  rw [if_pos (show (!false) = true from rfl)]
  refine wpAny_bind (wpAny_dictEntries hod hdd ?_)
  rw [if_pos (by rw [Array.isEmpty_iff]; exact Array.eq_empty_of_size_eq_zero hesd)]
  refine wpAny_bind (wp_entries1 hoo hdat he (by omega) hT ?_)
  have hne : (!es.isEmpty) = true := by
    rw [Bool.not_eq_true', Array.isEmpty_eq_false_iff]
    intro e; rw [e] at hes; simp at hes; omega
  rw [if_pos hne]
  refine wpAny_bind (wpAny_updateDictKeysTo hod hdd (wpAny_pure (h _ ⟨_, _, epd + 1, Heap.get?_update_self _ hod (Obj.isFreed_of_dict (Obj.data_mapDictKeys hdd _)), hcd.mapDictKeys _, Obj.data_mapDictKeys hdd _, he, fun x hx => ?_, hn⟩ (Heap.SameBut.update ..))) (by omega))
  exact knd.keeps (his x hx) hod hdd (Heap.SameBut.update ..)
/-- dict(d) of one entry -/
theorem call_copy1 {Q : Value → Shared → Prop} (hS : (d == sysModules) = false) (hm : s.heap.DictOfH knd d xs) (hk : ∀ {h h' : Heap} {k : K} {a : Addr}, knd.is h k a → (∀ b o, h.get? b = some o → h'.get? b = some o) → knd.is h' k a) (h1 : xs.length = 1)
    (hT : ∀ x ∈ xs, s.TypeIs (.ref x.2.1) "tuple") (h : ∀ h', h'.DictOfH knd s.heap.objs.size xs → Heap.SameBut s.heap.objs.size (s.heap.push { cls := .type "dict", data := .dict #[] }) h' → Q (.ref s.heap.objs.size) { s with heap := h' }) :
    wpAny (model prog w) A (call (.type "dict") [.ref d]) Q E s := by
  refine callType_codes (Q₁ := fun obj s₁ => obj = .ref s.heap.objs.size ∧ s₁ = { s with heap := s.heap.push { cls := .type "dict", data := .dict #[] } }) PySem.F.kt_called_dict (PySem.F.kt_typeCall_dict_1 _) PySem.F.entry_dict_init (kt_code_dict_new _ ⟨rfl, rfl⟩) ?_
  rintro obj s₁ ⟨rfl, rfl⟩
  have hnew : (s.heap.push { cls := .type "dict", data := .dict #[] }).DictOfH knd s.heap.objs.size [] := Heap.DictOfH.new s.heap
  have hm' := DictOfH_push hm hk { cls := .type "dict", data := .dict #[] }
  have hdo : s.heap.objs.size ≠ d := by
    obtain ⟨_, _, _, hg, _⟩ := hm
    exact fun e => absurd (Heap.lt_size hg) (by rw [e]; exact Nat.lt_irrefl _)
  have hT' : ∀ x ∈ xs, ({ s with heap := s.heap.push { cls := .type "dict", data := .dict #[] } } : Shared).TypeIs (.ref x.2.1) "tuple" := fun x hx => by
    obtain ⟨o, e, c⟩ := hT x hx
    exact ⟨o, Heap.get?_push_of_some _ e, c⟩
  refine ⟨hnew.typeIs, PySem.F.args_dict_init_2 _ _, ?_⟩
  unfold Builtin.«dict.__init__»
  refine wpAny_bind ?_
  unfold Builtin.Dict.selfAndRest
  refine wpAny_bind (wpAny_notOrdered_dict hnew.typeIs ?_)
  show wpAny _ _ (pure (s.heap.objs.size, [Value.ref d])) _ _ _
  refine wpAny_pure ?_
  show wpAny _ _ (Builtin.Dict.updateFrom "dict.__init__" s.heap.objs.size (.ref d) [] .none) _ _ _
  unfold Builtin.Dict.updateFrom
  refine wpAny_bind (wpAny_typeOf hm'.typeIs ?_)
  rw [if_neg (by decide)]
  refine wpAny_bind ?_
  unfold Builtin.Dict.merge
  refine wpAny_bind ?_
  unfold Builtin.Dict.readDirectly
  refine wpAny_bind (wpAny_isInstance hm'.typeIs isSubtype_dict_dict ?_)
  simp only [Bool.not_true, Bool.false_eq_true, if_false]
  refine wpAny_bind (wpAny_specialOf hm'.typeIs PySem.F.slot_dict_iter.lookup (wpAny_pure ?_))
  simp only [beq_self_eq_true, if_true]
  refine wpAny_bind (wpAny_pure ?_)
  refine wp_merge1 hdo hS hnew hm' h1 hT' fun h' hd' hs' => ?_
  show wpAny _ _ (Builtin.Dict.addKeywords s.heap.objs.size [] >>= _) _ _ _
  exact wpAny_bind (wpAny_pure (wpAny_pure ⟨rfl, h h' hd' hs'⟩))
/-- two dicts of one entry each, with one key -/
theorem wp_same1 {nm : String} {e : Addr} {b c : Addr} {v u : Value} {r : Bool} {Q : Bool → Shared → Prop} (hu : knd.room A) (hS : (d == sysModules) = false) (hS' : (e == sysModules) = false) (hm : s.heap.DictOfH knd d [(k, b, v)]) (hm' : s.heap.DictOfH knd e [(k, c, u)]) (he : SeqAt.EqAt A s v u r)
    (h : Q r s) : wpAny (model prog w) A (Builtin.Dict.samePairs nm d e) Q E s := by
  obtain ⟨o1, es1, ep1, ho1, _, hd1, he1, his1, hn1⟩ := id hm
  obtain ⟨o2, es2, ep2, ho2, _, hd2, he2, his2, hn2⟩ := id hm'
  have e1 : es1 = #[entryOfKey knd (k, b, v)] := Array.toList_inj.mp (by rw [he1]; rfl)
  have e2 : es2 = #[entryOfKey knd (k, c, u)] := Array.toList_inj.mp (by rw [he2]; rfl)
  subst e1 e2
  unfold Builtin.Dict.samePairs Builtin.Dict.showsAll
  rw [if_neg (show ¬ (d == sysModules) = true by rw [hS]; exact Bool.false_ne_true), if_neg (show ¬ (e == sysModules) = true by rw [hS']; exact Bool.false_ne_true)]
  refine wpAny_bind (wpAny_pure (wpAny_bind (wpAny_pure (wpAny_bind (wpAny_dictEntries ho1 hd1 ?_)))))
  dsimp only
  refine wpAny_bind (wpAny_dictEntries ho2 hd2 ?_)
  rw [if_neg (by simp)]
  refine wpAny_bind (wpAny_dictEpoch ho1 hd1 (wpAny_bind ?_))
  rw [Std.Legacy.Range.forIn_eq_forIn_range']
  simp only [Std.Legacy.Range.size, Nat.sub_zero, Nat.add_sub_cancel, Nat.div_one]
  show wpAny _ _ (forIn (List.range' 0 1) _ _) _ _ _
  rw [show List.range' 0 1 = [0] from rfl, List.forIn_cons]
  refine wpAny_bind (wpAny_bind (wpAny_dictEntries ho1 hd1 ?_))
  show wpAny _ _ (holding [_, _] _ >>= _) _ _ _
  refine wpAny_bind (wpAny_holding (wpAny_bind (wpAny_dictFind_heap hu (his1 _ (.head _)) ho2 hd2 he2 his2 hn2 ?_ ?_)))
  · intro hno
    exact absurd rfl (hno 0 (c, u))
  · intro j p hj
    have hj0 : j = 0 ∧ p = (c, u) := by
      cases j with
      | zero => simp at hj; exact ⟨rfl, hj.symm⟩
      | succ j => simp at hj
    obtain ⟨rfl, rfl⟩ := hj0
    refine wpAny_bind (wpAny_dictEntries ho2 hd2 ?_)
    show wpAny _ _ (holding _ (eqBool v u)) _ _ _
    refine wpAny_holding (he prog w _ _ ?_)
    cases r with
    | false =>
      show wpAny _ _ (if (!false) = true then _ else _) _ _ _
      rw [if_pos (by decide)]
      exact wpAny_pure (wpAny_pure (wpAny_pure h))
    | true =>
      show wpAny _ _ (if (!true) = true then _ else _) _ _ _
      rw [if_neg (by decide)]
      refine wpAny_bind (wpAny_dictEpoch ho1 hd1 ?_)
      rw [if_neg (by simp)]
      refine wpAny_pure ?_
      dsimp only
      rw [List.forIn_nil]
      exact wpAny_pure (wpAny_pure h)
theorem eq1 {e : Addr} {b c : Addr} {v u : Value} {r : Bool} {Q : Value → Shared → Prop} (hu : knd.room A.in1) (hc : A.units < cLine) (hS : (d == sysModules) = false) (hS' : (e == sysModules) = false) (hm : s.heap.DictOfH knd d [(k, b, v)]) (hm' : s.heap.DictOfH knd e [(k, c, u)]) (he : SeqAt.EqAt A.in1 s v u r)
    (h : Q (.bool r) s) : wpAny (model prog w) A (compareOp .Eq (.ref d) (.ref e)) Q E s := by
  refine wpAny_richCompare_same_room (op := .Eq) hm.typeIs hm'.typeIs PySem.F.slot_dict_eq (wpAny_call_entry PySem.F.slot_dict_eq hm.typeIs PySem.F.entry_dict_eq ?_ (PySem.F.args_dict_eq_2 _ _)) hc
  show wpAny _ _ (Builtin.Dict.dictSlotArgs "__eq__" ⟨[.ref d, .ref e], []⟩ >>= _) _ _ s
  refine wpAny_bind ?_
  unfold Builtin.Dict.dictSlotArgs
  refine wpAny_bind (wpAny_notOrdered_dict hm.typeIs ?_)
  show wpAny _ _ (pure (Value.ref d, Value.ref e)) _ _ s
  refine wpAny_pure (wpAny_bind (wpAny_isInstance (T := "dict") hm'.typeIs PySem.F.sub_dict_dict ?_))
  simp only [Bool.not_true, Bool.false_eq_true, if_false]
  refine wpAny_bind (wpAny_pure (wpAny_bind (wpAny_pure (wpAny_bind (wp_same1 hu hS hS' hm hm' he ?_)))))
  refine wpAny_pure ⟨_, rfl, (fun x => nomatch x), ?_⟩
  simpa using h
end
end Hd

set_option Elab.async false
set_option linter.all false
set_option maxRecDepth 100000
set_option maxHeartbeats 0
namespace L2
open PySem PySem.Spec PyProof.Rows
/-! ### documents of the root alone -/
def IsDoc (H : Hp) (v : V) (k : Int) : Prop := ∃ a, v = .ref a ∧ H a = some (.dT [([], .int k)])
theorem IsDoc.same {H H' : Hp} {v : V} {k : Int} (h : IsDoc H v k) (s : Same H H') : IsDoc H' v k := let ⟨a, e, q⟩ := h; ⟨a, e, s _ _ q⟩
theorem tk_keep {P : Program} {w : World} {h h' : Heap} {k : List Key} {a : Addr} (h1 : (tupleKind (mixKind P w)).is h k a) (k1 : ∀ b o, h.get? b = some o → h'.get? b = some o) : (tupleKind (mixKind P w)).is h' k a := by
  obtain ⟨o, its, n, e, r⟩ := h1
  exact ⟨o, its, n, k1 _ _ e, r⟩
section
variable {X : Cx}
def rCopyD : List V → Hp → VK → Prop := fun xs H Q => ∃ x k, xs = [x] ∧ IsDoc H x k ∧ ∀ p H', Same H H' → H' p = some (.dT [([], .int k)]) → H p = none → Q (.ref p) H'
theorem call_dictD : CallR X (.type "dict") rCopyD := by
  intro pins s σ H xs us Q I r h
  obtain ⟨x, k, rfl, ⟨a, rfl, ha⟩, q⟩ := h
  obtain ⟨u, rfl, ru⟩ := r.one
  cases ru
  obtain ⟨z, hd, ys, rel, dd⟩ := dt_of I.hok ha
  have hl : ys.length = 1 := by rw [← Paired.length rel]; rfl
  refine Hd.call_copy1 hd dd (fun h1 k1 => tk_keep h1 k1) hl (fun y hy => ?_) fun h' dd' hs => ?_
  · obtain ⟨_, _, _, _, _, _, _, his, _⟩ := dd
    obtain ⟨o, its, n, e, c, _⟩ := his y hy
    exact ⟨o, e, c⟩
  · have hn : H s.heap.objs.size = none := I.hok.fresh (Nat.le_refl _)
    obtain ⟨o, es, ep, h1, h2, h3, h4, h5, h6⟩ := dd'
    refine ⟨.ref _, upd H s.heap.objs.size (.dT [([], .int k)]), I.laid (a := s.heap.objs.size) (o := .dT [([], .int k)]) (t' := s.toks) (fun b o e => (hs.2 b (Nat.ne_of_lt (Heap.lt_size e))).trans (Heap.get?_push_of_some _ e)) (Nat.le_refl _) ?_, rfl, q _ _ (Same.upd hn) upd_same hn⟩
    exact ⟨z, beq_eq_false_iff_ne.mpr (Ne.symm (Nat.ne_of_lt I.big)), ys, rel.keeps fun b zs e => (Same.upd hn) _ _ e, o, es, ep, h1, h2, h3, h4, h6⟩
def rEqDoc : R2 := fun x y H Q => ∃ k j, IsDoc H x k ∧ IsDoc H y j ∧ Q (.bl (decide (k = j))) H
theorem op_eqDoc (hu : X.A.units + 16 < cLine) : OpR X (compareOp .Eq) rEqDoc := by
  intro pins s σ H x y v u Q I rx ry h
  obtain ⟨k, j, ⟨a, rfl, ha⟩, ⟨b, rfl, hb⟩, q⟩ := h
  cases rx
  cases ry
  obtain ⟨z, hd, xs, rel, dd⟩ := dt_of I.hok ha
  obtain ⟨z', hd', ys, rel', dd'⟩ := dt_of I.hok hb
  cases rel with
  | cons r t =>
  cases t
  cases rel' with
  | cons r' t' =>
  cases t'
  rename_i q1 q2
  obtain ⟨a1, a2, a3⟩ := q1
  obtain ⟨b1, b2, b3⟩ := q2
  obtain ⟨e1, _, e3⟩ := r
  obtain ⟨f1, _, f3⟩ := r'
  dsimp only at e1 e3 f1 f3
  subst e1 f1
  have e : eqV (.int k) (.int j) = decide (k = j) := by
    show (k == j) = _
    by_cases h : k = j <;> simp [h]
  have he : SeqAt.EqAt X.A.in1 s a3 b3 (decide (k = j)) := by
    rw [← e]; exact eqAt_V e3 f3 rfl rfl
  exact Hd.eq1 (tupleKind_room_in1 (by omega)) (by omega) hd hd' dd dd' he ⟨.bl _, H, I, rfl, q⟩
/-- {(): n} -/
def tDoc1 (tk tv : TE) : TE := fun σ H Q => ∀ p, H p = none → tk σ (upd H p (.dT [])) fun x H1 => tv σ H1 fun y H2 => H2 p = some (.dT []) ∧ ∃ b k, x = .ref b ∧ H2 b = some (.tup []) ∧ y = .int k ∧ Q (.ref p) (upd H2 p (.dT [([], .int k)]))
theorem pe_doc1 {k v : Expr} {pos : Pos} {tk tv : TE} (hu : X.A.units + 16 < cLine) (hk : PE X k tk) (hv : PE X v tv) : PE X (.Dict [some k] [v] pos) (tDoc1 tk tv) := by
  intro pins s σ H Q I h
  have hn := I.hok.fresh (Nat.le_refl s.heap.objs.size)
  have I1 := I.laid (a := s.heap.objs.size) (o := .dT []) (h' := s.heap.push { cls := .type "dict", data := .dict #[] }) (t' := s.toks) (fun _ _ q => Heap.get?_push_of_some _ q) (Nat.le_refl _) (dt_empty s.heap I.big)
  refine wpAny_Dict_any rfl rfl (by simp) (by show 1 ≤ 15; decide) ?_
  have hp := pps_cons (pos := pos) hk hv pps_nil
  refine thn (hp pins _ σ _ (fun ps H2 => match ps with
    | [(x, y)] => H2 s.heap.objs.size = some (.dT []) ∧ ∃ b k, x = .ref b ∧ H2 b = some (.tup []) ∧ y = .int k ∧ Q (.ref s.heap.objs.size) (upd H2 s.heap.objs.size (.dT [([], .int k)]))
    | _ => False) I1 (h _ hn)) fun vs s1 ⟨ps, H1, I2, rel, q1⟩ => ?_
  cases ps with
  | nil => exact q1.elim
  | cons xy rest =>
  cases rest with
  | cons _ _ => exact q1.elim
  | nil =>
    obtain ⟨x, y⟩ := xy
    obtain ⟨hd, b, n, ex, hb, ey, q⟩ := q1
    subst ex ey
    cases rel with
    | @cons _ wp _ _ r t =>
    cases t
    obtain ⟨w1, w2⟩ := wp
    obtain ⟨r1, r2⟩ := r
    dsimp only at r1 r2
    cases r1
    obtain ⟨z, hds, xs, rel2, dd⟩ := dt_of I2.hok hd
    cases rel2
    unfold storeAll
    rw [List.forIn_cons]
    refine wpAny_bind (wpAny_bind (wpAny_dictSet_heap (knd := tupleKind (mixKind X.prog X.w)) (k := []) (show X.A.units < cLine by omega) (key_of (ks := []) I2.hok hb) dd (fun h' dd' hs => wpAny_pure ?_) (by simp)))
    dsimp only
    rw [List.forIn_nil]
    refine wpAny_pure ?_
    obtain ⟨o, es, ep, h1, h2, h3, h4, h5, h6⟩ := dd'
    refine ⟨.ref _, _, d_write (ob := .dT [([], .int n)]) I2 (by rw [hd]; exact True.intro) hs ⟨o, h1⟩ ⟨by rw [sizeLine_eq]; show 1 ≤ _; omega, hds, [([], b, w2)], .cons ⟨rfl, ?_, r2⟩ .nil, o, es, ep, h1, h2, h3, h4, h6⟩, rfl, q⟩
    rw [upd_ne (ne_of hb hd (fun z => nomatch z))]
    exact hb
end
end L2

set_option Elab.async false
set_option linter.all false
set_option maxRecDepth 100000
set_option maxHeartbeats 0
namespace L2
open PySem PySem.Spec PyProof.Rows
/-! ### for i, x in enumerate(list) -/
def Ite (K : PySem.W.Frag) (a : Addr) : It :=
  ⟨fun i H => ∃ xs x, SqL K H a xs ∧ xs[i]? = some x, fun i H v H' => ∃ p, v = .ref p ∧ H p = none ∧ ∃ x, (∀ xs, SqL K H a xs → xs[i]? = some x) ∧ H' = upd H p (.tup [.int i, x]), fun i H => ∃ xs, SqL K H a xs ∧ xs.length ≤ i⟩
theorem turn_enum {P : Program} {w : World} {K : PySem.W.Frag} {elts : List Expr} {x1} {pos : Pos} (a e it : Addr) (hne : e ≠ it) : Turn P w K (.Tuple elts x1 pos) (Ite K a) [e, it] e (fun i h => ∃ old, IsEnum h e it (i : Nat) old ∧ h.IsListIter it a i) where
  mem := by simp
  obj := fun i h st b hb => by
    obtain ⟨old, h1, o, h2, c, d⟩ := st
    rcases List.mem_cons.mp hb with z | z
    · subst z
      exact ⟨_, h1, fun v z => by have z' : Data.fields _ = Data.cell v := z; cases z'⟩
    · have z' : b = it := by simpa using z
      subst z'
      exact ⟨o, h2, fun v z => by rw [d] at z; cases z⟩
  keep := fun i h h' ⟨old, h1, h2⟩ k => ⟨old, k e (by simp) _ h1, h2.at fun o z => k it (by simp) o z⟩
  item := by
    intro X hP hw hK hc i pins s σ H E I hf st hg
    subst hP hw hK
    obtain ⟨old, he, hit⟩ := st
    obtain ⟨xs, x, hq, hx⟩ := hg
    obtain ⟨its, rv, p, hz⟩ := I.list hq
    obtain ⟨u, hu, ru⟩ := rv.get hx
    obtain ⟨f0, f1, f2, f3, f4, f5⟩ := hf e (by simp)
    obtain ⟨g0, g1, g2, g3, g4, g5⟩ := hf it (by simp)
    have hel : e < s.heap.objs.size := Heap.lt_size he
    have hil : it < s.heap.objs.size := by obtain ⟨o, z, _⟩ := id hit; exact Heap.lt_size z
    refine wpAny_pyNext_enum_item he hit p.isList (x := u) (by simpa using hu) hne fun h1 heo hit1 ht hz1 hk1 => ⟨_, rfl, ?_⟩
    refine wpAny_letOwnedTupleGo_enum heo fun h2 he2 hs2 => ?_
    replace hs2 : Heap.SameBut e h1 h2 := hs2
    have fresh : H s.heap.objs.size = none := I.hok.fresh (Nat.le_refl _)
    have I1 : Inv X pins σ H { s with heap := s.heap, toks := s.toks + 1 } := I.tok _
    -- the two turn, then a tuple is laid
    have key : Inv X pins σ (upd H s.heap.objs.size (.tup [.int i, x])) { s with heap := h2, toks := s.toks + 1 } := by
      have I2 := I.laid (a := s.heap.objs.size) (o := .tup [.int i, x]) (t' := s.toks + 1) (h' := s.heap.push { cls := .type "tuple", data := .seq #[.int i s.toks, u] }) (fun _ _ z => Heap.get?_push_of_some _ z) (Nat.le_refl _)
        ⟨by rw [sizeLine_eq]; show 2 ≤ _; omega, [.int i s.toks, u], .cons ⟨_, rfl⟩ (.cons ru .nil), _, Heap.get?_push_size _ rfl, rfl, _, rfl⟩
      have hit2 : h2.IsListIter it a (i + 1) := hit1.extBut hs2.extBut (Ne.symm hne)
      obtain ⟨oi, hoi, ci, di⟩ := id hit2
      obtain ⟨oi0, hoi0, ci0, di0⟩ := id hit
      have hoi1 : (s.heap.push { cls := .type "tuple", data := .seq #[.int i s.toks, u] }).get? it = some oi0 := Heap.get?_push_of_some _ hoi0
      have hfz : oi.isFreed = false := Obj.isFreed_of_fields di
      have u1 := Heap.get?_update_self (fun _ => oi) hoi1 hfz
      have I3 := I2.turned (it := it) (t' := s.toks + 1) (h' := (s.heap.push { cls := .type "tuple", data := .seq #[.int i s.toks, u] }).update it (fun _ => oi)) (fun b o hb z => (Heap.get?_update_other _ _ (Ne.symm hb)).trans z) (by rw [upd_ne (Nat.ne_of_lt hil)]; exact g0) g1 g3 g4 g5
      have st2 : ∀ b o, b ≠ e → ((s.heap.push { cls := .type "tuple", data := .seq #[.int i s.toks, u] }).update it (fun _ => oi)).get? b = some o → h2.get? b = some o := by
        intro b o hb z
        by_cases hbi : b = it
        · subst hbi
          rw [u1] at z
          cases z
          exact hoi
        · rw [Heap.get?_update_other _ (fun _ => oi) (Ne.symm hbi)] at z
          rcases Heap.get?_push_cases z with ⟨rfl, rfl⟩ | z2
          · exact (hs2.2 _ (Nat.ne_of_gt hel)).trans ht
          · exact (hs2.2 b hb).trans (hk1 b o hb hbi z2)
      have I4 := I3.turned (it := e) (t' := s.toks + 1) (h' := h2) st2 (by rw [upd_ne (Nat.ne_of_lt hel)]; exact f0) f1 f3 f4 f5
      exact I4
    refine ⟨.ref s.heap.objs.size, _, key, rfl, ⟨_, rfl, fresh, x, fun ys hy => by rw [I.list_inj hy hq]; exact hx, rfl⟩, ⟨u, ?_, hit1.extBut hs2.extBut (Ne.symm hne)⟩, fun b hb => ?_⟩
    · have : ((i + 1 : Nat) : Int) = (i : Int) + 1 := by push_cast; rfl
      rw [this]; exact he2
    · rcases List.mem_cons.mp hb with z | z
      · subst z
        rw [upd_ne (Nat.ne_of_lt hel)]; exact f0
      · have z' : b = it := by simpa using z
        subst z'
        rw [upd_ne (Nat.ne_of_lt hil)]; exact g0
  done := by
    intro X hP hw hK hc i pins s σ H E I hf st hg
    subst hP hw hK
    obtain ⟨old, he, hit⟩ := st
    obtain ⟨xs, hq, hx⟩ := hg
    obtain ⟨its, rv, p, hz⟩ := I.list hq
    obtain ⟨g0, g1, g2, g3, g4, g5⟩ := hf it (by simp)
    have hl := rv.length
    exact wpAny_pyNext_enum_end (I.ok.hd hc) he hit p.isList (by simp; omega) fun h' eb => ⟨rfl, I.turned (t' := s.toks) (fun b o hb e => eb b o hb e) g0 g1 g3 g4 g5⟩
  self := fun _ _ _ _ _ ⟨_, st, _⟩ h => wpAny_pyIter_enum st h
section
variable {X : Cx}
def iEnum (K : PySem.W.Frag) (ta : TA) : TI := fun σ H R => ta σ H fun vs H1 => ∃ a, vs = [.ref a] ∧ (∃ xs, SqL K H1 a xs) ∧ R (Ite K a) H1
theorem pi_enum {a : Expr} {elts : List Expr} {x1} {tp : Pos} {ta : TA} {p pos : Pos} (hg : Gl X "enumerate") (hm : X.mg "enumerate" = none) (ha : PA X [a] ta) (hb : bootBuiltins "enumerate" = some (.type "enumerate") := by rfl) (hs : starEach [a] X.env = [(false, eval a X.env)] := by rfl) : PI X (.Tuple elts x1 tp) (.Call (.Name "enumerate" p) [a] [] pos) (iEnum X.K ta) := by
  intro pins s σ H R I h
  refine Call_ (ld_blt I hg hm hb (PyProof.Rows.callWith_type1 (thn (ha pos pins s σ H _ I h) fun us s1 ⟨vs, H1, I1, r1, q1⟩ => ?_) hs rfl))
  obtain ⟨a, e, ⟨xs, hq⟩, q⟩ := q1
  subst e
  obtain ⟨u, rfl, ru⟩ := r1.one
  cases ru
  obtain ⟨its, rv, p, hz⟩ := I1.list hq
  refine call_enumerate_list p.isList fun h' he hit hsz hk => ?_
  refine wpAny_pyIter_enum he ?_
  have I2 : Inv X pins σ H1 { s1 with heap := h' } := I1.kept (t' := s1.toks) hk
  refine ⟨s1.heap.objs.size + 1, [s1.heap.objs.size + 1, s1.heap.objs.size], _, _, H1, rfl, I2, turn_enum a _ _ (Nat.succ_ne_self _), ⟨.none, he, hit⟩, fun b hb => ?_, q⟩
  rcases List.mem_cons.mp hb with e | e
  · subst e
    exact I1.fpOk (Nat.le_succ _) (I1.hok.fresh (Nat.le_succ _))
  · have e' : b = s1.heap.objs.size := by simpa using e
    subst e'
    exact I1.fpOk (Nat.le_refl _) (I1.hok.fresh (Nat.le_refl _))
/-- by an invariant; the list stays -/
theorem loop_enum {K : PySem.W.Frag} {a : Addr} {xs : List V} {g : TG} {tb : TS} {D : Ends} {σ : St} {H : Hp} (Pv : Nat → St → Hp → Prop) (h0 : Pv 0 σ H) (hl : ∀ i σ H, i ≤ xs.length → Pv i σ H → SqL K H a xs)
    (hs : ∀ i x σ H p, xs[i]? = some x → Pv i σ H → H p = none → g (.ref p) σ (upd H p (.tup [.int i, x])) fun σ2 H2 => tb { D with nx := Pv (i + 1), ct := Pv (i + 1), bk := D.nx } σ2 H2) (hd : ∀ σ H, Pv xs.length σ H → D.nx σ H) : tLoop g tb D σ (Ite K a) H := by
  refine ⟨fun i m σ H => m = xs.length - i ∧ i ≤ xs.length ∧ Pv i σ H, ⟨_, rfl, Nat.zero_le _, h0⟩, ?_⟩
  rintro i m σ H ⟨rfl, hi, hp⟩
  have d3 := hl i σ H hi hp
  by_cases hlt : i < xs.length
  · refine .inr ⟨⟨xs, xs[i], d3, by simp [hlt]⟩, Pv (i + 1), fun σ' H' hp' => ⟨xs.length - (i + 1), by omega, rfl, hlt, hp'⟩, fun v H2 y => ?_⟩
    obtain ⟨p, rfl, hpn, x, hx, rfl⟩ := y
    exact hs i x σ H p (hx xs d3) hp hpn
  · have e : i = xs.length := by omega
    subst e
    exact .inl ⟨⟨xs, d3, Nat.le_refl _⟩, hd σ H hp⟩
theorem wp_enum {K : PySem.W.Frag} {σ : St} {H : Hp} {t : TA} {R : It → Hp → Prop} (h : t σ H fun vs H1 => ∃ a, vs = [.ref a] ∧ (∃ xs, SqL K H1 a xs) ∧ R (Ite K a) H1) : iEnum K t σ H R := h
/-- a try whose body does not raise -/
theorem ps_tryN {body : List Stmt} {h0 : ExceptHandler} {hs : List ExceptHandler} {pos : Pos} {tb : TS} (hb : ∀ (pn : List (Addr × Obj)) (F : Value → Shared → Prop), PSs (X.inTry pn F) body tb) : PS X (.Try body (h0 :: hs) [] [] pos) tb := by
  intro pins s σ H D I h
  refine wpAny_Try_except ?_
  have hb' := hb (X.pn ++ pins) (fun _ _ => False) [] s σ H D I.toTry h
  refine wpAny_mono hb' (fun f s1 q => ?_) fun _ _ z => (show False from z).elim
  cases f with
  | next => exact wpAny_execs_nil (SP.ofTry q)
  | brk => exact SP.ofTry q
  | cont => exact SP.ofTry q
  | ret u => exact SP.ofTry q
/-- no exception comes -/
def EN : XK := fun _ _ _ => False
theorem passN : Passes (CXE X.prog X.w) X EN := by
  intro pins σ H1 s1 e s' I h
  obtain ⟨a, C, T, a0, d, H', _, _, _, _, _, _, _, _, _, _, q⟩ := h
  exact q.elim
end
end L2

set_option Elab.async false
set_option linter.all false
set_option maxRecDepth 100000
set_option maxHeartbeats 0
namespace L2
open PySem PySem.Spec PyProof.Rows
/-! ### list.count, list.index of bools -/
section
variable {X : Cx}
def isTrueV : Value → Bool
  | .bool b => b
  | _ => false
def rCountT : V → List V → Hp → VK → Prop := fun x vs H Q => ∃ (l : Addr) (bs : List Bool), x = .ref l ∧ vs = [.bl true] ∧ H l = some (.lst (bs.map V.bl)) ∧ Q (.int (bs.countP id : Nat)) H
theorem vals_bl : ∀ {bs : List Bool} {its : List Value}, Vals (bs.map V.bl) its → its = bs.map Value.bool
  | [], _, r => by rw [List.map_nil] at r; cases r; rfl
  | b :: bs, _, r => by
    rw [List.map_cons] at r
    cases r with
    | cons r t =>
      rw [vals_bl t]
      have e : _ = Value.bool b := r
      rw [e]; rfl
theorem bl_eqAt {A : Around} {s : Shared} {bs : List Bool} {y : Value} (hy : y ∈ (bs.map Value.bool).toArray) : SeqAt.EqAt A s y (.bool true) (isTrueV y) := by
  obtain ⟨b, hb, rfl⟩ := List.mem_map.mp (List.mem_toArray.mp hy)
  have z := eqAt_V (A := A) (s := s) (y := .bl b) (x := .bl true) (u := .bool b) (v := .bool true) rfl rfl rfl rfl
  have e : eqV (.bl b) (.bl true) = isTrueV (.bool b) := by cases b <;> rfl
  rw [← e]; exact z
theorem mt_countT : MtM X "list.count" rCountT := by
  intro pins s σ H x vs v us Q I rx rv h
  obtain ⟨l, bs, rfl, rfl, hH, q⟩ := h
  cases rx
  obtain ⟨u, rfl, ru⟩ := rv.one
  cases (show u = Value.bool true from ru)
  obtain ⟨z, its, n, r, hl, e⟩ := I.lstM hH
  have ei := vals_bl r
  subst ei
  refine call_meets PySem.F.slot_list_count ⟨_, e, rfl⟩ PySem.F.entry_list_count (PySem.F.args_list_count_2 _ _) (SeqAt.list_countAt l _ n none #[] (.bool true) isTrueV) ⟨e, fun y hy => bl_eqAt hy, ?_⟩
  have ec : List.countP isTrueV (bs.map Value.bool) = bs.countP id := by
    rw [List.countP_map]
    rfl
  rw [show (List.map Value.bool bs).toArray.toList = bs.map Value.bool by simp, ec]
  exact ⟨.int (bs.countP id : Nat), H, I.tok _, ⟨_, rfl⟩, q⟩
def rIndexT : V → List V → Hp → VK → Prop := fun x vs H Q => ∃ (l : Addr) (bs : List Bool) (j : Nat), x = .ref l ∧ vs = [.bl true] ∧ H l = some (.lst (bs.map V.bl)) ∧ bs[j]? = some true ∧ (∀ m, m < j → bs[m]? = some false) ∧ Q (.int j) H
theorem mt_indexT : MtM X "list.index" rIndexT := by
  intro pins s σ H x vs v us Q I rx rv h
  obtain ⟨l, bs, j, rfl, rfl, hH, hj, hno, q⟩ := h
  cases rx
  obtain ⟨u, rfl, ru⟩ := rv.one
  cases (show u = Value.bool true from ru)
  obtain ⟨z, its, n, r, hl, e⟩ := I.lstM hH
  have ei := vals_bl r
  subst ei
  have hjl : j < bs.length := (List.getElem?_eq_some_iff.mp hj).1
  rw [List.length_map] at z
  have hL := sizeLine_eq
  refine call_meets PySem.F.slot_list_index ⟨_, e, rfl⟩ PySem.F.entry_list_index (PySem.F.args_list_index_2 _ _) (SeqAt.list_indexAt l _ n none #[] (.bool true) isTrueV j (by simpa using hjl) (by omega) ?_ ?_) ⟨e, fun y hy => bl_eqAt hy, ?_⟩
  · have := (List.getElem?_eq_some_iff.mp hj).2
    simpa [isTrueV] using this
  · intro m hm hlt
    have := (List.getElem?_eq_some_iff.mp (hno m hlt)).2
    simpa [isTrueV] using this
  · exact ⟨.int j, H, I.tok _, ⟨_, rfl⟩, q⟩
end
/-! ### list(reversed(xs)) -/
theorem lri_no_len : typeLookup (.type "list_reverseiterator") "__len__" = pure none := by rw [typeLookup_type, builtinLookup_eq_fast]; kernel_rfl
theorem lri_hint : typeLookup (.type "list_reverseiterator") "__length_hint__" = pure (some (.builtin "list_reverseiterator.__length_hint__")) := by rw [typeLookup_type, builtinLookup_eq_fast]; kernel_rfl
section
variable {prog : Program} {w : World} {A : Around} {E : Value → Shared → Prop} {s : Shared}
theorem ext_rev {R : Result → Shared → Prop} {it l : Addr} {items : Array Value} (hh : A.handled = none) (hne : l ≠ it) (hit : s.heap.IsRevIter it l ((items.size : Int) - 1)) (hl : s.heap.IsList l items) (S : Addr) (hSr : S ≠ it) (hSl : S ≠ l) (res : Value) (c₀ : Nat) (hS : s.heap.get? S = some { cls := .type "list", data := .seq #[] c₀ })
    (hR : ∀ h' tk acc' c', (∀ b o, b ≠ S → b ≠ it → s.heap.get? b = some o → h'.get? b = some o) → h'.get? S = some { cls := .type "list", dict := none, data := .seq acc' c', slots := #[] } → ItemsOf (fun i v => items[items.size - 1 - i]? = some v) acc' items.size → R (.ok (.ret res)) { s with heap := h', toks := tk }) (hn : items.size ≤ sizeLine) :
    wpAny (model prog w) A.in1 (Builtin.List.listExtendWith (.ref S) (.ref it) res)
      (fun fin s' => match fin with | .done f => R (.ok f) s' | .again c' => c'.quiet = true ∧ codeAny (model prog w) A c' R s') (fun e s' => R (.error e) s') s := by
  have hSf : S ∉ [it, l] := by simp only [List.mem_cons, List.not_mem_nil, or_false, not_or]; exact ⟨hSr, hSl⟩
  have W := Walks.listRev (prog := prog) (w := w) (A := A.in1) hh it l hne items
  have st : (fun i (h : Heap) => i ≤ items.size ∧ h.IsRevIter it l ((items.size : Int) - 1 - (i : Int)) ∧ h.IsList l items) 0 s.heap := ⟨Nat.zero_le _, by simpa using hit, hl⟩
  unfold Builtin.List.listExtendWith
  refine wpAny_bind (wpAny_typeOf (T := "list_reverseiterator") hit.typeIs ?_)
  have h1 : Builtin.List.listSameRef (.ref S) (.ref it) = false := by simp [Builtin.List.listSameRef, hSr]
  rw [if_neg (by rw [h1]; decide)]
  refine wpAny_bind (wpAny_pyIter_revIter hit ?_)
  refine wpAny_bind (wpAny_holding ?_)
  unfold Builtin.List.listLengthHint
  refine wpAny_bind (wpAny_specialOf hit.typeIs lri_no_len ?_)
  show wpAny _ A.in1 (specialOf (Value.ref it) (Str.ofString "__length_hint__") >>= _) _ _ _
  refine wpAny_bind (wpAny_specialOf hit.typeIs lri_hint ?_)
  generalize hid : ("list_reverseiterator.__length_hint__" : String) = id0
  wp_delta
  rw [show splitId id0 = some ("list_reverseiterator", "__length_hint__") from by subst hid; decide +kernel]
  subst hid
  refine wpAny_bind (wpAny_isInstance (b := true) hit.typeIs (by rw [isSubtype_type]; kernel_rfl) ?_)
  refine wpAny_pure ?_
  rw [if_neg (by decide)]
  refine wpAny_pure ⟨plainId_quiet PySem.F.plain_extend_loop _, codeAny_extend_loopS W.toS hn S hSf res items.size 0 _ #[] c₀ rfl (Nat.zero_le _) st hS (ItemsOf.nil _) fun s' acc' c' hm hS' hacc => ?_⟩
  rw [Moved.eq_with hm]
  refine hR s'.heap s'.toks acc' c' (fun b o hb hbi e => hm.heap b o (fun hmem => ?_) e) hS' hacc
  · rcases List.mem_cons.mp hmem with e' | hmem
    · exact hb e'
    · exact hbi (List.mem_singleton.mp hmem)
/-- list(it), it an iterator that walks a list backwards -/
theorem call_list_rev {Q : Value → Shared → Prop} {it l : Addr} {items : Array Value} (hh : A.handled = none) (hne : l ≠ it) (hit : s.heap.IsRevIter it l ((items.size : Int) - 1)) (hl : s.heap.IsList l items) (hn : items.size ≤ sizeLine)
    (hQ : ∀ h' tk acc' c', (∀ b o, b ≠ it → s.heap.get? b = some o → h'.get? b = some o) → h'.get? s.heap.objs.size = some { cls := .type "list", dict := none, data := .seq acc' c', slots := #[] } → ItemsOf (fun i v => items[items.size - 1 - i]? = some v) acc' items.size → Q (.ref s.heap.objs.size) { s with heap := h', toks := tk }) :
    wpAny (model prog w) A (call (.type "list") [.ref it]) Q E s := by
  refine callType_codes (Q₁ := fun obj s₁ => obj = .ref s.heap.objs.size ∧ s₁ = { s with heap := s.heap.push { cls := .type "list", data := .seq #[] } }) PySem.F.called_list (PySem.F.typeCall_list_1 _) PySem.F.entry_list_init
    (code_list_new _ ⟨rfl, rfl⟩) fun obj s₁ h₁ => ?_
  obtain ⟨rfl, rfl⟩ := h₁
  have hS : (s.heap.push { cls := .type "list", data := .seq #[] }).get? s.heap.objs.size = some { cls := .type "list", data := .seq #[] } := Heap.get?_push_size _ rfl
  have hlt1 : it < s.heap.objs.size := by obtain ⟨o, z, _⟩ := hit; exact Heap.lt_size z
  have hlt2 : l < s.heap.objs.size := by obtain ⟨o, z, _⟩ := hl; exact Heap.lt_size z
  refine ⟨⟨_, hS, rfl⟩, PySem.F.args_list_init_2 _ _, ?_⟩
  show wpAny _ _ (do let old ← Builtin.List.listItems (.ref s.heap.objs.size); Builtin.List.listUpdate (.ref s.heap.objs.size) (fun _ => #[]); letGo old.toList.reverse; Builtin.List.listExtendWith (.ref s.heap.objs.size) (.ref it) .none) _ _ _
  refine wpAny_bind ?_
  unfold Builtin.List.listItems
  refine wpAny_bind (wpAny_seqItems hS rfl (wpAny_pure ?_))
  show wpAny _ _ (updateSeq s.heap.objs.size (fun _ => #[]) >>= fun _ => letGo (#[] : Array Value).toList.reverse >>= fun _ => Builtin.List.listExtendWith (.ref s.heap.objs.size) (.ref it) .none) _ _ _
  refine wpAny_bind (wpAny_updateSeq hS rfl ?_)
  have hS₂ := Heap.get?_update_self (Obj.mapSeq (fun _ => (#[] : Array Value))) hS rfl
  have oth : ∀ b o, b ≠ s.heap.objs.size → s.heap.get? b = some o → ((s.heap.push { cls := .type "list", data := .seq #[] }).update s.heap.objs.size (Obj.mapSeq (fun _ => (#[] : Array Value)))).get? b = some o :=
    fun b o hb e => (Heap.get?_update_other _ _ (Ne.symm hb)).trans (Heap.get?_push_of_some _ e)
  refine wpAny_bind (wpAny_letGo ?_)
  refine ext_rev (A := A.in1) hh hne (hit.at fun o e => oth it o (Nat.ne_of_lt hlt1) e) (hl.at fun o e => oth l o (Nat.ne_of_lt hlt2) e) _ (Nat.ne_of_gt hlt1) (Nat.ne_of_gt hlt2) .none _ hS₂ (fun h' tk acc' c' hk hS' hacc => ?_) hn
  exact ⟨rfl, hQ h' tk acc' c' (fun b o hb e => hk b o (Nat.ne_of_lt (Heap.lt_size e)) hb (oth b o (Nat.ne_of_lt (Heap.lt_size e)) e)) hS' hacc⟩
end
theorem items_rev {items : List Value} {acc : Array Value} (h : ItemsOf (fun i v => items.toArray[items.toArray.size - 1 - i]? = some v) acc items.toArray.size) : acc = items.reverse.toArray := by
  obtain ⟨hs, hi⟩ := h
  apply Array.ext_getElem?
  intro j
  by_cases hj : j < acc.size
  · have e : acc[j]? = some acc[j] := by simp [hj]
    have z := hi j _ e
    rw [e]
    simp only [List.size_toArray] at hs z
    rw [List.getElem?_toArray] at z
    rw [List.getElem?_toArray, List.getElem?_reverse (by omega)]
    exact z.symm
  · rw [Array.getElem?_eq_none (by omega), Array.getElem?_eq_none (by simp at hs ⊢; omega)]
section
variable {X : Cx} {e : Expr} {te : TE} {p p2 pos pos2 : Pos}
def tListRev (K : PySem.W.Frag) (te : TE) : TE := fun σ H Q => te σ H fun x H1 => ∃ a xs, x = .ref a ∧ SqL K H1 a xs ∧ ∀ p, H1 p = none → Q (.ref p) (upd H1 p (.lst xs.reverse))
theorem pe_listRev (hc : X.calm = true) (hg : Gl X "list") (hm : X.mg "list" = none) (hg2 : Gl X "reversed") (hm2 : X.mg "reversed" = none) (he : PE X e te)
    (hs1 : starEach [.Call (.Name "reversed" p2) [e] [] pos2] X.env = [(false, eval (.Call (.Name "reversed" p2) [e] [] pos2) X.env)] := by rfl) (hs2 : starEach [e] X.env = [(false, eval e X.env)] := by rfl) :
    PE X (.Call (.Name "list" p) [.Call (.Name "reversed" p2) [e] [] pos2] [] pos) (tListRev X.K te) := by
  intro pins s σ H Q I h
  refine wpAny_Call_Name_kw (ld_blt I hg hm boot_list ?_)
  refine PyProof.Rows.callWith_type1 ?_ hs1 rfl
  rw [hs1]
  refine Calls.spliced_cons ?_
  refine wpAny_Call_Name_kw (ld_blt I hg2 hm2 boot_reversed ?_)
  refine PyProof.Rows.callWith_type1 ?_ hs2 rfl
  rw [hs2]
  refine Calls.spliced_cons (thn (he pins s σ H _ I h) fun u s1 ⟨x, H1, I1, r1, q1⟩ => Calls.spliced_nil ?_)
  obtain ⟨a, xs, rfl, hq, q⟩ := q1
  cases r1
  obtain ⟨its, rv, pl, hz⟩ := I1.list hq
  refine call_reversed_list pl.isList (Calls.spliced_nil ?_)
  have hlt : a < s1.heap.objs.size := by obtain ⟨o, z, _⟩ := pl.isList; exact Heap.lt_size z
  have hit : (s1.heap.push (revObj a ((its.toArray.size : Int) - 1))).IsRevIter s1.heap.objs.size a ((its.toArray.size : Int) - 1) := ⟨_, Heap.get?_push_size _ rfl, rfl, rfl⟩
  have hl2 := pl.isList.at (h' := s1.heap.push (revObj a ((its.toArray.size : Int) - 1))) fun o e => Heap.get?_push_of_some _ e
  have I2 : Inv X pins σ H1 { s1 with heap := s1.heap.push (revObj a ((its.toArray.size : Int) - 1)) } := I1.kept (t' := s1.toks) fun b o e => Heap.get?_push_of_some _ e
  have fp := I1.fpOk (Nat.le_refl s1.heap.objs.size) (I1.hok.fresh (Nat.le_refl _))
  obtain ⟨f0, f1, f2, f3, f4, f5⟩ := fp
  have hlv := rv.length
  refine call_list_rev (s := { s1 with heap := s1.heap.push (revObj a ((its.toArray.size : Int) - 1)) }) (I1.ok.hd hc) (Nat.ne_of_lt hlt) hit hl2 (by rw [List.size_toArray]; omega) fun h' tk acc' c' hk hS hacc => ?_
  have ea := items_rev hacc
  subst ea
  have sz : (s1.heap.push (revObj a ((its.toArray.size : Int) - 1))).objs.size = s1.heap.objs.size + 1 := Heap.size_push ..
  -- lay the list first, then the iterator turns
  have I3 := I2.laid (a := s1.heap.objs.size + 1) (o := .lst xs.reverse) (t' := tk) (h' := (s1.heap.push (revObj a ((its.toArray.size : Int) - 1))).push { cls := .type "list", data := .seq its.reverse.toArray c' }) (fun b o e => Heap.get?_push_of_some _ e) (by rw [sz]; exact Nat.le_refl _)
    ⟨by rw [List.length_reverse]; omega, its.reverse, c', rv.reverse, by rw [← sz]; exact Heap.get?_push_size _ rfl⟩
  have I4 := I3.turned (it := s1.heap.objs.size) (t' := tk) (h' := h') (fun b o hb e => by
    rcases Heap.get?_push_cases e with ⟨rfl, rfl⟩ | e2
    · exact hS
    · exact hk b o hb e2) (by rw [upd_ne (Nat.ne_of_lt (Nat.lt_succ_self _))]; exact f0) f1 f3 f4 f5
  refine ⟨.ref (s1.heap.objs.size + 1), _, I4, ?_, q _ (I1.hok.fresh (Nat.le_succ _))⟩
  show Value.ref _ = Value.ref _
  rw [sz]
theorem wp_listRev {K : PySem.W.Frag} {σ : St} {H : Hp} {Q : VK} (h : te σ H fun x H1 => ∃ a xs, x = .ref a ∧ SqL K H1 a xs ∧ ∀ p, H1 p = none → Q (.ref p) (upd H1 p (.lst xs.reverse))) : tListRev K te σ H Q := h
theorem PS.nox {st : Stmt} {t : TS} (h : PS X.nox st t) : PS X st t := fun pins s σ H D I hw =>
  wpAny_mono (h pins s σ H D (I.wish _) hw) (fun _ _ q => q.unwish) fun _ _ z => False.elim z
end
end L2

set_option Elab.async false
set_option linter.all false
set_option maxRecDepth 100000
set_option maxHeartbeats 0
namespace L2
open PySem PySem.Spec PyProof.Rows
/-! ### documents and deeds of the root alone -/
section
variable {σ : St} {H H' : Hp} {Q : VK} {R : Hp → Prop} {D : Ends} {c : Cl} {v x y : V} {k o n : Int} {p : List Str} {m : Str} {ta tb tc : TE}
def dinK (x y : V) (H : Hp) (Q : VK) : Prop := ∃ a o, x = .ref a ∧ DGet H a y o ∧ Q (.bl o.isSome) H
def dgetK (x y : V) (H : Hp) (Q : VK) : Prop := ∃ a v, x = .ref a ∧ DGet H a y (some v) ∧ Q v H
def dputK (x y v : V) (H : Hp) (R : Hp → Prop) : Prop := ∃ a H4, x = .ref a ∧ DPut H a y v H4 ∧ R H4
theorem wp_dput (h : tc σ H fun v H1 => ta σ H1 fun x H2 => tb σ H2 fun y H3 => dputK x y v H3 (D.nx σ)) : sDPut ta tb tc D σ H := h
theorem wp_din (h : tb σ H fun y H1 => ta σ H1 fun x H2 => dinK x y H2 Q) : tDIn tb ta σ H Q := h
theorem wp_dget (h : ta σ H fun x H1 => tb σ H1 fun y H2 => dgetK x y H2 Q) : tDGet ta tb σ H Q := h
theorem val1 {v : V} : valV [(([] : List Key), v)] [] = some v := valV_pos rfl
theorem put1 {v u : V} : putK [(([] : List Key), v)] [] u = [([], u)] := rfl
theorem doc_in (hx : IsDoc H x k) (hy : IsP H y []) (h : Q (.bl true) H) : dinK x y H Q := by
  obtain ⟨a, rfl, ha⟩ := hx
  obtain ⟨b, rfl, hb⟩ := hy
  exact ⟨a, _, rfl, DGet.t (k := []) ha hb, by rw [val1]; exact h⟩
theorem doc_get (hx : IsDoc H x k) (hy : IsP H y []) (h : Q (.int k) H) : dgetK x y H Q := by
  obtain ⟨a, rfl, ha⟩ := hx
  obtain ⟨b, rfl, hb⟩ := hy
  have z := DGet.t (k := []) ha hb
  rw [val1] at z
  exact ⟨a, _, rfl, z, h⟩
theorem doc_put {a : Addr} (ha : H a = some (.dT [([], .int k)])) (hy : IsP H y []) (h : R (upd H a (.dT [([], .int n)]))) : dputK (.ref a) y (.int n) H R := by
  obtain ⟨b, rfl, hb⟩ := hy
  have z := DPut.t (k := []) (v := .int n) ha hb (by rw [sizeLine_eq]; show 1 < _; omega)
  rw [put1] at z
  exact ⟨a, _, rfl, z, h⟩
theorem wp_copyD (hx : IsDoc H x k) (h : ∀ p H', Same H H' → H' p = some (.dT [([], .int k)]) → H p = none → Q (.ref p) H') : rCopyD [x] H Q := ⟨x, k, rfl, hx, h⟩
theorem wp_eqDoc {j : Int} (hx : IsDoc H x k) (hy : IsDoc H y j) (h : Q (.bl (decide (k = j))) H) : rEqDoc x y H Q := ⟨k, j, hx, hy, h⟩
theorem use_dm {ok : Addr → Prop} {sp : Addr → Sp} {t : TA} (hd : IsD c H v (.set p o n)) (hok : ok c.set) (hl : ∀ x y, (DD.flds x y (.set p o n)).lookup m = none) (h : t σ H fun vs H2 => sp c.set (v :: vs) H2 Q E0) : methK ok m sp t v σ H Q := by
  obtain ⟨a, dx, x, y, rfl, ha, hp⟩ := id hd
  exact ⟨a, _, dx, _, rfl, ha, hok, hl x y, h⟩
def spWhole : Sp := fun vs H Q _ => ∃ n : Int, vs = [.int n] ∧ Q (.bl true) H
theorem use_whole {E : XK} (h : Q (.bl true) H) : spWhole [.int n] H Q E := ⟨n, rfl, h⟩
def spFits (c : Cl) : Sp := fun vs H Q _ => ∃ v w o n, vs = [v, w] ∧ IsD c H v (.set [] o n) ∧ IsDoc H w o ∧ o ≠ n ∧ Q (.bl true) H
theorem use_fits {E : XK} (hd : IsD c H v (.set [] o n)) (hx : IsDoc H x o) (hne : o ≠ n) (h : Q (.bl true) H) : spFits c [v, x] H Q E := ⟨v, x, o, n, rfl, hd, hx, hne, h⟩
def spMade (c : Cl) : Sp := fun vs H Q _ => ∃ v w o n, vs = [v, w] ∧ IsD c H v (.set [] o n) ∧ IsDoc H w o ∧ o ≠ n ∧ ∀ z H', Same H H' → IsDoc H' z n → Q z H'
theorem use_made {E : XK} (hd : IsD c H v (.set [] o n)) (hx : IsDoc H x o) (hne : o ≠ n) (h : ∀ z H', Same H H' → IsDoc H' z n → Q z H') : spMade c [v, x] H Q E := ⟨v, x, o, n, rfl, hd, hx, hne, h⟩
def spTold1 (c : Cl) : Sp := fun vs H Q _ => ∃ v p o n, vs = [v] ∧ IsD c H v (.set p o n) ∧ ∀ z H', Same H H' → IsT H' z (.set p o n) → Q z H'
theorem use_told1 {E : XK} (hd : IsD c H v (.set p o n)) (h : ∀ z H', Same H H' → IsT H' z (.set p o n) → Q z H') : spTold1 c [v] H Q E := ⟨v, p, o, n, rfl, hd, h⟩
theorem same_new {a : Addr} {ob : HO} (h : Same H H') (ha : H a = none) : Same H (upd H' a ob) := fun b u q => by
  rw [upd_ne (ne_of_none q ha)]; exact h b u q
end
/-- deeds that lead from k to k' -/
inductive Chain : Int → List DD → Int → Prop where
  | nil (k : Int) : Chain k [] k
  | cons {k m k' : Int} {ds : List DD} (h : k ≠ m) (t : Chain m ds k') : Chain k (.set [] k m :: ds) k'
theorem Chain.snoc {k m k' : Int} {ds : List DD} (h : Chain k ds m) (hn : m ≠ k') : Chain k (ds ++ [.set [] m k']) k' := by
  induction h with
  | nil k => exact .cons hn (.nil _)
  | cons h t ih => exact .cons h (ih hn)
theorem Chain.last {k k' : Int} {ds : List DD} (h : Chain k ds k') (hn : ds ≠ []) : ∃ o, ds.getLast? = some (.set [] o k') := by
  induction h with
  | nil k => exact absurd rfl hn
  | @cons k m k' ds h t ih =>
    cases ds with
    | nil => cases t; exact ⟨_, rfl⟩
    | cons d ds =>
      obtain ⟨o, e⟩ := ih (by simp)
      exact ⟨o, by rw [List.getLast?_cons_cons]; exact e⟩
theorem Chain.at {k k' : Int} {ds : List DD} (h : Chain k ds k') : ∀ i, i ≤ ds.length → ∃ m, Chain k (ds.take i) m ∧ (i = ds.length → m = k') ∧ (∀ d, ds[i]? = some d → ∃ n, d = .set [] m n ∧ m ≠ n ∧ Chain k (ds.take (i + 1)) n) := by
  intro i hi
  induction h generalizing i with
  | nil k =>
    have e : i = 0 := Nat.le_zero.mp hi
    subst e
    exact ⟨k, .nil _, fun _ => rfl, fun d hd => by simp at hd⟩
  | @cons k m k' ds h t ih =>
    cases i with
    | zero => exact ⟨k, .nil _, fun z => by simp at z, fun d hd => by simp at hd; exact ⟨m, hd.symm, h, .cons h (.nil _)⟩⟩
    | succ i =>
      obtain ⟨q, c1, c2, c3⟩ := ih i (by simpa using hi)
      refine ⟨q, .cons h c1, fun z => c2 (by simpa using z), fun d hd => ?_⟩
      obtain ⟨n, e, ne, c4⟩ := c3 d (by simpa using hd)
      exact ⟨n, e, ne, .cons h c4⟩
theorem Chain.inj {k m m' : Int} {ds : List DD} (h : Chain k ds m) (h' : Chain k ds m') : m = m' := by
  induction h with
  | nil k => cases h'; rfl
  | cons h t ih => cases h' with | cons h2 t2 => exact ih t2
def spRowDone (c : Cl) : Sp := fun vs H Q _ => ∃ w a us ds k k', vs = [w, .ref a] ∧ IsDoc H w k ∧ H a = some (.lst us) ∧ Paired (IsD c H) us ds ∧ Chain k ds k' ∧ ∀ z H', Same H H' → IsDoc H' z k' → Q z H'
/-! ### lists of M may change, all else stays -/
def Fr (M : List Addr) (H H' : Hp) : Prop := ∀ b o, b ∉ M → H b = some o → H' b = some o
def AllL (M : List Addr) (H : Hp) : Prop := ∀ m ∈ M, ∃ xs, H m = some (.lst xs)
section
variable {M : List Addr} {H H' H'' : Hp} {v : V} {c : Cl} {d : DD} {k : Int} {p : List Str}
theorem Same.fr (h : Same H H') : Fr M H H' := fun b o _ e => h b o e
theorem Fr.refl : Fr M H H := fun _ _ _ e => e
theorem Fr.trans (a : Fr M H H') (b : Fr M H' H'') : Fr M H H'' := fun x o hx e => b x o hx (a x o hx e)
theorem Fr.upd {l : Addr} {o : HO} (h : l ∈ M) : Fr M H (upd H l o) := fun b u hb e => by rw [upd_ne (fun z => hb (by rw [z]; exact h))]; exact e
theorem Fr.keep {a : Addr} {o : HO} (f : Fr M H H') (hl : AllL M H) (h : H a = some o) (ho : ∀ xs, o ≠ .lst xs) : H' a = some o := f a o (fun z => by
  obtain ⟨xs, e⟩ := hl a z
  rw [h] at e
  cases e
  exact ho xs rfl) h
theorem IsP.fr (h : IsP H v p) (hl : AllL M H) (f : Fr M H H') : IsP H' v p := let ⟨a, e, q⟩ := h; ⟨a, e, f.keep hl q fun _ z => nomatch z⟩
theorem IsDoc.fr (h : IsDoc H v k) (hl : AllL M H) (f : Fr M H H') : IsDoc H' v k := let ⟨a, e, q⟩ := h; ⟨a, e, f.keep hl q fun _ z => nomatch z⟩
theorem DD.holds_fr {x y : V} (h : d.holds H x y) (hl : AllL M H) (f : Fr M H H') : d.holds H' x y := by
  cases d with
  | put p n => exact IsP.fr h hl f
  | cut p n => exact IsP.fr h hl f
  | set p n m => exact IsP.fr h hl f
  | move p q => exact ⟨IsP.fr h.1 hl f, IsP.fr h.2 hl f⟩
theorem IsT.fr (h : IsT H v d) (hl : AllL M H) (f : Fr M H H') : IsT H' v d := let ⟨a, x, y, e, q, r⟩ := h; ⟨a, x, y, e, f.keep hl q (fun _ z => nomatch z), DD.holds_fr r hl f⟩
theorem IsD.fr (h : IsD c H v d) (hl : AllL M H) (f : Fr M H H') : IsD c H' v d := let ⟨a, dx, x, y, e, q, r⟩ := h; ⟨a, dx, x, y, e, f.keep hl q (fun _ z => nomatch z), DD.holds_fr r hl f⟩
/-- a row of deeds, a row of tuples: lists that nobody changes -/
def RowS (c : Cl) (M : List Addr) (H : Hp) (v : V) (ds : List DD) : Prop := ∃ a vs, v = .ref a ∧ a ∉ M ∧ H a = some (.lst vs) ∧ Paired (IsD c H) vs ds
def RowU (M : List Addr) (H : Hp) (v : V) (ds : List DD) : Prop := ∃ a vs, v = .ref a ∧ a ∉ M ∧ H a = some (.lst vs) ∧ Paired (IsT H) vs ds
theorem RowS.fr {ds : List DD} (h : RowS c M H v ds) (hl : AllL M H) (f : Fr M H H') : RowS c M H' v ds := let ⟨a, vs, e, n, q, r⟩ := h; ⟨a, vs, e, n, f _ _ n q, Paired.mapP r fun _ _ z => z.fr hl f⟩
theorem RowU.fr {ds : List DD} (h : RowU M H v ds) (hl : AllL M H) (f : Fr M H H') : RowU M H' v ds := let ⟨a, vs, e, n, q, r⟩ := h; ⟨a, vs, e, n, f _ _ n q, Paired.mapP r fun _ _ z => z.fr hl f⟩
theorem AllL.fresh {a : Addr} (hl : AllL M H) (h : H a = none) : a ∉ M := fun z => by
  obtain ⟨xs, e⟩ := hl a z
  rw [h] at e; cases e
theorem AllL.same (hl : AllL M H) (s : Same H H') : AllL M H' := fun m hm => let ⟨xs, e⟩ := hl m hm; ⟨xs, s _ _ e⟩
theorem AllL.upd {l : Addr} {xs : List V} (hl : AllL M H) : AllL M (upd H l (.lst xs)) := fun m hm => by
  by_cases z : m = l
  · subst z; exact ⟨xs, upd_same⟩
  · obtain ⟨ys, e⟩ := hl m hm
    exact ⟨ys, by rw [upd_ne z]; exact e⟩
end
/-! ### the law's small things -/
section
variable {σ : St} {H H' : Hp} {Q : VK} {D : Ends} {c : Cl} {v x y : V} {k o n j : Int} {K : PySem.W.Frag} {C : Addr} {ta tb : TE}
def rNotN : R2 := fun x y H Q => y = .non ∧ Q (.bl (!decide (x = .non))) H
def rIsN : R2 := fun x y H Q => y = .non ∧ Q (.bl (decide (x = .non))) H
theorem op_notN' {X : Cx} : OpR X (compareOp .IsNot) rNotN := op_notN
theorem op_isN' {X : Cx} : OpR X (compareOp .Is) rIsN := op_isN
theorem wp_notNi (h : Q (.bl true) H) : rNotN (.int j) .non H Q := ⟨rfl, by rw [decide_eq_false (fun z => nomatch z)]; exact h⟩
theorem wp_notNn (h : Q (.bl false) H) : rNotN .non .non H Q := ⟨rfl, by rw [decide_eq_true rfl]; exact h⟩
theorem wp_isNn (h : Q (.bl true) H) : rIsN .non .non H Q := ⟨rfl, by rw [decide_eq_true rfl]; exact h⟩
def rInt1 : List V → Hp → VK → Prop := fun xs H Q => (∃ i, xs = [.int i] ∧ Q (.int i) H) ∨ ∃ k, xs = [.bl k] ∧ Q (.int (if k then 1 else 0)) H
theorem call_int1' {X : Cx} : CallR X (.type "int") rInt1 := call_int1
theorem wp_int1b {b : Bool} (h : Q (.int (if b then 1 else 0)) H) : rInt1 [.bl b] H Q := .inr ⟨b, rfl, h⟩
def optV : Option Nat → V
  | none => .non
  | some n => .int n
inductive Up (ps : List (Option Nat)) : Option Nat → List Nat → Prop where
  | nil : Up ps none []
  | cons {j : Nat} {st : Option Nat} {l : List Nat} (h : ps[j]? = some st) (t : Up ps st l) : Up ps (some j) (j :: l)
theorem Up.inj {ps : List (Option Nat)} {st : Option Nat} {l l' : List Nat} (a : Up ps st l) (b : Up ps st l') : l = l' := by
  induction a generalizing l' with
  | nil => cases b; rfl
  | cons h t ih =>
    cases b with
    | cons h2 t2 =>
      rw [h] at h2
      cases h2
      rw [ih t2]
def Wf (ps : List (Option Nat)) : Prop := ∀ (j m : Nat), ps[j]? = some (some m) → m < j
theorem Up.all {ps : List (Option Nat)} (hw : Wf ps) : ∀ i, i < ps.length → ∃ l, Up ps (some i) l := by
  intro i
  induction i using Nat.strongRecOn with
  | ind i ih =>
    intro hi
    cases e : ps[i] with
    | none => exact ⟨[i], .cons (by rw [List.getElem?_eq_getElem hi, e]) .nil⟩
    | some m =>
      have h1 : ps[i]? = some (some m) := by rw [List.getElem?_eq_getElem hi, e]
      have hm := hw i m h1
      obtain ⟨l, hl⟩ := ih m hm (by omega)
      exact ⟨i :: l, .cons h1 hl⟩
theorem Up.len {ps : List (Option Nat)} (hw : Wf ps) {st : Option Nat} {l : List Nat} (a : Up ps st l) : ∀ i, st = some i → l.length ≤ i + 1 := by
  induction a with
  | nil => intro i z; cases z
  | @cons j st l h t ih =>
    intro i z
    cases z
    cases st with
    | none => cases t; simp
    | some m =>
      have := ih m rfl
      have := hw _ _ h
      rw [List.length_cons]; omega
theorem Up.snoc {ps : List (Option Nat)} {st q : Option Nat} {l : List Nat} (a : Up ps st l) : Up (ps ++ [q]) st l := by
  induction a with
  | nil => exact .nil
  | cons h t ih => exact .cons (by rw [List.getElem?_append_left (List.getElem?_eq_some_iff.mp h).1]; exact h) ih
theorem opts_at {ps : List (Option Nat)} {i : Nat} {st : Option Nat} (h : ps[i]? = some st) : atI (ps.map optV) (i : Int) = some (optV st) := atI_nat (by rw [List.getElem?_map, h]; rfl)
def lineV (l : List Nat) : List V := l.map fun (n : Nat) => V.int (n : Int)
/-- isinstance of a caught exception -/
theorem wp_isiE {a : Addr} {t cv : Value} {b : Bool} {cc : V} {d : Option Addr} (ha : H a = some (excHO a C d)) (hf : ExcF K C) (hc : clsVal cc = some cv) (hk : PySem.W.kitOne K (.ref C) cv = some b) (h : Q (.bl b) H) : rIsiE K [.ref a, cc] H Q := ⟨a, C, d, cc, cv, b, rfl, ha, hf, hc, hk, h⟩
theorem wp_methE {ok : Addr → Prop} {m : Str} {sp : Addr → Sp} {E : XK} {t : TA} (h : ta σ H fun x H1 => methKE ok m sp E t x σ H1 Q) : tMethE ok m sp E ta t σ H Q := h
theorem use_me {ok : Addr → Prop} {m : Str} {sp : Addr → Sp} {E : XK} {t : TA} {a dx : Addr} {fs : List (Str × V)} (ha : H a = some (.ins C dx fs)) (hok : ok C) (hl : fs.lookup m = none) (h : t σ H fun vs H2 => sp C (.ref a :: vs) H2 Q E) : methKE ok m sp E t (.ref a) σ H Q := ⟨a, C, dx, fs, rfl, ha, hok, hl, h⟩
theorem use_md {ok : Addr → Prop} {m : Str} {sp : Addr → Sp} {t : TA} {a dx : Addr} {fs : List (Str × V)} (ha : H a = some (.ins C dx fs)) (hok : ok C) (hl : fs.lookup m = none) (h : t σ H fun vs H2 => sp C (.ref a :: vs) H2 Q E0) : methK ok m sp t (.ref a) σ H Q := ⟨a, C, dx, fs, rfl, ha, hok, hl, h⟩
theorem wp_raise {E : XK} {t : TA} (h : t σ H fun xs H1 => xs.length ≤ sizeLine ∧ E (.ref C) none H1) : tRaise E C t D σ H := h
end
end L2
namespace L2
open PySem PySem.Spec PyProof.Rows
theorem lineV_rev (l : List Nat) : (lineV l).reverse = lineV l.reverse := by unfold lineV; rw [List.map_reverse]
theorem lineV_app (l m : List Nat) : lineV (l ++ m) = lineV l ++ lineV m := by unfold lineV; rw [List.map_append]
theorem lineV_len (l : List Nat) : (lineV l).length = l.length := by unfold lineV; rw [List.length_map]
end L2
namespace L2
open PySem PySem.Spec PyProof.Rows
section
variable {σ : St} {H H' : Hp} {D : Ends} {K : PySem.W.Frag} {x a : Addr}
theorem wp_try' {CB : Addr} {i : Nat} {z : St} {tb : XK → TS} {ts : TS} (h : ∀ HE : XK, HE = handE K CB i z ts D → tb HE D σ H) : tTry K CB i z tb ts D σ H := h _ rfl
theorem none_same (s : Same H H') (h : H' a = none) : H a = none := by
  cases q : H a with
  | none => rfl
  | some o => have := s _ _ q; rw [h] at this; cases this
theorem none_sameX (s : SameX x H H') (h : H' a = none) (hx : a ≠ x) : H a = none := by
  cases q : H a with
  | none => rfl
  | some o => have := s _ _ hx q; rw [h] at this; cases this
theorem wp_lstF {xs : List V} {Q : VK} (hz : xs.length ≤ 1000) (h : ∀ a H', Same H H' → H' a = some (.lst xs) → H a = none → Q (.ref a) H') : lstK xs H Q := ⟨Nat.le_of_lt (small1000 hz), fun p hp => h p _ (Same.upd hp) upd_same hp⟩
theorem wp_dnewK {Q : VK} (h : ∀ a H', Same H H' → H a = none → Q (.ref a) H') : tDNewK σ H Q := fun p hp => h p _ (Same.upd hp) hp
theorem wp_callE {sp : Sp} {E : XK} {t : TA} {Q : VK} (h : t σ H fun vs H1 => sp vs H1 Q E) : tCallE sp E t σ H Q := h
end
theorem len1 {α : Type} {P : List α → Prop} (h : ∀ a, P [a]) : ∀ us, us.length = 1 → P us
  | [a], _ => h a
theorem len2 {α : Type} {P : List α → Prop} (h : ∀ a b, P [a, b]) : ∀ us, us.length = 2 → P us
  | [a, b], _ => h a b
theorem len3 {α : Type} {P : List α → Prop} (h : ∀ a b c, P [a, b, c]) : ∀ us, us.length = 3 → P us
  | [a, b, c], _ => h a b c
theorem len4 {α : Type} {P : List α → Prop} (h : ∀ a b c d, P [a, b, c, d]) : ∀ us, us.length = 4 → P us
  | [a, b, c, d], _ => h a b c d
end L2

set_option Elab.async false
set_option linter.all false
set_option maxRecDepth 100000
set_option maxHeartbeats 0
namespace L2
open PySem PySem.Spec PyProof.Rows
/-! ### texts cut at a text, and joined -/
theorem vals_strs : ∀ l : List (Str × Tok), Vals ((l.map (·.1)).map V.str) (strValues l)
  | [] => .nil
  | (x, t) :: l => .cons ⟨t, rfl⟩ (vals_strs l)
theorem strs_of_vals : ∀ {ss : List Str} {us : List Value}, Vals (ss.map V.str) us → ∃ l : List (Str × Tok), us = strValues l ∧ l.map (·.1) = ss
  | [], us, r => by cases r; exact ⟨[], rfl, rfl⟩
  | x :: ss, us, r => by
    cases r with
    | @cons _ u _ us ru rr =>
      obtain ⟨t, rfl⟩ := ru
      obtain ⟨l, rfl, e⟩ := strs_of_vals rr
      exact ⟨(x, t) :: l, rfl, by rw [List.map_cons, e]⟩
theorem split_len (x y : Str) : (Txt.split x y).length ≤ x.length + 2 := by
  unfold Txt.split
  split
  · simp
  · split
    · simp
    · rw [length_partsBetween]
      have := StrLaws.occ_length_le x y 0 x.length (x.length + 1)
      omega
section
variable {X : Cx}
def rSplit : V → List V → Hp → VK → Prop := fun x vs H Q => ∃ (z y : Str), x = .str z ∧ vs = [.str y] ∧ (y.length == 0) = false ∧ z.length + 2 ≤ sizeLine ∧ ∀ p, H p = none → Q (.ref p) (upd H p (.lst ((Txt.split z y).map V.str)))
theorem mt_split : MtR X "str.split" rSplit := by
  intro pins s σ H x xs v us Q I rx rv h
  obtain ⟨z, y, rfl, rfl, hy, hz, q⟩ := h
  obtain ⟨t, rfl⟩ := rx
  obtain ⟨w, rfl, u, rfl⟩ := rv.one
  have hl := split_len z y
  have fin : ∀ (l : List (Str × Tok)) (tk : Nat), l.map (·.1) = Txt.split z y → EP X pins σ Q (.ref s.heap.objs.size) { s with heap := s.heap.push { cls := .type "list", data := .seq (strValues l).toArray }, toks := tk } := fun l tk e => by
    refine ⟨.ref s.heap.objs.size, _, I.laid (a := s.heap.objs.size) (o := .lst ((Txt.split z y).map V.str)) (t' := tk) (fun b o e => Heap.get?_push_of_some _ e) (Nat.le_refl _) ⟨by rw [List.length_map]; omega, strValues l, 0, ?_, Heap.get?_push_size _ rfl⟩, rfl, q _ (I.hok.fresh (Nat.le_refl _))⟩
    rw [← e]
    exact vals_strs l
  have hsz2 : (Builtin.Str.partsBetween z (Builtin.Str.occurrences z y 0 z.length (z.length + 1)) y.length).length ≤ sizeLine := by
    rw [length_partsBetween]
    have := StrLaws.occ_length_le z y 0 z.length (z.length + 1)
    omega
  cases h1 : (decide (z.length < y.length) || decide (Builtin.Str.strKind z < Builtin.Str.strKind y))
  · cases hf : (Builtin.Str.occurrences z y 0 z.length (z.length + 1)).isEmpty
    · refine call_meets PySem.F.slot_str_split (typeIs_str _ _ _) PySem.F.entry_str_split (PySem.F.args_str_split_2 _ _) (meets_str_split_sep z y t u h1 hy hf (by omega) hsz2) ?_
      show wants _ _ _ { s with toks := _, heap := s.heap.push { cls := .type "list", data := .seq (strsFrom s.toks (Builtin.Str.partsBetween z (Builtin.Str.occurrences z y 0 z.length (z.length + 1)) y.length)).toArray } }
      rw [strsFrom_eq]
      exact fin (numbered s.toks _) _ ((numbered_texts _ _).trans ((if_neg (ne_true_of_eq_false h1)).trans (if_neg (ne_true_of_eq_false hf))).symm)
    · exact call_meets PySem.F.slot_str_split (typeIs_str _ _ _) PySem.F.entry_str_split (PySem.F.args_str_split_2 _ _) (meets_str_split_not_found z y t u h1 hy hf)
        (fin [(z, t)] s.toks ((if_neg (ne_true_of_eq_false h1)).trans (if_pos hf)).symm)
  · exact call_meets PySem.F.slot_str_split (typeIs_str _ _ _) PySem.F.entry_str_split (PySem.F.args_str_split_2 _ _) (meets_str_split_cannot_occur z y t u h1)
      (fin [(z, t)] s.toks (if_pos h1).symm)
def rJoin (K : PySem.W.Frag) : V → List V → Hp → VK → Prop := fun x vs H Q => ∃ (y : Str) (p : Addr) (ss : List Str), x = .str y ∧ vs = [.ref p] ∧ SqL K H p (ss.map V.str) ∧ JoinOk y ss = true ∧ Q (.str (Txt.join y ss)) H
theorem mt_join : MtR X "str.join" (rJoin X.K) := by
  intro pins s σ H x xs v us Q I rx rv h
  obtain ⟨y, p, ss, rfl, rfl, hq, hok, q⟩ := h
  obtain ⟨t, rfl⟩ := rx
  obtain ⟨w, rfl, rw'⟩ := rv.one
  cases rw'
  obtain ⟨its, r, pl, hz⟩ := I.list hq
  obtain ⟨l, rfl, e⟩ := strs_of_vals r
  exact SC.join pl.isList e hok fun t' k => ⟨.str _, H, I.tok k, ⟨t', rfl⟩, q⟩
theorem wp_split {H : Hp} {Q : VK} {z y : Str} (hy : (y.length == 0) = false) (hz : z.length + 2 ≤ sizeLine) (q : ∀ p H', Same H H' → H p = none → H' p = some (.lst ((Txt.split z y).map V.str)) → Q (.ref p) H') : rSplit (.str z) [.str y] H Q := ⟨z, y, rfl, rfl, hy, hz, fun p hp => q p _ (Same.upd hp) hp upd_same⟩
theorem wp_join {K : PySem.W.Frag} {H : Hp} {Q : VK} {y : Str} {p : Addr} {ss : List Str} (hq : SqL K H p (ss.map V.str)) (hok : JoinOk y ss = true) (q : Q (.str (Txt.join y ss)) H) : rJoin K (.str y) [.ref p] H Q := ⟨y, p, ss, rfl, rfl, hq, hok, q⟩
end
/-! what is joined by a sign that none of them has is cut again into these -/
theorem cps_app (a b : Str) : (a ++ b).cps = a.cps ++ b.cps := rfl
theorem str_ext {a b : Str} (h : a.cps = b.cps) : a = b := by cases a; cases b; cases h; rfl
theorem join_cons (y a b : Str) (r : List Str) : Str.join y (a :: b :: r) = a ++ y ++ Str.join y (b :: r) := by
  first | rfl | (unfold Str.join; rfl) | simp [Str.join]
theorem cut_uniq {c : Nat} {l1 l2 r1 r2 : List Nat} (h1 : c ∉ l1) (h2 : c ∉ l2) : l1 ++ c :: r1 = l2 ++ c :: r2 → l1 = l2 ∧ r1 = r2 := by
  induction l1 generalizing l2 with
  | nil =>
    cases l2 with
    | nil => intro e; exact ⟨rfl, (List.cons.inj e).2⟩
    | cons x l2 => intro e; exact absurd (List.mem_cons.mpr (.inl (List.cons.inj e).1)) h2
  | cons x l1 ih =>
    cases l2 with
    | nil => intro e; exact absurd (List.mem_cons.mpr (.inl (List.cons.inj e).1.symm)) h1
    | cons z l2 =>
      intro e
      obtain ⟨e1, e2⟩ := List.cons.inj e
      obtain ⟨a, b⟩ := ih (fun z => h1 (List.mem_cons_of_mem _ z)) (fun z => h2 (List.mem_cons_of_mem _ z)) e2
      exact ⟨by rw [e1, a], b⟩
theorem join_uniq {c : Nat} : ∀ {ss ts : List Str}, ss ≠ [] → ts ≠ [] → (∀ p ∈ ss, c ∉ p.cps.toList) → (∀ p ∈ ts, c ∉ p.cps.toList) → Str.join ⟨#[c]⟩ ss = Str.join ⟨#[c]⟩ ts → ss = ts
  | [a], [b], _, _, _, _, e => by
    have : a = b := by simpa [Str.join] using e
    rw [this]
  | [a], b :: d :: ts, _, _, h1, h2, e => by
    rw [join_cons] at e
    have e1 : a = b ++ ⟨#[c]⟩ ++ Str.join ⟨#[c]⟩ (d :: ts) := by simpa [Str.join] using e
    exfalso
    refine h1 a List.mem_cons_self ?_
    rw [e1, cps_app, cps_app]
    simp
  | a :: d :: ss, [b], _, _, h1, h2, e => by
    rw [join_cons] at e
    have e1 : b = a ++ ⟨#[c]⟩ ++ Str.join ⟨#[c]⟩ (d :: ss) := by simpa [Str.join] using e.symm
    exfalso
    refine h2 b List.mem_cons_self ?_
    rw [e1, cps_app, cps_app]
    simp
  | a :: d :: ss, b :: f :: ts, _, _, h1, h2, e => by
    rw [join_cons, join_cons] at e
    have e1 := congrArg (fun x : Str => x.cps.toList) e
    simp only [cps_app, Array.toList_append, List.append_assoc] at e1
    obtain ⟨a1, a2⟩ := cut_uniq (h1 a List.mem_cons_self) (h2 b List.mem_cons_self) (by simpa using e1)
    have eab : a = b := str_ext (Array.toList_inj.mp a1)
    have er : Str.join ⟨#[c]⟩ (d :: ss) = Str.join ⟨#[c]⟩ (f :: ts) := str_ext (Array.toList_inj.mp a2)
    rw [eab, join_uniq (List.cons_ne_nil _ _) (List.cons_ne_nil _ _) (fun p hp => h1 p (List.mem_cons_of_mem _ hp)) (fun p hp => h2 p (List.mem_cons_of_mem _ hp)) er]
theorem split_ne (x y : Str) : Txt.split x y ≠ [] := by
  unfold Txt.split
  split
  · simp
  · split
    · simp
    · intro h
      have := congrArg List.length h
      rw [length_partsBetween] at this
      simp at this
theorem split_join {c : Nat} {ss : List Str} (hne : ss ≠ []) (h : ∀ p ∈ ss, c ∉ p.cps.toList) : Txt.split (Str.join ⟨#[c]⟩ ss) ⟨#[c]⟩ = ss :=
  join_uniq (split_ne _ _) hne (StrLaws.split_free _ c) h (StrLaws.join_split _ _)
end L2

set_option Elab.async false
set_option linter.all false
set_option maxRecDepth 100000
set_option maxHeartbeats 0
namespace L2
open PySem PySem.Spec PyProof.Rows
/-! ### tuples of texts: joined, made of a list, gone through -/
section
variable {X : Cx} {K : PySem.W.Frag} {σ : St} {H : Hp} {Q : VK}
def rJoinP : V → List V → Hp → VK → Prop := fun x vs H Q => ∃ (y : Str) (v : V) (ss : List Str), x = .str y ∧ vs = [v] ∧ IsP H v ss ∧ JoinOk y ss = true ∧ Q (.str (Txt.join y ss)) H
theorem mt_joinP : MtR X "str.join" rJoinP := by
  intro pins s σ H x xs v us Q I rx rv h
  obtain ⟨y, u, ss, rfl, rfl, ⟨p, rfl, hp⟩, hok, q⟩ := h
  obtain ⟨t, rfl⟩ := rx
  obtain ⟨w, rfl, rw'⟩ := rv.one
  cases rw'
  obtain ⟨its, r, pl, hz⟩ := I.tuple (.inl (.inl hp))
  obtain ⟨l, rfl, e⟩ := strs_of_vals r
  obtain ⟨o, ho, hc, n, hd⟩ := pl
  subst e
  unfold JoinOk at hok
  rw [Bool.not_eq_true'] at hok
  exact call_meets PySem.F.slot_str_join (typeIs_str _ _ _) PySem.F.entry_str_join (PySem.F.args_str_join_2 _ _) (meets_str_join_tuple y t p l hok) ⟨⟨o, n, ho, hc, hd⟩, post_join l ⟨joinFit_length hok, fun t' k => ⟨.str _, H, I.tok k, ⟨t', rfl⟩, q⟩⟩⟩
theorem wp_joinP {y : Str} {v : V} {ss : List Str} (hp : IsP H v ss) (hok : JoinOk y ss = true) (q : Q (.str (Txt.join y ss)) H) : rJoinP (.str y) [v] H Q := ⟨y, v, ss, rfl, rfl, hp, hok, q⟩
def rTupL (K : PySem.W.Frag) : List V → Hp → VK → Prop := fun xs H Q => ∃ p ss, xs = [.ref p] ∧ SqL K H p (pV ss) ∧ ∀ z H', Same H H' → IsP H' z ss → Q z H'
theorem call_tupL : CallR X (.type "tuple") (rTupL X.K) := by
  intro pins s σ H xs us Q I r h
  obtain ⟨p, ss, rfl, hq, q⟩ := h
  exact call_tuple_of pins s σ H _ us Q I r ⟨p, _, rfl, .inl ⟨hq, fun l hl => q _ _ (Same.upd hl) ⟨l, rfl, upd_same⟩⟩⟩
theorem wp_tupL {p : Addr} {ss : List Str} (hq : SqL K H p (pV ss)) (q : ∀ z H', Same H H' → IsP H' z ss → Q z H') : rTupL K [.ref p] H Q := ⟨p, ss, rfl, hq, q⟩
theorem wp_listOfP {v : V} {ss : List Str} (hp : IsP H v ss) (h : ∀ p H', Same H H' → H' p = some (.lst (pV ss)) → H p = none → Q (.ref p) H') : rListOf K [v] H Q := by
  obtain ⟨a, rfl, ha⟩ := hp
  exact ⟨a, _, rfl, .inr (.inl (.inl ha)), fun p hp => h p _ (Same.upd hp) upd_same hp⟩
theorem comp_tup {a : Addr} {xs : List V} {tc : TT} {te : TE} {cvs : List V} (hz : xs.length ≤ 100000) (Pv : Addr → Nat → List V → Hp → Prop)
    (h0 : ∀ D, H D = none → Pv D 0 [] (upd H D (.lst []))) (hD : ∀ D i acc H', H D = none → i ≤ xs.length → Pv D i acc H' → H' D = some (.lst acc) ∧ acc.length ≤ i ∧ SqT K H' a xs)
    (hs : ∀ D i x acc H' (N : List V → Hp → Prop), H D = none → xs[i]? = some x → acc.length < sizeLine → (∀ acc' H2, Pv D (i + 1) acc' H2 → N acc' H2) → Pv D i acc H' → tc (some x :: cvs.map some) H' fun b H2 => if b = true then te (some x :: cvs.map some) H2 fun y H3 => H3 D = some (.lst acc) ∧ acc.length < sizeLine ∧ N (acc ++ [y]) (upd H3 D (.lst (acc ++ [y]))) else N acc H2)
    (hd : ∀ D acc H', H D = none → Pv D xs.length acc H' → Q (.ref D) H') : compK tc te cvs Q (Itt K a) H := by
  intro D hDn
  refine ⟨fun i m acc H' => m = xs.length - i ∧ i ≤ xs.length ∧ Pv D i acc H', ⟨_, rfl, Nat.zero_le _, h0 D hDn⟩, ?_⟩
  rintro i m acc H' ⟨rfl, hi, hp⟩
  obtain ⟨d1, d2, d3⟩ := hD D i acc H' hDn hi hp
  refine ⟨d1, ?_⟩
  by_cases hlt : i < xs.length
  · refine .inr ⟨⟨xs, xs[i], d3, by simp [hlt]⟩, fun v H2 y => ?_⟩
    obtain ⟨e, y⟩ := y
    subst e
    exact hs D i v acc _ (fun acc' H'' => ∃ m', m' < xs.length - i ∧ (m' = xs.length - (i + 1) ∧ i + 1 ≤ xs.length ∧ Pv D (i + 1) acc' H'')) hDn (y xs d3) (by rw [sizeLine_eq]; omega) (fun acc' H'' hp' => ⟨xs.length - (i + 1), by omega, rfl, hlt, hp'⟩) hp
  · have e : i = xs.length := by omega
    subst e
    exact .inl ⟨⟨xs, d3, Nat.le_refl _⟩, hd D acc H' hDn hp⟩
theorem wp_tupI {tl : TE} {R : It → Hp → Prop} (h : tl σ H fun x H1 => ∃ a, x = .ref a ∧ (∃ xs, SqT K H1 a xs) ∧ R (Itt K a) H1) : iTup K tl σ H R := h
def rNotInS : R2 := fun x y H Q => ∃ i j, x = .str i ∧ y = .str j ∧ Q (.bl (!(!(Builtin.Str.occurrences j i 0 j.length 1).isEmpty))) H
theorem op_notInS : OpR X (compareOp .NotIn) rNotInS := op_notin_str
theorem wp_notInS {i j : Str} (h : Q (.bl (!(!(Builtin.Str.occurrences j i 0 j.length 1).isEmpty))) H) : rNotInS (.str i) (.str j) H Q := ⟨i, j, rfl, rfl, h⟩
theorem wp_isNr {a : Addr} (h : Q (.bl false) H) : rIsN (.ref a) .non H Q := ⟨rfl, by rw [decide_eq_false (fun z => nomatch z)]; exact h⟩
theorem wp_raiseI {E : XK} {C : Addr} {sp : Sp} {t : TA} {D : Ends} (h : t σ H fun xs H1 => xs.length ≤ sizeLine ∧ ∀ a, H1 a = none → sp (.ref a :: xs) (upd H1 a (excN a C none)) (fun v H2 => v = .non ∧ ∃ d, H2 a = some (excN a C d) ∧ E (.ref C) d (delH H2 a)) (fun _ _ _ => False)) : tRaiseI E C sp t D σ H := h
theorem wp_excAt {ta : TE} {f : Str} (h : ta σ H fun x H1 => ∃ a C dx fs n, x = .ref a ∧ H1 a = some (excHO a C (some dx)) ∧ H1 dx = some (.xd fs) ∧ fs.lookup f = some (.int n) ∧ ExcF K C ∧ ExcS K C f ∧ Q (.int n) H1) : tExcAt K ta f σ H Q := h
theorem wp_sexc {ta tv : TE} {f : Str} {D : Ends} (h : tv σ H fun y H1 => ta σ H1 fun x H2 => ∃ a C, x = .ref a ∧ H2 a = some (excN a C none) ∧ ExcS K C f ∧ ∀ dx, H2 dx = none → dx ≠ a → D.nx σ (upd (upd H2 dx (.xd [(f, y)])) a (excN a C (some dx)))) : sExc K ta tv f D σ H := h
theorem pe_excAtK {K : PySem.W.Frag} {o : Expr} {f : Str} {pos : Pos} {ta : TE} (ha : PE X o ta) (hK : X.K = K := by rfl) (hb : attributeBase o f X.env (eval o X.env) = eval o X.env := by rfl) : PE X (.Attribute o f pos) (tExcAt K ta f) := by
  subst hK
  exact pe_excAt ha hb
/-- __init__(self, at): Base.__init__(self, at); self.at = at -/
def spAtI (C : Addr) : Sp := fun vs H Q _ => ∃ (a : Addr) (n : Int), vs = [.ref a, .int n] ∧ H a = some (excN a C none) ∧ ∀ dx, H dx = none → dx ≠ a → Q .non (upd (upd H dx (.xd [("at", .int n)])) a (excN a C (some dx)))
/-- raise C(n) where C's __init__ is such a one -/
theorem raise_at {E : XK} {C : Addr} {n : Int} (h : ∀ dx H', Same H H' → H dx = none → H' dx = some (.xd [("at", .int n)]) → E (.ref C) (some dx) H') :
    [V.int n].length ≤ sizeLine ∧ ∀ a, H a = none → spAtI C (.ref a :: [V.int n]) (upd H a (excN a C none)) (fun v H2 => v = .non ∧ ∃ d, H2 a = some (excN a C d) ∧ E (.ref C) d (delH H2 a)) (fun _ _ _ => False) := by
  refine ⟨by rw [sizeLine_eq]; show 1 ≤ _; omega, fun a ha => ⟨a, n, rfl, upd_same, fun dx hdx hne => ⟨rfl, some dx, upd_same, ?_⟩⟩⟩
  rw [upd_ne hne] at hdx
  refine h dx _ (fun b o e => ?_) hdx ?_
  · have n1 : b ≠ a := ne_of_none e ha
    have n2 : b ≠ dx := ne_of_none e hdx
    rw [delH_ne n1, upd_ne n1, upd_ne n2, upd_ne n1]
    exact e
  · rw [delH_ne hne, upd_ne hne]
    exact upd_same
end
section
variable {P : Program} {w : World} {K : PySem.W.Frag} {mg : Str → Option Value} {base : Heap}
theorem Mt.okX {C : Addr} {x qual : Str} {st : Stmt} {N ps : List Str} {k : Nat} {sp : Sp} (F : Mt K C x qual st ps) (S : FnScope N ps (defScope st)) (len : ∀ vs H Q E, sp vs H Q E → vs.length = ps.length)
    (hbody : ∀ (f : Addr) (cdv : Value) (A : Around) (outer : List Env) (s : Shared) (H : Hp) (vs : List V) (Q : VK) (E : XK), Room k (A.deeper (envOfC qual (defScope st) s.heap.objs.size f cdv)) → sp vs H Q E →
      ∃ t, PSs (cxE P w K mg base N qual (defScope st) f cdv A outer s H E) (defBody st) t ∧ t { nx := fun _ H' => Q .non H', rt := Q } (start N vs) H) :
    ∃ f fd, PySem.W.findIn K (.ref C) x = some (some (.ref f)) ∧ FnOk P w K mg base (CXE P w) (k + 1) f fd ps sp ∧ Binds K fd ps [] := by
  obtain ⟨f, fd, F, hf, hi, hb⟩ := F.ex
  obtain ⟨oc, od, kV, doc, pm, an, cdv, ct, osl, rfl, lk, hcd⟩ := F.ex
  exact ⟨f, _, hf, fn_of lk hcd S len fun A outer s H vs Q E hr hsp => hbody f cdv A outer s H vs Q E hr hsp, hb⟩
end
/-! ### texts cut at their first sign -/
theorem slice_1 (x : Str) : Txt.slice x (some 1) none = ⟨(x.cps.toList.drop 1).toArray⟩ := by
  by_cases h : 1 ≤ x.cps.toList.length
  · refine (StrLaws.sliceText_from (x := x) (i := 1) ⟨by omega, by omega⟩).trans ?_
    rw [List.take_of_length_le (by rw [List.length_drop]; omega)]
    rfl
  · have e : x.cps.toList = [] := List.length_eq_zero_iff.mp (by omega)
    have e2 : x = ⟨#[]⟩ := str_ext (Array.toList_inj.mp e)
    subst e2
    decide
theorem slice_to1 (x : Str) : Txt.slice x none (some 1) = ⟨(x.cps.toList.take 1).toArray⟩ := by
  by_cases h : 1 ≤ x.cps.toList.length
  · exact (StrLaws.sliceText_to (x := x) (j := 1) ⟨by omega, by omega⟩)
  · have e : x.cps.toList = [] := List.length_eq_zero_iff.mp (by omega)
    have e2 : x = ⟨#[]⟩ := str_ext (Array.toList_inj.mp e)
    subst e2
    decide
theorem str_cut1 (x : Str) : Txt.slice x none (some 1) ++ Txt.slice x (some 1) none = x := by
  rw [slice_1, slice_to1]
  refine str_ext (Array.toList_inj.mp ?_)
  rw [cps_app, Array.toList_append]
  exact List.take_append_drop 1 _
theorem join_eq (y : Str) (ss : List Str) : Txt.join y ss = Str.join y ss := StrLaws.glued_eq_join y ss
theorem joinOk_split {x y : Str} (hx : x.length ≤ 100000) (hy : y.length ≤ 1) : JoinOk y (Txt.split x y) = true := by
  refine joinOk_of ?_
  have h1 := len_join_ge_sum y (Txt.split x y)
  rw [join_eq, StrLaws.join_split] at h1
  have h2 := split_len x y
  have h3 : (Txt.split x y).length * y.length ≤ (Txt.split x y).length * 1 := Nat.mul_le_mul_left _ hy
  omega
theorem joinOk_few {y : Str} {ss : List Str} (h : ∀ s ∈ ss, s.length ≤ 100) (hn : ss.length ≤ 1000) (hy : y.length ≤ 1) : JoinOk y ss = true := by
  refine joinOk_of ?_
  have h1 : ∀ l : List Str, (∀ s ∈ l, s.length ≤ 100) → (l.map (·.length)).sum ≤ 100 * l.length := by
    intro l
    induction l with
    | nil => intro _; simp
    | cons a l ih =>
      intro h
      have := ih fun s hs => h s (List.mem_cons_of_mem _ hs)
      have := h a List.mem_cons_self
      rw [List.map_cons, List.sum_cons, List.length_cons]
      omega
  have h2 := h1 ss h
  have h3 : ss.length * y.length ≤ ss.length * 1 := Nat.mul_le_mul_left _ hy
  omega
theorem join_len {y : Str} {ss : List Str} (h : ∀ s ∈ ss, s.length ≤ 100) (hy : y.length ≤ 1) : (Str.join y ss).length ≤ 101 * ss.length := by
  have h0 := StrLaws.join_length_le y ss
  have h1 : ∀ l : List Str, (∀ s ∈ l, s.length ≤ 100) → (l.map (·.length)).sum ≤ 100 * l.length := by
    intro l
    induction l with
    | nil => intro _; simp
    | cons a l ih =>
      intro h
      have := ih fun s hs => h s (List.mem_cons_of_mem _ hs)
      have := h a List.mem_cons_self
      rw [List.map_cons, List.sum_cons, List.length_cons]
      omega
  have h2 := h1 ss h
  have h3 : ss.length * y.length ≤ ss.length * 1 := Nat.mul_le_mul_left _ hy
  omega
end L2

set_option Elab.async false
set_option linter.all false
set_option maxRecDepth 100000
set_option maxHeartbeats 0
namespace My
open PySem L2 PyProof.Rows
local macro_rules | `(tactic| walk_at "isp") => `(tactic| (first | assumption | exact IsP.same (by assumption) (by assumption) | exact IsP.same (by assumption) (Same.trans (by assumption) (by assumption)) | (refine IsP.same (by assumption) ?_; (repeat (first | assumption | refine Same.trans (by assumption) ?_)); done)))
local macro_rules | `(tactic| walk_at "sam") => `(tactic| (first | assumption | exact Same.refl _ | exact Same.trans (by assumption) (by assumption) | (refine Same.trans (by assumption) ?_; (repeat (first | assumption | refine Same.trans (by assumption) ?_)); done)))
local macro_rules | `(tactic| walk_at "isd") => `(tactic| (first | assumption | exact IsD.same (by assumption) (by assumption) | (refine IsD.same (by assumption) ?_; (repeat (first | assumption | refine Same.trans (by assumption) ?_)); done)))
local macro_rules | `(tactic| walk_at "ist") => `(tactic| (first | assumption | exact IsT.same (by assumption) (by assumption) | (refine IsT.same (by assumption) ?_; (repeat (first | assumption | refine Same.trans (by assumption) ?_)); done)))
local macro_rules | `(tactic| walk_at "ats") => `(tactic| (first | assumption | exact upd_same | (refine at_same (by assumption) ?_; (repeat (first | assumption | refine Same.trans (by assumption) ?_)); done)))
local macro_rules | `(tactic| walk_at "prune") => `(tactic| (exfalso; first | contradiction | omega | (rename_i hh; exact absurd hh (by decide)) | (rename_i hh; exact hh rfl)))
local macro_rules | `(tactic| walk_at "side") => `(tactic| (first | assumption | omega | (have hsz := sizeLine_eq; have := lit_ab; have := lit_q; have := lit_az; have := lit_a; have := lit_0; simp only [str_app_len]; omega) | (have hsz := sizeLine_eq; have := lit_ab; have := lit_q; have := lit_az; have := lit_a; have := lit_0; omega)))
local macro_rules | `(tactic| walk_at "rd0") => `(tactic| (first
  | ((with_reducible refine' wp_var ?hv ?_); (case hv => exact rfl))
  | (with_reducible refine wp_seq ?_)
  | (with_reducible refine wp_asg ?_)
  | (with_reducible refine wp_name ?_)
  | (with_reducible refine wp_op ?_)
  | (with_reducible refine wp_c ?_)
  | (with_reducible refine wp_test ?_)
  | (with_reducible refine wp_tB ?_)
  | (with_reducible refine wp_ifS ?_)
  | (with_reducible refine wp_ret ?_)
  | (with_reducible refine wp_retN ?_)
  | (with_reducible refine wp_next ?_)
  | (with_reducible refine wp_drop ?_)
  | (with_reducible refine wp_un ?_)
  | (with_reducible refine wp_rU ?_)
  | (with_reducible refine wp_rI0 ?_)
  | (with_reducible refine wp_rEqI ?_)
  | (with_reducible refine wp_rNeI ?_)
  | (with_reducible refine wp_rEqS ?_)
  | (with_reducible refine wp_rNeS ?_)
  | (with_reducible refine wp_rEqB ?_)
  | (with_reducible refine wp_rNeB ?_)
  | (with_reducible refine wp_bl ?_)
  | (with_reducible refine wp_int ?_)
  | (with_reducible refine wp_and ?_)
  | (with_reducible refine wp_or ?_)
  | (with_reducible refine wp_not ?_)
  | (with_reducible refine wp_andV ?_)
  | (with_reducible refine wp_orV ?_)
  | (with_reducible refine wp_notV ?_)
  | (with_reducible refine wp_ifE ?_)
  | (with_reducible refine wp_chain ?_)
  | (with_reducible refine wp_nil ?_)
  | (with_reducible refine wp_cons ?_)
  | (with_reducible refine wp_cB ?_)
  | (with_reducible refine wp_call ?_)
  | (with_reducible refine wp_noPart ?_)
  | (with_reducible refine wp_part ?_)
  | (with_reducible refine wp_sl ?_)
  | (with_reducible refine wp_for ?_)
  | (with_reducible refine wp_rng1 ?_)
  | (with_reducible refine wp_list ?_)
  | (with_reducible refine wp_ituple ?_)
  | (with_reducible refine wp_tup ?_)
  | (with_reducible refine wp_lst ?_)
  | ((with_reducible refine wp_rI ?hc ?_); (case hc => first | decide | (show CMul _ _; unfold CMul; omega) | (show CDiv _ _; unfold CDiv; omega) | (show (0:Int) < _; omega) | (show CPow _ _; unfold CPow; decide)))))
local macro_rules | `(tactic| walk_at "rdt") => `(tactic| (first
  | ((with_reducible refine wp_iteP ?_ ?_) <;> intro _ <;> try walk_at "prune")
  | ((with_reducible refine wp_iteN ?_ ?_) <;> intro _ <;> try walk_at "prune")
  | ((with_reducible refine wp_iteNB ?_ ?_) <;> intro _ <;> try walk_at "prune")
  | ((with_reducible refine wp_iteB ?_ ?_) <;> intro _ <;> try walk_at "prune")
  | (with_reducible refine iteT ?_)
  | (with_reducible refine iteF ?_)))
local macro_rules | `(tactic| walk_at "rds") => `(tactic| (first
  | ((with_reducible refine wp_ixS' ?a ?b ?c ?_); (case a => walk_at "side"); (case b => walk_at "side"); (case c => walk_at "side"); intro _ _ _)
  | ((with_reducible refine wp_slS ?a ?_); (case a => walk_at "side"); intro _ _ _)
  | ((with_reducible refine wp_addS ?a ?_); (case a => walk_at "side"))
  | ((with_reducible refine wp_lenS ?a ?_); (case a => walk_at "side"))
  | ((with_reducible refine wp_mulS ?a ?b ?c ?_); (case a => walk_at "side"); (case b => walk_at "side"); (case c => walk_at "side"); intro _)
  | (with_reducible refine wp_ltS ?_)
  | (with_reducible refine wp_gtS ?_)
  | ((with_reducible refine wp_rng1' ?a ?b ?_); (case a => walk_at "side"); (case b => walk_at "side"))))
local macro_rules | `(tactic| walk_at "rdp") => `(tactic| (first
  | ((with_reducible refine' wp_lenP ?hp ?_); (case hp => walk_at "isp"))
  | ((with_reducible refine' wp_eqP ?hp ?hq ?_); (case hp => walk_at "isp"); (case hq => walk_at "isp"))
  | ((with_reducible refine' wp_neP ?hp ?hq ?_); (case hp => walk_at "isp"); (case hq => walk_at "isp"))
  | ((with_reducible refine' wp_catP ?hp ?hq ?hl ?_); (case hp => walk_at "isp"); (case hq => walk_at "isp"); (case hl => walk_at "side"); intro _ _ _ _ _ _ _)
  | ((with_reducible refine' wp_slP ?hp ?_); (case hp => walk_at "isp"); intro _ _ _ _ _ _ _)
  | ((with_reducible refine wp_tupP0 ?_); intro _ _ _ _)
  | ((with_reducible refine wp_tupP1 ?_); intro _ _ _ _ _ _ _)
  | ((with_reducible refine wp_tupP2 ?_); intro _ _ _ _ _ _ _)
  | ((with_reducible refine' wp_isiP ?hp ?hk ?_); (case hp => walk_at "isp"); (case hk => rfl))
  | ((with_reducible refine wp_isiS ?hk ?_); (case hk => rfl))
  | ((with_reducible refine wp_isiB ?hk ?_); (case hk => rfl))))
local macro_rules | `(tactic| walk_at "rdo") => `(tactic| (first
  | (with_reducible refine wp_make ?_)
  | (with_reducible refine wp_methD ?_)
  | (with_reducible refine wp_fld ?_)
  | (with_reducible refine wp_sfld ?_)
  | ((with_reducible refine' wp_fldK ?ha ?hc ?hn ?hl ?_); (case ha => walk_at "ats"); (case hc => assumption); (case hn => assumption); (case hl => exact rfl))
  | ((with_reducible refine' wp_sfK ?ha ?hc ?hn ?hl ?_); (case ha => walk_at "ats"); (case hc => assumption); (case hn => assumption); (case hl => first | decide | (show (0:Nat) < 1000; decide) | (show (1:Nat) < 1000; decide) | (show (2:Nat) < 1000; decide) | (show (3:Nat) < 1000; decide)))
  | ((with_reducible refine' wp_ixT ?ha ?hv ?_); (case ha => walk_at "ats"); (case hv => exact rfl))
  | ((with_reducible refine' mk_put ?hp ?_); (case hp => walk_at "isp"); intro _ _ _ _)
  | ((with_reducible refine' mk_cut ?hp ?_); (case hp => walk_at "isp"); intro _ _ _ _)
  | ((with_reducible refine' mk_set ?hp ?_); (case hp => walk_at "isp"); intro _ _ _ _)
  | ((with_reducible refine' mk_move ?hp ?hq ?_); (case hp => walk_at "isp"); (case hq => walk_at "isp"); intro _ _ _ _)
  | ((with_reducible refine' wp_tput ?hp ?_); (case hp => walk_at "isp"); intro _ _ _ _)
  | ((with_reducible refine' wp_tcut ?hp ?_); (case hp => walk_at "isp"); intro _ _ _ _)
  | ((with_reducible refine' wp_tset ?hp ?_); (case hp => walk_at "isp"); intro _ _ _ _)
  | ((with_reducible refine' wp_tmove ?hp ?hq ?_); (case hp => walk_at "isp"); (case hq => walk_at "isp"); intro _ _ _ _)
  | ((with_reducible refine' use_told ?hd ?_); (case hd => walk_at "isd"); intro _ _ _ _)
  | ((with_reducible refine' use_back ?hd ?_); (case hd => walk_at "isd"); intro _ _ _ _)))
local macro_rules | `(tactic| walk_at "st") => `(tactic| (first
  | walk_at "rd0"
  | walk_at "rdt"
  | walk_at "rds"
  | walk_at "rdp"
  | walk_at "rdo"))
def top (i : Nat) : Stmt := PySem.Challenge.pw_boughback_k82_paths_written.main.body.getD i (.Pass ⟨0, 0, 0, 0⟩)
abbrev sis_name : Stmt := top 3
abbrev sis_path : Stmt := top 4
abbrev sshow_path : Stmt := top 10
abbrev sread_path : Stmt := top 11
abbrev s_law_at : Stmt := top 13
abbrev s_law_name : Stmt := top 14
abbrev s_law_spoiled : Stmt := top 15
abbrev s_law_due : Stmt := top 16
abbrev s_law_refused : Stmt := top 17
abbrev s_law_reads : Stmt := top 18
abbrev slaw : Stmt := top 19
abbrev sNoText___init__ : Stmt := inClass (top 7) 0
structure Ek where
  xBoughError : Addr
  xNoText : Addr
structure Txt (K : PySem.W.Frag) (mg : Str → Option Value) (e : Ek) : Prop where
  b_len : mg "len" = none
  b_range : mg "range" = none
  b_isinstance : mg "isinstance" = none
  b_bool : mg "bool" = none
  b_all : mg "all" = none
  b_tuple : mg "tuple" = none
  b_list : mg "list" = none
  b_int : mg "int" = none
  b_str : mg "str" = none
  mBoughError : mg "BoughError" = some (.ref e.xBoughError)
  mNoText : mg "NoText" = some (.ref e.xNoText)
  g_LETTERS : ∃ t, mg "LETTERS" = some (.str (Str.ofString "abcdefghijklmnopqrstuvwxyz") t)
  g_LONGEST_NAME : ∃ t, mg "LONGEST_NAME" = some (.int 8 t)
  g_MOST_NAMES : ∃ t, mg "MOST_NAMES" = some (.int 40 t)
  baseI : BaseI K e.xBoughError
  xs : ExcS K e.xNoText "at"
  xf : ExcF K e.xNoText
  exm : PySem.W.exmOne K (.ref e.xNoText) (.ref e.xNoText) = some true
  kit : PySem.W.kitOne K (.ref e.xNoText) (.ref e.xBoughError) = some true

theorem sl_mk : (Str.ofString "/") = ⟨#[47]⟩ := by decide
theorem sl_len : ((Str.ofString "/")).length = 1 := by decide
def inL (c : Nat) : Bool := !(Builtin.Str.occurrences (Str.ofString "abcdefghijklmnopqrstuvwxyz") ⟨#[c]⟩ 0 (Str.ofString "abcdefghijklmnopqrstuvwxyz").length 1).isEmpty
def isN (x : Str) : Bool := decide (1 ≤ x.length) && (decide (x.length ≤ 8) && x.cps.toList.all inL)
def names (t : Str) : List Str := Txt.split (Txt.slice t (some 1) none) (Str.ofString "/")
def dueP (t : Str) : Option (List Str) := if t = (Str.ofString "/") then some [] else if Txt.slice t none (some 1) = (Str.ofString "/") ∧ (names t).all isN = true ∧ (names t).length ≤ 40 then some (names t) else none
theorem names_len (t : Str) : (names t).length ≤ t.length + 2 := by
  have h1 := split_len (Txt.slice t (some 1) none) (Str.ofString "/")
  have h2 := Txt.slice_le t (some 1) none
  unfold names
  omega
theorem names_each (t : Str) : ∀ x ∈ names t, x.length ≤ t.length := by
  have h1 := len_join_ge_sum (Str.ofString "/") (names t)
  unfold names at h1
  rw [join_eq, StrLaws.join_split] at h1
  have h2 := Txt.slice_le t (some 1) none
  intro x hx
  have h3 : ∀ (l : List Str), x ∈ l → x.length ≤ (l.map (·.length)).sum := by
    intro l
    induction l with
    | nil => intro h; exact nomatch h
    | cons a l ih =>
      intro h
      rw [List.map_cons, List.sum_cons]
      rcases List.mem_cons.mp h with h | h
      · subst h; omega
      · have := ih h; omega
  have h4 := h3 _ hx
  unfold names at h4
  omega
theorem join_names (t : Str) : Str.join (Str.ofString "/") (names t) = Txt.slice t (some 1) none := StrLaws.join_split _ _
theorem shown_names (t : Str) : ((Str.ofString "/") ++ Str.join (Str.ofString "/") (names t) = t) ↔ Txt.slice t none (some 1) = (Str.ofString "/") := by
  rw [join_names]
  constructor
  · intro h
    have h2 := str_cut1 t
    rw [slice_to1]
    rw [← h]
    refine str_ext ?_
    rw [cps_app]
    rw [sl_mk]
    simp
  · intro h
    have h2 := str_cut1 t
    rw [h] at h2
    exact h2
def spIsN : Sp := fun vs H Q _ => ∃ t : Str, vs = [.str t] ∧ t.length ≤ 2000 ∧ ∀ H', Same H H' → Q (.bl (isN t)) H'
theorem use_isN {t : Str} {H : Hp} {Q : VK} {E : XK} (h1 : t.length ≤ 2000) (h : ∀ H', Same H H' → Q (.bl (isN t)) H') : spIsN [.str t] H Q E := ⟨t, rfl, h1, h⟩
def spIsP : Sp := fun vs H Q _ => ∃ (v : V) (p : List Str), vs = [v] ∧ IsP H v p ∧ p.length ≤ 2000 ∧ (∀ x ∈ p, x.length ≤ 2000) ∧ ∀ H', Same H H' → Q (.bl (p.all isN)) H'
def spShow : Sp := fun vs H Q _ => ∃ (v : V) (p : List Str), vs = [v] ∧ IsP H v p ∧ JoinOk (Str.ofString "/") p = true ∧ (Str.join (Str.ofString "/") p).length ≤ 100000 ∧ Q (.str ((Str.ofString "/") ++ Str.join (Str.ofString "/") p)) H
def spRead (e : Ek) : Sp := fun vs H Q E => ∃ t : Str, vs = [.str t] ∧ t.length ≤ 1900 ∧ (dueP t = none → ∀ dx H', Same H H' → H dx = none → H' dx = some (.xd [("at", .int 0)]) → E (.ref e.xNoText) (some dx) H') ∧ ∀ p, dueP t = some p → ∀ r H', Same H H' → IsP H' r p → Q r H'

def DueR (H : Hp) (r : V) : Option (List Str) → Prop
  | none => r = .non
  | some p => IsP H r p
def spAt (K : PySem.W.Frag) : Sp := fun vs H Q _ => ∃ (a : Addr) (ns : List Int) (i : Int), vs = [.ref a, .int i] ∧ 0 ≤ i ∧ SqL K H a (ns.map V.int) ∧ ∀ m : Int, Q (.int m) H
def LetS (x : Str) : Prop := ∀ c ∈ x.cps.toList, inL c = true
def spName : Sp := fun vs H Q _ => ∃ n m : Int, vs = [.int n, .int m] ∧ 8 ≤ m ∧ m ≤ 9 ∧ ∀ x : Str, 1 ≤ x.length → x.length ≤ 9 → LetS x → Q (.str x) H
theorem use_name {n m : Int} {H : Hp} {Q : VK} {E : XK} (h0 : 8 ≤ m) (h1 : m ≤ 9) (h : ∀ x : Str, 1 ≤ x.length → x.length ≤ 9 → LetS x → Q (.str x) H) : spName [.int n, .int m] H Q E := ⟨n, m, rfl, h0, h1, h⟩
def spSpoil : Sp := fun vs H Q _ => ∃ (t : Str) (n : Int), vs = [.str t, .int n] ∧ t.length ≤ 600 ∧ ∀ x : Str, x.length ≤ 1800 → Q (.str x) H
def spDue : Sp := fun vs H Q _ => ∃ t : Str, vs = [.str t] ∧ t.length ≤ 1900 ∧ ∀ r H', Same H H' → DueR H' r (dueP t) → Q r H'
def spRef : Sp := fun vs H Q _ => ∃ t : Str, vs = [.str t] ∧ t.length ≤ 1900 ∧ dueP t = none ∧ ∀ H', Same H H' → Q (.bl true) H'
def spReads : Sp := fun vs H Q _ => ∃ t : Str, vs = [.str t] ∧ t.length ≤ 1900 ∧ ∀ H', Same H H' → Q (.bl true) H'
theorem lit_odd : (Str.ofString "/aznA0 -~").length = 9 := by decide
theorem let_az : ∀ c ∈ (Str.ofString "abcdefghijklmnopqrstuvwxyz").cps.toList, inL c = true := by decide +kernel
theorem let_0 : LetS (Str.ofString "") := by intro c hc; exact absurd (show c ∈ ([] : List Nat) from hc) (by simp)
theorem LetS.app {x y : Str} (hx : LetS x) (hy : LetS y) : LetS (x ++ y) := by
  intro c hc
  rw [cps_app, Array.toList_append] at hc
  rcases List.mem_append.mp hc with h | h
  · exact hx c h
  · exact hy c h
theorem LetS.ix {y : Str} {j : Int} (h : ∃ c : Nat, atI (Str.ofString "abcdefghijklmnopqrstuvwxyz").cps.toList j = some c ∧ y = ⟨#[c]⟩) : LetS y := by
  obtain ⟨c, hc, rfl⟩ := h
  intro d hd
  have e : d = c := by simpa using hd
  rw [e]
  exact let_az c (atI_mem hc)
theorem inL_47 : inL 47 = false := by decide +kernel
theorem join_len9 {ss : List Str} (h : ∀ s ∈ ss, s.length ≤ 9) : (Str.join (Str.ofString "/") ss).length ≤ 10 * ss.length := by
  have h0 := StrLaws.join_length_le (Str.ofString "/") ss
  have h1 : ∀ l : List Str, (∀ s ∈ l, s.length ≤ 9) → (l.map (·.length)).sum ≤ 9 * l.length := by
    intro l
    induction l with
    | nil => intro _; simp
    | cons a l ih =>
      intro h
      have := ih fun s hs => h s (List.mem_cons_of_mem _ hs)
      have := h a List.mem_cons_self
      rw [List.map_cons, List.sum_cons, List.length_cons]
      omega
  have h2 := h1 ss h
  rw [sl_len] at h0
  omega
theorem isN_of {x : Str} (h1 : 1 ≤ x.length) (h8 : x.length ≤ 8) (hl : LetS x) : isN x = true := by
  unfold isN
  rw [decide_eq_true h1, decide_eq_true h8, Bool.true_and, Bool.true_and]
  exact List.all_eq_true.mpr hl
theorem cut_shown (y : Str) : Txt.slice ((Str.ofString "/") ++ y) none (some 1) = (Str.ofString "/") ∧ Txt.slice ((Str.ofString "/") ++ y) (some 1) none = y := by
  have e : ((Str.ofString "/") ++ y).cps.toList = 47 :: y.cps.toList := by
    rw [cps_app, Array.toList_append, sl_mk]
    rfl
  refine ⟨?_, ?_⟩
  · rw [slice_to1, e, sl_mk]
    rfl
  · rw [slice_1, e]
    refine str_ext ?_
    simp
theorem due_shown {p : List Str} (hp : ∀ x ∈ p, isN x = true) (hl : p.length ≤ 40) : dueP ((Str.ofString "/") ++ Str.join (Str.ofString "/") p) = some p := by
  cases p with
  | nil =>
    have e : (Str.ofString "/") ++ Str.join (Str.ofString "/") [] = (Str.ofString "/") := by decide
    rw [e]
    unfold dueP
    rw [if_pos rfl]
  | cons a r =>
    have hne : (Str.ofString "/") ++ Str.join (Str.ofString "/") (a :: r) ≠ (Str.ofString "/") := by
      intro h
      have h1 := congrArg Str.length h
      rw [str_app_len] at h1
      have h2 := len_join_ge_sum (Str.ofString "/") (a :: r)
      rw [join_eq, List.map_cons, List.sum_cons] at h2
      have h3 := hp a List.mem_cons_self
      unfold isN at h3
      have h4 : 1 ≤ a.length := of_decide_eq_true (Bool.and_eq_true_iff.mp h3).1
      omega
    have hn : names ((Str.ofString "/") ++ Str.join (Str.ofString "/") (a :: r)) = a :: r := by
      unfold names
      rw [(cut_shown _).2, sl_mk]
      refine split_join (c := 47) (List.cons_ne_nil _ _) fun x hx hc => ?_
      have h3 := hp x hx
      unfold isN at h3
      have h4 := List.all_eq_true.mp (Bool.and_eq_true_iff.mp (Bool.and_eq_true_iff.mp h3).2).2 47 hc
      rw [inL_47] at h4
      cases h4
    unfold dueP
    rw [if_neg hne, if_pos ⟨(cut_shown _).1, by rw [hn]; exact List.all_eq_true.mpr hp, by rw [hn]; exact hl⟩, hn]
section
variable {P : Program} {w : World} {K : PySem.W.Frag} {mg : Str → Option Value} {base : Heap} {e : Ek}
theorem scis_name : FnScope ["text"] ["text"] (defScope sis_name) := ⟨rfl, rfl, rfl, by decide +kernel, rfl, by decide +kernel, by decide +kernel⟩
theorem okis_name (F : Fn K mg "is_name" sis_name ["text"]) (T : Txt K mg e)  : FnAll P w K mg base "is_name" 1 ["text"] (spIsN) := by
  refine F.ok (k := 0) scis_name (fun vs H Q E h => ?_) (fun f cdv A outer s H vs Q E hr h => ?_)
  · obtain ⟨t, rfl, hl, k⟩ := h
    rfl
  · obtain ⟨t, rfl, hl, k⟩ := h
    have hu := hu16 hr
    have nd := scis_name.nd
    obtain ⟨t_LETTERS, h_LETTERS⟩ := T.g_LETTERS
    obtain ⟨t_LONGEST_NAME, h_LONGEST_NAME⟩ := T.g_LONGEST_NAME
    refine ⟨_, (pss_one (ps_ret (pe_and (pe_chain op_le op_le pe_int (pe_callB call_lenS (by rfl) T.b_len PySem.boot_len (pa_cons (pv 0) pa_nil)) (pe_glob (v := .int 8) rfl h_LONGEST_NAME ⟨t_LONGEST_NAME, rfl⟩)) (pe_one (pe_callB (call_all rfl) (by rfl) T.b_all boot_all (pa_cons (pe_comp (compScope0 rfl (by decide) (by decide +kernel) rfl) rfl (pi_str (pv 0)) (fun _ _ _ _ => pif_nil) (fun _ _ _ _ => (pe_cmpR op_inS (pv 0) (pe_glob (v := .str (Str.ofString "abcdefghijklmnopqrstuvwxyz")) rfl h_LETTERS ⟨t_LETTERS, rfl⟩) rfl))) pa_nil)))))), ?_⟩
    have est : start ["text"] [.str t] = [some (.str t)] := rfl
    rw [est]
    clear est
    have hlen : t.length = t.cps.size := rfl
    repeat' (first | (with_reducible refine wp_istr ?_) | (with_reducible refine wp_istr' ?_) | (with_reducible refine wp_comp0 ?_) | (with_reducible refine wp_inS ?_) | (with_reducible refine wp_notInS ?_) | (with_reducible refine wp_bm ?_) | (with_reducible refine wp_tupI ?_) | (with_reducible refine wp_callE ?_) | walk_at "st")
    · refine comp_str (fun c => V.bl (inL c)) (by omega) (fun c H' hc hs R hR => ?_) (fun D H' hs hD => ?_)
      · repeat' (first | (with_reducible refine wp_istr ?_) | (with_reducible refine wp_istr' ?_) | (with_reducible refine wp_comp0 ?_) | (with_reducible refine wp_inS ?_) | (with_reducible refine wp_notInS ?_) | (with_reducible refine wp_bm ?_) | (with_reducible refine wp_tupI ?_) | (with_reducible refine wp_callE ?_) | walk_at "st")
        exact hR
      · repeat' (first | (with_reducible refine wp_istr ?_) | (with_reducible refine wp_istr' ?_) | (with_reducible refine wp_comp0 ?_) | (with_reducible refine wp_inS ?_) | (with_reducible refine wp_notInS ?_) | (with_reducible refine wp_bm ?_) | (with_reducible refine wp_tupI ?_) | (with_reducible refine wp_callE ?_) | walk_at "st")
        refine ⟨D, t.cps.toList.map inL, rfl, by rw [hD, List.map_map]; rfl, ?_⟩
        have e1 : (t.cps.toList.map inL).all id = isN t := by
          unfold isN
          rw [decide_eq_true (by omega), decide_eq_true (by omega), Bool.true_and, Bool.true_and, List.all_map]
          rfl
        rw [e1]
        exact k _ hs
    · have : isN t = false := by unfold isN; rw [decide_eq_false (p := t.length ≤ 8) (by omega), Bool.false_and, Bool.and_false]
      rw [this] at k
      exact k _ (Same.refl _)
    · have : isN t = false := by unfold isN; rw [decide_eq_false (by omega), Bool.false_and]
      rw [this] at k
      exact k _ (Same.refl _)
theorem scis_path : FnScope ["thing"] ["thing"] (defScope sis_path) := ⟨rfl, rfl, rfl, by decide +kernel, rfl, by decide +kernel, by decide +kernel⟩
theorem okis_path (F : Fn K mg "is_path" sis_path ["thing"]) (T : Txt K mg e) (Fis_name : FnAll P w K mg base "is_name" 1 ["text"] (spIsN)) : FnAll P w K mg base "is_path" 2 ["thing"] (spIsP) := by
  refine F.ok (k := 1) scis_path (fun vs H Q E h => ?_) (fun f cdv A outer s H vs Q E hr h => ?_)
  · obtain ⟨v, p, rfl, hp, hl, hx, k⟩ := h
    rfl
  · obtain ⟨v, p, rfl, hp, hl, hx, k⟩ := h
    have hu := hu16 hr
    have nd := scis_path.nd
    refine ⟨_, (pss_one (ps_ret (pe_and (pe_callB (r := rIsi K) call_isinst (by rfl) T.b_isinstance boot_isinstance (pa_cons (pv 0) (pa_cons (pe_bltn (v := .ty "tuple") rfl T.b_tuple boot_tuple rfl) pa_nil))) (pe_one (pe_callB (call_all rfl) (by rfl) T.b_all boot_all (pa_cons (pe_comp (compScope0 rfl (by decide) (by decide +kernel) rfl) rfl (pi_tup (pv 0)) (fun _ _ _ _ => pif_nil) (fun _ _ _ _ => (pe_and (pe_callB (r := rIsi K) call_isinst (by rfl) T.b_isinstance boot_isinstance (pa_cons (pv 0) (pa_cons (pe_bltn (v := .ty "str") rfl T.b_str boot_str rfl) pa_nil))) (pe_one (pe_callF Fis_name hr (pa_cons (pv 0) pa_nil)))))) pa_nil)))))), ?_⟩
    have est : start ["thing"] [v] = [some (v)] := rfl
    rw [est]
    clear est
    obtain ⟨a, rfl, ha⟩ := id hp
    repeat' (first | (with_reducible refine wp_istr ?_) | (with_reducible refine wp_istr' ?_) | (with_reducible refine wp_comp0 ?_) | (with_reducible refine wp_inS ?_) | (with_reducible refine wp_notInS ?_) | (with_reducible refine wp_bm ?_) | (with_reducible refine wp_tupI ?_) | (with_reducible refine wp_callE ?_) | walk_at "st")
    refine ⟨a, rfl, ⟨_, .inl (.inl ha)⟩, ?_⟩
    refine comp_tup (xs := pV p) (by unfold pV; rw [List.length_map]; omega) (fun D i acc H' => Same H H' ∧ H' D = some (.lst acc) ∧ acc = (p.take i).map fun x => V.bl (isN x)) (fun D hD => ⟨Same.upd hD, upd_same, rfl⟩)
      (fun D i acc H' hD hi h => ⟨h.2.1, by rw [h.2.2, List.length_map, List.length_take]; omega, .inl (.inl (h.1 _ _ ha))⟩) ?_ ?_
    · intro D i x acc H' N hD hj hlt hN hP
      obtain ⟨hs, hd, he⟩ := hP
      unfold pV at hj
      rw [List.getElem?_map] at hj
      obtain ⟨y, hy, rfl⟩ := Option.map_eq_some_iff.mp hj
      have hy1 := hx y (List.mem_of_getElem? hy)
      show tYes _ _ _
      unfold tYes
      dsimp only
      rw [if_pos rfl]
      repeat' (first | ((with_reducible refine use_isN ?h1 ?_); (case h1 => assumption); intro _ _) | (with_reducible refine wp_istr ?_) | (with_reducible refine wp_istr' ?_) | (with_reducible refine wp_comp0 ?_) | (with_reducible refine wp_inS ?_) | (with_reducible refine wp_notInS ?_) | (with_reducible refine wp_bm ?_) | (with_reducible refine wp_tupI ?_) | (with_reducible refine wp_callE ?_) | walk_at "st")
      rename_i H2 s2
      refine ⟨s2 _ _ hd, hlt, hN _ _ ⟨fun b' o' e' => ?_, upd_same, ?_⟩⟩
      · rw [upd_ne (ne_of_none e' hD)]; exact s2 b' o' (hs b' o' e')
      · rw [List.take_add_one, hy, he]
        simp
    · intro D acc H1 hD hP
      obtain ⟨hs, hd, he⟩ := hP
      repeat' (first | (with_reducible refine wp_istr ?_) | (with_reducible refine wp_istr' ?_) | (with_reducible refine wp_comp0 ?_) | (with_reducible refine wp_inS ?_) | (with_reducible refine wp_notInS ?_) | (with_reducible refine wp_bm ?_) | (with_reducible refine wp_tupI ?_) | (with_reducible refine wp_callE ?_) | walk_at "st")
      refine ⟨D, p.map isN, rfl, ?_, ?_⟩
      · rw [hd, he]
        unfold pV
        rw [List.length_map, List.take_length, List.map_map]
        rfl
      · rw [List.all_map]
        exact k _ hs
theorem scshow_path : FnScope ["path"] ["path"] (defScope sshow_path) := ⟨rfl, rfl, rfl, by decide +kernel, rfl, by decide +kernel, by decide +kernel⟩
theorem okshow_path (F : Fn K mg "show_path" sshow_path ["path"]) (T : Txt K mg e)  : FnAll P w K mg base "show_path" 1 ["path"] (spShow) := by
  refine F.ok (k := 0) scshow_path (fun vs H Q E h => ?_) (fun f cdv A outer s H vs Q E hr h => ?_)
  · obtain ⟨v, p, rfl, hp, hok, hl, k⟩ := h
    rfl
  · obtain ⟨v, p, rfl, hp, hok, hl, k⟩ := h
    have hu := hu16 hr
    have nd := scshow_path.nd
    refine ⟨_, (pss_one (ps_ret (pe_op op_addS pe_str (pe_bm PySem.F.plainAttrs_str PySem.F.slot_str_join PySem.F.type_str_join mt_joinP pe_str (pa_cons (pv 0) pa_nil))))), ?_⟩
    have est : start ["path"] [v] = [some (v)] := rfl
    rw [est]
    clear est
    repeat' (first | (with_reducible refine wp_istr ?_) | (with_reducible refine wp_istr' ?_) | (with_reducible refine wp_comp0 ?_) | (with_reducible refine wp_inS ?_) | (with_reducible refine wp_notInS ?_) | (with_reducible refine wp_bm ?_) | (with_reducible refine wp_tupI ?_) | (with_reducible refine wp_callE ?_) | walk_at "st")
    refine ⟨rfl, ?_⟩
    repeat' (first | (with_reducible refine wp_istr ?_) | (with_reducible refine wp_istr' ?_) | (with_reducible refine wp_comp0 ?_) | (with_reducible refine wp_inS ?_) | (with_reducible refine wp_notInS ?_) | (with_reducible refine wp_bm ?_) | (with_reducible refine wp_tupI ?_) | (with_reducible refine wp_callE ?_) | walk_at "st")
    refine wp_joinP (ss := p) hp hok ?_
    rw [join_eq]
    have hsl := sl_len
    have hsz := sizeLine_eq
    refine wp_addS (by omega) ?_
    repeat' (first | (with_reducible refine wp_istr ?_) | (with_reducible refine wp_istr' ?_) | (with_reducible refine wp_comp0 ?_) | (with_reducible refine wp_inS ?_) | (with_reducible refine wp_notInS ?_) | (with_reducible refine wp_bm ?_) | (with_reducible refine wp_tupI ?_) | (with_reducible refine wp_callE ?_) | walk_at "st")
    exact k
theorem scI : FnScope ["self", "at"] ["self", "at"] (defScope sNoText___init__) := ⟨rfl, rfl, rfl, by decide +kernel, rfl, by decide +kernel, by decide +kernel⟩
theorem okI (F : Mt K e.xNoText "__init__" "NoText.__init__" sNoText___init__ ["self", "at"]) (T : Txt K mg e) : ∃ f fd, PySem.W.findIn K (.ref e.xNoText) "__init__" = some (some (.ref f)) ∧ FnOk P w K mg base (CXE P w) 1 f fd ["self", "at"] (spAtI e.xNoText) ∧ Binds K fd ["self", "at"] [] := by
  refine Mt.okX (k := 0) F scI (fun vs H Q E h => ?_) (fun f cdv A outer s H vs Q E hr h => ?_)
  · obtain ⟨a, n, rfl, ha, k⟩ := h
    rfl
  · obtain ⟨a, n, rfl, ha, k⟩ := h
    have hu := hu16 hr
    have nd := scI.nd
    refine ⟨_, (pss_cons (ps_expr (pe_baseInit T.baseI T.mBoughError (pa_cons (pv 0) (pa_cons (pv 1) pa_nil))))
      (pss_one (ps_exc (pv 0) (pv 1) rfl))), ?_⟩
    have est : start ["self", "at"] [.ref a, .int n] = [some (.ref a), some (.int n)] := rfl
    rw [est]
    clear est
    repeat' (first | (with_reducible refine wp_istr ?_) | (with_reducible refine wp_istr' ?_) | (with_reducible refine wp_comp0 ?_) | (with_reducible refine wp_inS ?_) | (with_reducible refine wp_notInS ?_) | (with_reducible refine wp_bm ?_) | (with_reducible refine wp_tupI ?_) | (with_reducible refine wp_callE ?_) | walk_at "st")
    refine ⟨a, e.xNoText, none, [.int n], rfl, ha, T.xs.ex, by rw [sizeLine_eq]; show 1 ≤ _; omega, ?_⟩
    repeat' (first | (with_reducible refine wp_istr ?_) | (with_reducible refine wp_istr' ?_) | (with_reducible refine wp_comp0 ?_) | (with_reducible refine wp_inS ?_) | (with_reducible refine wp_notInS ?_) | (with_reducible refine wp_bm ?_) | (with_reducible refine wp_tupI ?_) | (with_reducible refine wp_callE ?_) | walk_at "st")
    dsimp only
    refine wp_sexc ?_
    repeat' (first | (with_reducible refine wp_istr ?_) | (with_reducible refine wp_istr' ?_) | (with_reducible refine wp_comp0 ?_) | (with_reducible refine wp_inS ?_) | (with_reducible refine wp_notInS ?_) | (with_reducible refine wp_bm ?_) | (with_reducible refine wp_tupI ?_) | (with_reducible refine wp_callE ?_) | walk_at "st")
    exact ⟨a, e.xNoText, rfl, ha, T.xs, fun dx hdx hne => k dx hdx hne⟩
theorem scread_path : FnScope ["text", "path"] ["text"] (defScope sread_path) := ⟨rfl, rfl, rfl, by decide +kernel, rfl, by decide +kernel, by decide +kernel⟩
theorem okread_path (F : Fn K mg "read_path" sread_path ["text"]) (T : Txt K mg e) {fI : Addr} {fdI : FuncData} (RI : ExcR K e.xNoText fI ∧ FnOk P w K mg base (CXE P w) 1 fI fdI ["self", "at"] (spAtI e.xNoText) ∧ Binds K fdI ["self", "at"] []) (Fis_path : FnAll P w K mg base "is_path" 2 ["thing"] (spIsP)) (Fshow_path : FnAll P w K mg base "show_path" 1 ["path"] (spShow)) : FnAllE P w K mg base "read_path" 3 ["text"] (spRead e) := by
  refine F.okE (k := 2) scread_path (fun vs H Q E h => ?_) (fun f cdv A outer s H vs Q E hr h => ?_)
  · obtain ⟨t, rfl, hl, kE, k⟩ := h
    rfl
  · obtain ⟨t, rfl, hl, kE, k⟩ := h
    have hu := hu16 hr
    have nd := scread_path.nd
    obtain ⟨t_MOST_NAMES, h_MOST_NAMES⟩ := T.g_MOST_NAMES
    refine ⟨_, (pss_cons (ps_set (i := 1) nd rfl (Or.inl rfl) (pe_ifExp (pt_cmpR op_eq (pv 0) pe_str (nomark _)) (pe_tup pa_nil) (pe_callTy call_tupL (by rfl) T.b_tuple boot_tuple (pa_cons (pe_bm PySem.F.plainAttrs_str PySem.F.slot_str_split PySem.F.type_str_split mt_split (pe_slice sl_str (pv 0) (po_some pe_int) po_none) (pa_cons pe_str pa_nil)) pa_nil))))
      (pss_cons (ps_if (PW.pt (pw_or (pt_not (pt_val (pe_callF Fis_path hr (pa_cons (pv 1) pa_nil)))) (pw_or (pt_cmpR op_gt (pe_callB call_lenP (by rfl) T.b_len PySem.boot_len (pa_cons (pv 1) pa_nil)) (pe_glob (v := .int 40) rfl h_MOST_NAMES ⟨t_MOST_NAMES, rfl⟩) (nomark _)) (pw_or1 (pt_cmpR op_ne (pe_callF Fshow_path hr (pa_cons (pv 1) pa_nil)) (pv 0) (nomark _)))))) (pss_one (ps_raiseI RI.1 RI.2.1 RI.2.2 (hr.mono (by decide)) T.mNoText (pa_cons pe_int pa_nil))) pss_nil)
      (pss_one (ps_ret (pv 1))))), ?_⟩
    have est : start ["text", "path"] [.str t] = [some (.str t), none] := rfl
    rw [est]
    clear est
    have hsz := sizeLine_eq
    have hsl := sl_len
    repeat' (first | (with_reducible refine wp_istr ?_) | (with_reducible refine wp_istr' ?_) | (with_reducible refine wp_comp0 ?_) | (with_reducible refine wp_inS ?_) | (with_reducible refine wp_notInS ?_) | (with_reducible refine wp_bm ?_) | (with_reducible refine wp_tupI ?_) | (with_reducible refine wp_callE ?_) | walk_at "st")
    · rename_i ht z H1 s1 hz
      refine ⟨z, [], rfl, hz, Nat.zero_le _, (fun x hx => nomatch hx), fun H2 s2 => ?_⟩
      repeat' (first | (with_reducible refine wp_istr ?_) | (with_reducible refine wp_istr' ?_) | (with_reducible refine wp_comp0 ?_) | (with_reducible refine wp_inS ?_) | (with_reducible refine wp_notInS ?_) | (with_reducible refine wp_bm ?_) | (with_reducible refine wp_tupI ?_) | (with_reducible refine wp_callE ?_) | walk_at "st")
      refine ⟨z, [], rfl, hz.same s2, by decide, Nat.zero_le _, ?_⟩
      have e1 : (Str.ofString "/") ++ Str.join (Str.ofString "/") [] = (Str.ofString "/") := by decide
      rw [e1, ht]
      repeat' (first | (with_reducible refine wp_istr ?_) | (with_reducible refine wp_istr' ?_) | (with_reducible refine wp_comp0 ?_) | (with_reducible refine wp_inS ?_) | (with_reducible refine wp_notInS ?_) | (with_reducible refine wp_bm ?_) | (with_reducible refine wp_tupI ?_) | (with_reducible refine wp_callE ?_) | walk_at "st")
      exact k [] (by unfold dueP; rw [if_pos ht]) _ _ (s1.trans s2) (hz.same s2)
    · rename_i ht y ey hy
      refine ⟨rfl, ?_⟩
      repeat' (first | (with_reducible refine wp_istr ?_) | (with_reducible refine wp_istr' ?_) | (with_reducible refine wp_comp0 ?_) | (with_reducible refine wp_inS ?_) | (with_reducible refine wp_notInS ?_) | (with_reducible refine wp_bm ?_) | (with_reducible refine wp_tupI ?_) | (with_reducible refine wp_callE ?_) | walk_at "st")
      refine wp_split (by decide) (by omega) fun q H1 s1 hq h1 => ?_
      refine wp_tupL (ss := names t) (sq_of (by rw [h1, ey]; rfl)) fun z H2 s2 hz => ?_
      have hnl := names_len t
      have hne := names_each t
      repeat' (first | (with_reducible refine wp_istr ?_) | (with_reducible refine wp_istr' ?_) | (with_reducible refine wp_comp0 ?_) | (with_reducible refine wp_inS ?_) | (with_reducible refine wp_notInS ?_) | (with_reducible refine wp_bm ?_) | (with_reducible refine wp_tupI ?_) | (with_reducible refine wp_callE ?_) | walk_at "st")
      refine ⟨z, names t, rfl, hz, by omega, fun x hx => by have := hne x hx; omega, fun H3 s3 => ?_⟩
      have s03 := (s1.trans s2).trans s3
      have hz3 := hz.same s3
      have hbad : ¬ (Txt.slice t none (some 1) = (Str.ofString "/") ∧ (names t).all isN = true ∧ (names t).length ≤ 40) → ∀ dx H', Same H H' → H dx = none → H' dx = some (.xd [("at", .int 0)]) → E (.ref e.xNoText) (some dx) H' := fun hb => kE (by unfold dueP; rw [if_neg ht, if_neg hb])
      cases hall : (names t).all isN with
      | false =>
        have hb := hbad (by rw [hall]; intro h; exact absurd h.2.1 (by decide))
        repeat' (first | ((with_reducible refine wp_raiseI ?_)) | (with_reducible refine wp_istr ?_) | (with_reducible refine wp_istr' ?_) | (with_reducible refine wp_comp0 ?_) | (with_reducible refine wp_inS ?_) | (with_reducible refine wp_notInS ?_) | (with_reducible refine wp_bm ?_) | (with_reducible refine wp_tupI ?_) | (with_reducible refine wp_callE ?_) | walk_at "st")
        exact raise_at fun dx H4 s4 hdx h4 => hb dx H4 (s03.trans s4) (none_same s03 hdx) h4
      | true =>
        repeat' (first | (with_reducible refine wp_istr ?_) | (with_reducible refine wp_istr' ?_) | (with_reducible refine wp_comp0 ?_) | (with_reducible refine wp_inS ?_) | (with_reducible refine wp_notInS ?_) | (with_reducible refine wp_bm ?_) | (with_reducible refine wp_tupI ?_) | (with_reducible refine wp_callE ?_) | walk_at "st")
        · rename_i h40
          have hb := hbad (fun h => by have := h.2.2; omega)
          repeat' (first | ((with_reducible refine wp_raiseI ?_)) | (with_reducible refine wp_istr ?_) | (with_reducible refine wp_istr' ?_) | (with_reducible refine wp_comp0 ?_) | (with_reducible refine wp_inS ?_) | (with_reducible refine wp_notInS ?_) | (with_reducible refine wp_bm ?_) | (with_reducible refine wp_tupI ?_) | (with_reducible refine wp_callE ?_) | walk_at "st")
          exact raise_at fun dx H4 s4 hdx h4 => hb dx H4 (s03.trans s4) (none_same s03 hdx) h4
        · rename_i h40
          have hjl : (Str.join (Str.ofString "/") (names t)).length ≤ 100000 := by
            rw [join_names]
            have := Txt.slice_le t (some 1) none
            omega
          have hjo : JoinOk (Str.ofString "/") (names t) = true := joinOk_split (by have := Txt.slice_le t (some 1) none; omega) (by omega)
          refine ⟨z, names t, rfl, hz3, hjo, hjl, ?_⟩
          repeat' (first | ((with_reducible refine wp_raiseI ?_)) | (with_reducible refine wp_istr ?_) | (with_reducible refine wp_istr' ?_) | (with_reducible refine wp_comp0 ?_) | (with_reducible refine wp_inS ?_) | (with_reducible refine wp_notInS ?_) | (with_reducible refine wp_bm ?_) | (with_reducible refine wp_tupI ?_) | (with_reducible refine wp_callE ?_) | walk_at "st")
          · rename_i hne2
            have hb := hbad (fun h => hne2 ((shown_names t).mpr h.1))
            exact raise_at fun dx H4 s4 hdx h4 => hb dx H4 (s03.trans s4) (none_same s03 hdx) h4
          · rename_i heq
            exact k (names t) (by unfold dueP; rw [if_neg ht, if_pos ⟨(shown_names t).mp heq, hall, by omega⟩]) _ _ s03 hz3
theorem sc_law_at : FnScope ["_law_script", "_law_k"] ["_law_script", "_law_k"] (defScope s_law_at) := ⟨rfl, rfl, rfl, by decide +kernel, rfl, by decide +kernel, by decide +kernel⟩
theorem ok_law_at (F : Fn K mg "_law_at" s_law_at ["_law_script", "_law_k"]) (T : Txt K mg e)  : FnAll P w K mg base "_law_at" 1 ["_law_script", "_law_k"] (spAt K) := by
  refine F.ok (k := 0) sc_law_at (fun vs H Q E h => ?_) (fun f cdv A outer s H vs Q E hr h => ?_)
  · obtain ⟨a, ns, i, rfl, h0, hS, k⟩ := h
    rfl
  · obtain ⟨a, ns, i, rfl, h0, hS, k⟩ := h
    have hu := hu16 hr
    have nd := sc_law_at.nd
    refine ⟨_, (pss_cons (ps_if (pt_cmpR op_lt (pv 1) (pe_callB call_lenQ (by rfl) T.b_len PySem.boot_len (pa_cons (pv 0) pa_nil)) (nomark _)) (pss_one (ps_ret (pe_ix ix_list (pv 0) (pv 1) (fun _ _ => rfl)))) pss_nil)
      (pss_one (ps_ret pe_int))), ?_⟩
    have est : start ["_law_script", "_law_k"] [.ref a, .int i] = [some (.ref a), some (.int i)] := rfl
    rw [est]
    clear est
    repeat' (first | ((with_reducible refine' wp_lenL ?ha ?_); (case ha => exact hS)) | walk_at "st")
    · rename_i hlt
      rw [List.length_map] at hlt
      refine wp_ixAny hS h0 (by rw [List.length_map]; exact hlt) fun v hv => ?_
      obtain ⟨z, _, rfl⟩ := List.mem_map.mp hv
      exact k _
    · exact k _
theorem sc_law_name : FnScope ["_law_load", "_law_most", "_law_found", "_law_rest", "_law_k"] ["_law_load", "_law_most"] (defScope s_law_name) := ⟨rfl, rfl, rfl, by decide +kernel, rfl, by decide +kernel, by decide +kernel⟩
theorem ok_law_name (F : Fn K mg "_law_name" s_law_name ["_law_load", "_law_most"]) (T : Txt K mg e)  : FnAll P w K mg base "_law_name" 1 ["_law_load", "_law_most"] (spName) := by
  refine F.ok (k := 0) sc_law_name (fun vs H Q E h => ?_) (fun f cdv A outer s H vs Q E hr h => ?_)
  · obtain ⟨n, m, rfl, h8, h9, k⟩ := h
    rfl
  · obtain ⟨n, m, rfl, h8, h9, k⟩ := h
    have hu := hu16 hr
    have nd := sc_law_name.nd
    refine ⟨_, (pss_cons (ps_set (i := 2) nd rfl (Or.inl rfl) pe_str)
      (pss_cons (ps_set (i := 3) nd rfl (Or.inl rfl) (pe_op op_fdiv (pv 0) (pv 1)))
      (pss_cons (ps_for PassesOwn.never rfl (pi_range1 rfl T.b_range (pa_cons (pe_op op_add pe_int (pe_op op_mod (pv 0) (pv 1))) pa_nil)) (pg_name (i := 4) nd rfl (Or.inl rfl)) (pss_cons (ps_set (i := 2) nd rfl (Or.inl rfl) (pe_op op_addS (pv 2) (pe_ix ix_str pe_str (pe_op op_mod (pv 3) pe_int) (fun _ _ => rfl))))
      (pss_one (ps_set (i := 3) nd rfl (Or.inl rfl) (pe_op op_fdiv (pv 3) pe_int)))))
      (pss_one (ps_ret (pv 2)))))), ?_⟩
    have est : start ["_law_load", "_law_most", "_law_found", "_law_rest", "_law_k"] [.int n, .int m] = [some (.int n), some (.int m), none, none, none] := rfl
    rw [est]
    clear est
    have hm0 : 0 ≤ n % m := Int.emod_nonneg _ (by omega)
    have hm1 : n % m < m := Int.emod_lt_of_pos _ (by omega)
    repeat' (first | (with_reducible refine wp_istr ?_) | (with_reducible refine wp_istr' ?_) | (with_reducible refine wp_comp0 ?_) | (with_reducible refine wp_inS ?_) | (with_reducible refine wp_notInS ?_) | (with_reducible refine wp_bm ?_) | (with_reducible refine wp_tupI ?_) | (with_reducible refine wp_callE ?_) | walk_at "st")
    refine loop_range (fun i σ' H' => H' = H ∧ ∃ (r : Int) (f : Str) (kk : Option V), σ' = [some (.int n), some (.int m), some (.str f), some (.int r), kk] ∧ f.length = i ∧ LetS f)
        ⟨rfl, _, _, _, rfl, lit_0, let_0⟩ ?_ ?_
    · rintro i _ _ hi ⟨rfl, r, f, kk, rfl, hf, ha⟩
      have hi9 : i < 9 := by omega
      repeat' (first | (with_reducible refine wp_istr ?_) | (with_reducible refine wp_istr' ?_) | (with_reducible refine wp_comp0 ?_) | (with_reducible refine wp_inS ?_) | (with_reducible refine wp_notInS ?_) | (with_reducible refine wp_bm ?_) | (with_reducible refine wp_tupI ?_) | (with_reducible refine wp_callE ?_) | walk_at "st")
      rename_i y hy1 hy
      refine ⟨rfl, _, _, _, rfl, ?_, ha.app (.ix hy)⟩
      rw [str_app_len]
      omega
    · rintro _ _ ⟨rfl, r, f, kk, rfl, hf, ha⟩
      repeat' (first | (with_reducible refine wp_istr ?_) | (with_reducible refine wp_istr' ?_) | (with_reducible refine wp_comp0 ?_) | (with_reducible refine wp_inS ?_) | (with_reducible refine wp_notInS ?_) | (with_reducible refine wp_bm ?_) | (with_reducible refine wp_tupI ?_) | (with_reducible refine wp_callE ?_) | walk_at "st")
      exact k _ (by omega) (by omega) ha
theorem sc_law_spoiled : FnScope ["_law_text", "_law_load", "_law_way", "_law_place", "_law_sign"] ["_law_text", "_law_load"] (defScope s_law_spoiled) := ⟨rfl, rfl, rfl, by decide +kernel, rfl, by decide +kernel, by decide +kernel⟩
theorem ok_law_spoiled (F : Fn K mg "_law_spoiled" s_law_spoiled ["_law_text", "_law_load"]) (T : Txt K mg e)  : FnAll P w K mg base "_law_spoiled" 1 ["_law_text", "_law_load"] (spSpoil) := by
  refine F.ok (k := 0) sc_law_spoiled (fun vs H Q E h => ?_) (fun f cdv A outer s H vs Q E hr h => ?_)
  · obtain ⟨t, n, rfl, hl, k⟩ := h
    rfl
  · obtain ⟨t, n, rfl, hl, k⟩ := h
    have hu := hu16 hr
    have nd := sc_law_spoiled.nd
    refine ⟨_, (pss_cons (ps_set (i := 2) nd rfl (Or.inl rfl) (pe_op op_mod (pv 1) pe_int))
      (pss_cons (ps_set (i := 3) nd rfl (Or.inl rfl) (pe_op op_mod (pe_op op_fdiv (pv 1) pe_int) (pe_op op_add (pe_callB call_lenS (by rfl) T.b_len PySem.boot_len (pa_cons (pv 0) pa_nil)) pe_int)))
      (pss_cons (ps_set (i := 4) nd rfl (Or.inl rfl) (pe_ix ix_str pe_str (pe_op op_mod (pe_op op_fdiv (pe_op op_fdiv (pv 1) pe_int) (pe_op op_add (pe_callB call_lenS (by rfl) T.b_len PySem.boot_len (pa_cons (pv 0) pa_nil)) pe_int)) pe_int) (fun _ _ => rfl)))
      (pss_cons (ps_if (pt_cmpR op_eq (pv 2) pe_int (nomark _)) (pss_one (ps_ret (pe_op op_addS (pe_op op_addS (pe_slice sl_str (pv 0) po_none (po_some (pv 3))) (pv 4)) (pe_slice sl_str (pv 0) (po_some (pv 3)) po_none)))) pss_nil)
      (pss_cons (ps_if (pt_cmpR op_eq (pv 2) pe_int (nomark _)) (pss_one (ps_ret (pe_op op_addS (pe_slice sl_str (pv 0) po_none (po_some (pv 3))) (pe_slice sl_str (pv 0) (po_some (pe_op op_add (pv 3) pe_int)) po_none)))) pss_nil)
      (pss_one (ps_ret (pe_op op_addS (pe_op op_addS (pe_slice sl_str (pv 0) po_none (po_some (pv 3))) (pv 4)) (pe_slice sl_str (pv 0) (po_some (pe_op op_add (pv 3) pe_int)) po_none))))))))), ?_⟩
    have est : start ["_law_text", "_law_load", "_law_way", "_law_place", "_law_sign"] [.str t, .int n] = [some (.str t), some (.int n), none, none, none] := rfl
    rw [est]
    clear est
    repeat' (first | ((with_reducible refine wp_ixS' ?a ?b ?c ?_); (case a => rw [lit_odd]; decide); (case b => omega); (case c => rw [lit_odd]; omega); intro _ _ _) | (with_reducible refine wp_istr ?_) | (with_reducible refine wp_istr' ?_) | (with_reducible refine wp_comp0 ?_) | (with_reducible refine wp_inS ?_) | (with_reducible refine wp_notInS ?_) | (with_reducible refine wp_bm ?_) | (with_reducible refine wp_tupI ?_) | (with_reducible refine wp_callE ?_) | walk_at "st")
    all_goals refine k _ ?_
    all_goals walk_at "side"
theorem sc_law_due : FnScope ["_law_text", "_law_names", "_law_name_here", "_law_sign"] ["_law_text"] (defScope s_law_due) := ⟨rfl, rfl, rfl, by decide +kernel, rfl, by decide +kernel, by decide +kernel⟩
theorem ok_law_due (F : Fn K mg "_law_due" s_law_due ["_law_text"]) (T : Txt K mg e)  : FnAll P w K mg base "_law_due" 1 ["_law_text"] (spDue) := by
  refine F.ok (k := 0) sc_law_due (fun vs H Q E h => ?_) (fun f cdv A outer s H vs Q E hr h => ?_)
  · obtain ⟨t, rfl, hl, k⟩ := h
    rfl
  · obtain ⟨t, rfl, hl, k⟩ := h
    have hu := hu16 hr
    have nd := sc_law_due.nd
    refine ⟨_, (pss_cons (ps_if (pt_cmpR op_eq (pv 0) pe_str (nomark _)) (pss_one (ps_ret (pe_tup pa_nil))) pss_nil)
      (pss_cons (ps_if (pt_cmpR op_ne (pe_slice sl_str (pv 0) po_none (po_some pe_int)) pe_str (nomark _)) (pss_one (ps_ret pe_non)) pss_nil)
      (pss_cons (ps_set (i := 1) nd rfl (Or.inl rfl) (pe_bm PySem.F.plainAttrs_str PySem.F.slot_str_split PySem.F.type_str_split mt_split (pe_slice sl_str (pv 0) (po_some pe_int) po_none) (pa_cons pe_str pa_nil)))
      (pss_cons (ps_for PassesOwn.never rfl (pi_list (pv 1)) (pg_name (i := 2) nd rfl (Or.inl rfl)) (pss_cons (ps_if (PW.pt (pw_or (pt_cmpR op_lt (pe_callB call_lenS (by rfl) T.b_len PySem.boot_len (pa_cons (pv 2) pa_nil)) pe_int (nomark _)) (pw_or1 (pt_cmpR op_gt (pe_callB call_lenS (by rfl) T.b_len PySem.boot_len (pa_cons (pv 2) pa_nil)) pe_int (nomark _))))) (pss_one (ps_ret pe_non)) pss_nil)
      (pss_one (ps_for PassesOwn.never rfl (pi_str (pv 2)) (pg_name (i := 3) nd rfl (Or.inl rfl)) (pss_one (ps_if (pt_cmpR op_notInS (pv 3) pe_str rfl) (pss_one (ps_ret pe_non)) pss_nil))))))
      (pss_cons (ps_if (pt_cmpR op_gt (pe_callB call_lenQ (by rfl) T.b_len PySem.boot_len (pa_cons (pv 1) pa_nil)) pe_int (nomark _)) (pss_one (ps_ret pe_non)) pss_nil)
      (pss_one (ps_ret (pe_callTy call_tupL (by rfl) T.b_tuple boot_tuple (pa_cons (pv 1) pa_nil))))))))), ?_⟩
    have est : start ["_law_text", "_law_names", "_law_name_here", "_law_sign"] [.str t] = [some (.str t), none, none, none] := rfl
    rw [est]
    clear est
    have hsz := sizeLine_eq
    repeat' (first | (with_reducible refine wp_istr ?_) | (with_reducible refine wp_istr' ?_) | (with_reducible refine wp_comp0 ?_) | (with_reducible refine wp_inS ?_) | (with_reducible refine wp_notInS ?_) | (with_reducible refine wp_bm ?_) | (with_reducible refine wp_tupI ?_) | (with_reducible refine wp_callE ?_) | walk_at "st")
    · rename_i ht z H1 s1 hz
      have e1 : dueP t = some [] := by unfold dueP; rw [if_pos ht]
      rw [e1] at k
      exact k _ _ s1 hz
    · rename_i ht y ey hy hne
      have e1 : dueP t = none := by
        unfold dueP
        rw [if_neg ht, if_neg]
        intro h
        exact hne (ey.trans h.1)
      rw [e1] at k
      exact k _ _ (Same.refl _) rfl
    · rename_i ht y ey hy heq y2 ey2 hy2
      refine ⟨rfl, ?_⟩
      repeat' (first | (with_reducible refine wp_istr ?_) | (with_reducible refine wp_istr' ?_) | (with_reducible refine wp_comp0 ?_) | (with_reducible refine wp_inS ?_) | (with_reducible refine wp_notInS ?_) | (with_reducible refine wp_bm ?_) | (with_reducible refine wp_tupI ?_) | (with_reducible refine wp_callE ?_) | walk_at "st")
      refine wp_split (by decide) (by omega) fun q H1 s1 hq h1 => ?_
      have h1 : H1 q = some (.lst (pV (names t))) := by rw [h1, ey2]; rfl
      have hne := names_each t
      have hnl := names_len t
      have bad : ∀ x ∈ names t, isN x = false → dueP t = none := fun x hx hb => by
        unfold dueP
        rw [if_neg ht, if_neg]
        intro h
        have := List.all_eq_true.mp h.2.1 x hx
        rw [hb] at this
        cases this
      repeat' (first | (with_reducible refine wp_istr ?_) | (with_reducible refine wp_istr' ?_) | (with_reducible refine wp_comp0 ?_) | (with_reducible refine wp_inS ?_) | (with_reducible refine wp_notInS ?_) | (with_reducible refine wp_bm ?_) | (with_reducible refine wp_tupI ?_) | (with_reducible refine wp_callE ?_) | walk_at "st")
      refine ⟨q, rfl, ⟨_, sq_of h1⟩, ?_⟩
      refine loop_list (xs := pV (names t)) (fun i σ' H' => H' = H1 ∧ (∃ o2 o3, σ' = [some (.str t), some (.ref q), o2, o3]) ∧ ∀ j x, j < i → (names t)[j]? = some x → isN x = true) ⟨rfl, ⟨_, _, rfl⟩, fun _ _ h => nomatch h⟩ (fun i σ' H' _ h => sq_of (by rw [h.1]; exact h1)) ?_ ?_
      · rintro i v _ H1 hi ⟨rfl, ⟨o2, o3, rfl⟩, hj⟩
        unfold pV at hi
        rw [List.getElem?_map] at hi
        obtain ⟨x, hx, rfl⟩ := Option.map_eq_some_iff.mp hi
        have hxm := List.mem_of_getElem? hx
        have hxl := hne x hxm
        have hlen : x.length = x.cps.size := rfl
        repeat' (first | (with_reducible refine wp_istr ?_) | (with_reducible refine wp_istr' ?_) | (with_reducible refine wp_comp0 ?_) | (with_reducible refine wp_inS ?_) | (with_reducible refine wp_notInS ?_) | (with_reducible refine wp_bm ?_) | (with_reducible refine wp_tupI ?_) | (with_reducible refine wp_callE ?_) | walk_at "st")
        · have e1 := bad x hxm (by unfold isN; rw [decide_eq_false (by omega), Bool.false_and])
          rw [e1] at k
          exact k _ _ s1 rfl
        · have e1 := bad x hxm (by unfold isN; rw [decide_eq_false (p := x.length ≤ 8) (by omega), Bool.false_and, Bool.and_false])
          rw [e1] at k
          exact k _ _ s1 rfl
        · rename_i hx1 hx8
          refine loop_str (fun i' σ' H' => H' = H1 ∧ (∃ o3, σ' = [some (.str t), some (.ref q), some (.str x), o3]) ∧ ∀ (j c : Nat), j < i' → x.cps[j]? = some c → inL c = true) ⟨rfl, ⟨_, rfl⟩, fun _ _ h => nomatch h⟩ ?_ ?_
          · rintro i' c _ H1 hc ⟨rfl, ⟨o3, rfl⟩, hjc⟩
            repeat' (first | (with_reducible refine wp_istr ?_) | (with_reducible refine wp_istr' ?_) | (with_reducible refine wp_comp0 ?_) | (with_reducible refine wp_inS ?_) | (with_reducible refine wp_notInS ?_) | (with_reducible refine wp_bm ?_) | (with_reducible refine wp_tupI ?_) | (with_reducible refine wp_callE ?_) | walk_at "st")
            · rename_i hq
              have hL : inL c = false := by unfold inL; cases hz : (Builtin.Str.occurrences (Str.ofString "abcdefghijklmnopqrstuvwxyz") ⟨#[c]⟩ 0 (Str.length (Str.ofString "abcdefghijklmnopqrstuvwxyz")) 1).isEmpty <;> simp_all
              have e1 := bad x hxm (by
                unfold isN
                have : x.cps.toList.all inL = false := by
                  rw [List.all_eq_false]
                  rw [← Array.getElem?_toList] at hc
                  exact ⟨c, List.mem_of_getElem? hc, by rw [hL]; decide⟩
                rw [this, Bool.and_false, Bool.and_false])
              rw [e1] at k
              exact k _ _ s1 rfl
            · rename_i hq
              have hL : inL c = true := by unfold inL; cases hz : (Builtin.Str.occurrences (Str.ofString "abcdefghijklmnopqrstuvwxyz") ⟨#[c]⟩ 0 (Str.length (Str.ofString "abcdefghijklmnopqrstuvwxyz")) 1).isEmpty <;> simp_all
              refine ⟨rfl, ⟨_, rfl⟩, fun j d hji hd => ?_⟩
              by_cases hh : j = i'
              · subst hh
                rw [hc] at hd
                cases hd
                exact hL
              · exact hjc j d (by omega) hd
          · rintro _ H1 ⟨rfl, ⟨o3, rfl⟩, hjc⟩
            refine ⟨rfl, ⟨_, _, rfl⟩, fun j d hji hd => ?_⟩
            by_cases hh : j = i
            · subst hh
              rw [hx] at hd
              cases hd
              unfold isN
              have h3 : x.cps.toList.all inL = true := by
                rw [List.all_eq_true]
                intro c hc
                obtain ⟨i2, hi2⟩ := List.getElem?_of_mem hc
                rw [Array.getElem?_toList] at hi2
                exact hjc i2 c (by
                  obtain ⟨h, _⟩ := Array.getElem?_eq_some_iff.mp hi2
                  exact h) hi2
              rw [h3, decide_eq_true (by omega), decide_eq_true (by omega)]
              rfl
            · exact hj j d (by omega) hd
      · rintro _ H1 ⟨rfl, ⟨o2, o3, rfl⟩, hj⟩
        have hpl : (pV (names t)).length = (names t).length := by unfold pV; rw [List.length_map]
        have hall : (names t).all isN = true := List.all_eq_true.mpr fun x hx => by
          obtain ⟨j, hjx⟩ := List.getElem?_of_mem hx
          exact hj j x (by rw [hpl]; exact (List.getElem?_eq_some_iff.mp hjx).1) hjx
        have hL1 := sq_of (K := K) h1
        repeat' (first | ((with_reducible refine' wp_lenL ?ha ?_); (case ha => exact hL1)) | (with_reducible refine wp_istr ?_) | (with_reducible refine wp_istr' ?_) | (with_reducible refine wp_comp0 ?_) | (with_reducible refine wp_inS ?_) | (with_reducible refine wp_notInS ?_) | (with_reducible refine wp_bm ?_) | (with_reducible refine wp_tupI ?_) | (with_reducible refine wp_callE ?_) | walk_at "st")
        · rename_i h40
          have e1 : dueP t = none := by
            unfold dueP
            rw [if_neg ht, if_neg]
            intro h
            have := h.2.2
            omega
          rw [e1] at k
          exact k _ _ s1 rfl
        · rename_i h40
          refine wp_tupL (ss := names t) hL1 fun z H2 s2 hz => ?_
          have e1 : dueP t = some (names t) := by
            unfold dueP
            rw [if_neg ht, if_pos ⟨ey.symm.trans heq, hall, by omega⟩]
          rw [e1] at k
          exact k _ _ (s1.trans s2) hz
theorem sc_law_refused : FnScope ["_law_text", "e"] ["_law_text"] (defScope s_law_refused) := ⟨rfl, rfl, rfl, by decide +kernel, rfl, by decide +kernel, by decide +kernel⟩
theorem ok_law_refused (F : Fn K mg "_law_refused" s_law_refused ["_law_text"]) (T : Txt K mg e) (Fread_path : FnAllE P w K mg base "read_path" 3 ["text"] (spRead e)) : FnAll P w K mg base "_law_refused" 4 ["_law_text"] (spRef) := by
  refine F.ok (k := 3) sc_law_refused (fun vs H Q E h => ?_) (fun f cdv A outer s H vs Q E hr h => ?_)
  · obtain ⟨t, rfl, hl, hd, k⟩ := h
    rfl
  · obtain ⟨t, rfl, hl, hd, k⟩ := h
    have hu := hu16 hr
    have nd := sc_law_refused.nd
    refine ⟨_, (pss_cons (ps_try (i := 1) T.mNoText nd rfl rfl (fun _ _ _ hx => (pss_one (ps_expr (pe_callE Fread_path hr hx (pa_cons (pv 0) pa_nil))))) (fun _ => (pss_one (ps_ret (pe_and (pe_callB (r := rIsiE K) call_isinstE (by rfl) T.b_isinstance boot_isinstance (pa_cons (pv 1) (pa_cons (pe_glob (v := .ref e.xBoughError) rfl T.mBoughError rfl) pa_nil))) (pe_and (pe_not (pe_callB (r := rIsi K) call_isinst (by rfl) T.b_isinstance boot_isinstance (pa_cons (pe_excAtK (K := K) (pv 1)) (pa_cons (pe_bltn (v := .ty "bool") rfl T.b_bool boot_bool rfl) pa_nil)))) (pe_one (pe_cmpR op_eq (pe_excAtK (K := K) (pv 1)) pe_int (nomark _)))))))))
      (pss_one (ps_ret pe_bl))), ?_⟩
    have est : start ["_law_text", "e"] [.str t] = [some (.str t), none] := rfl
    rw [est]
    clear est
    repeat' (first | (with_reducible refine wp_istr ?_) | (with_reducible refine wp_istr' ?_) | (with_reducible refine wp_comp0 ?_) | (with_reducible refine wp_inS ?_) | (with_reducible refine wp_notInS ?_) | (with_reducible refine wp_bm ?_) | (with_reducible refine wp_tupI ?_) | (with_reducible refine wp_callE ?_) | walk_at "st")
    refine wp_try' fun HE hE => ?_
    have hN : ∀ dx H', Same H H' → H dx = none → H' dx = some (.xd [("at", .int 0)]) → HE (.ref e.xNoText) (some dx) H' := by
      intro dx H1 s1 hdx h1
      rw [hE]
      refine ⟨e.xNoText, rfl, T.exm, fun q hq => ?_⟩
      have s2 : Same H1 (upd H1 q (excHO q e.xNoText (some dx))) := Same.upd hq
      have h2 : upd H1 q (excHO q e.xNoText (some dx)) q = some (excHO q e.xNoText (some dx)) := upd_same
      have h2d := s2 _ _ h1
      generalize upd H1 q (excHO q e.xNoText (some dx)) = H2 at *
      repeat' (first | (with_reducible refine wp_istr ?_) | (with_reducible refine wp_istr' ?_) | (with_reducible refine wp_comp0 ?_) | (with_reducible refine wp_inS ?_) | (with_reducible refine wp_notInS ?_) | (with_reducible refine wp_bm ?_) | (with_reducible refine wp_tupI ?_) | (with_reducible refine wp_callE ?_) | walk_at "st")
      refine ⟨q, e.xNoText, some dx, _, _, true, rfl, h2, T.xf, rfl, T.kit, ?_⟩
      repeat' (first | ((with_reducible refine wp_excAt ?_)) | (with_reducible refine wp_istr ?_) | (with_reducible refine wp_istr' ?_) | (with_reducible refine wp_comp0 ?_) | (with_reducible refine wp_inS ?_) | (with_reducible refine wp_notInS ?_) | (with_reducible refine wp_bm ?_) | (with_reducible refine wp_tupI ?_) | (with_reducible refine wp_callE ?_) | walk_at "st")
      refine ⟨q, e.xNoText, dx, _, 0, rfl, h2, h2d, rfl, T.xf, T.xs, ?_⟩
      repeat' (first | ((with_reducible refine wp_excAt ?_)) | ((with_reducible refine wp_isiII ?hk ?_); (case hk => rfl)) | ((with_reducible refine wp_isiIB ?hk ?_); (case hk => rfl)) | (with_reducible refine wp_istr ?_) | (with_reducible refine wp_istr' ?_) | (with_reducible refine wp_comp0 ?_) | (with_reducible refine wp_inS ?_) | (with_reducible refine wp_notInS ?_) | (with_reducible refine wp_bm ?_) | (with_reducible refine wp_tupI ?_) | (with_reducible refine wp_callE ?_) | walk_at "st")
      refine ⟨q, e.xNoText, dx, _, 0, rfl, h2, h2d, rfl, T.xf, T.xs, ?_⟩
      repeat' (first | ((with_reducible refine wp_excAt ?_)) | ((with_reducible refine wp_isiII ?hk ?_); (case hk => rfl)) | ((with_reducible refine wp_isiIB ?hk ?_); (case hk => rfl)) | (with_reducible refine wp_istr ?_) | (with_reducible refine wp_istr' ?_) | (with_reducible refine wp_comp0 ?_) | (with_reducible refine wp_inS ?_) | (with_reducible refine wp_notInS ?_) | (with_reducible refine wp_bm ?_) | (with_reducible refine wp_tupI ?_) | (with_reducible refine wp_callE ?_) | walk_at "st")
      exact k _ (s1.trans s2)
    clear hE
    repeat' (first | (with_reducible refine wp_istr ?_) | (with_reducible refine wp_istr' ?_) | (with_reducible refine wp_comp0 ?_) | (with_reducible refine wp_inS ?_) | (with_reducible refine wp_notInS ?_) | (with_reducible refine wp_bm ?_) | (with_reducible refine wp_tupI ?_) | (with_reducible refine wp_callE ?_) | walk_at "st")
    exact ⟨t, rfl, hl, fun _ => hN, fun p hp => by rw [hd] at hp; cases hp⟩
theorem sc_law_reads : FnScope ["_law_text", "_law_due_here", "_law_found"] ["_law_text"] (defScope s_law_reads) := ⟨rfl, rfl, rfl, by decide +kernel, rfl, by decide +kernel, by decide +kernel⟩
theorem ok_law_reads (F : Fn K mg "_law_reads" s_law_reads ["_law_text"]) (T : Txt K mg e) (F_law_due : FnAll P w K mg base "_law_due" 1 ["_law_text"] (spDue)) (F_law_refused : FnAll P w K mg base "_law_refused" 4 ["_law_text"] (spRef)) (Fread_path : FnAllE P w K mg base "read_path" 3 ["text"] (spRead e)) : FnAll P w K mg base "_law_reads" 5 ["_law_text"] (spReads) := by
  refine F.ok (k := 4) sc_law_reads (fun vs H Q E h => ?_) (fun f cdv A outer s H vs Q E hr h => ?_)
  · obtain ⟨t, rfl, hl, k⟩ := h
    rfl
  · obtain ⟨t, rfl, hl, k⟩ := h
    have hu := hu16 hr
    have nd := sc_law_reads.nd
    refine ⟨_, (pss_cons (ps_set (i := 1) nd rfl (Or.inl rfl) (pe_callF F_law_due hr (pa_cons (pv 0) pa_nil)))
      (pss_cons (ps_if (pt_cmpR op_isN' (pv 1) pe_non (nomark _)) (pss_one (ps_ret (pe_callF F_law_refused hr (pa_cons (pv 0) pa_nil)))) pss_nil)
      (pss_cons (ps_set (i := 2) nd rfl (Or.inl rfl) (pe_callE Fread_path hr passN (pa_cons (pv 0) pa_nil)))
      (pss_cons (ps_if (PW.pt (pw_or (pt_not (pt_val (pe_callB (r := rIsi K) call_isinst (by rfl) T.b_isinstance boot_isinstance (pa_cons (pv 2) (pa_cons (pe_bltn (v := .ty "tuple") rfl T.b_tuple boot_tuple rfl) pa_nil))))) (pw_or1 (pt_cmpR (op_neP hu) (pv 2) (pv 1) (nomark _))))) (pss_one (ps_ret pe_bl)) pss_nil)
      (pss_one (ps_ret (pe_cmpR (op_eqG hu) (pe_comp (compScope0 rfl (by decide) (by decide +kernel) rfl) rfl (pi_tup (pv 2)) (fun _ _ _ _ => (pif_one (pt_not (pt_val (pe_callB (r := rIsi K) call_isinst (by rfl) T.b_isinstance boot_isinstance (pa_cons (pv 0) (pa_cons (pe_bltn (v := .ty "str") rfl T.b_str boot_str rfl) pa_nil))))))) (fun _ _ _ _ => (pv 0))) (pe_lst pa_nil) (nomark _)))))))), ?_⟩
    have est : start ["_law_text", "_law_due_here", "_law_found"] [.str t] = [some (.str t), none, none] := rfl
    rw [est]
    clear est
    repeat' (first | (with_reducible refine wp_istr ?_) | (with_reducible refine wp_istr' ?_) | (with_reducible refine wp_comp0 ?_) | (with_reducible refine wp_inS ?_) | (with_reducible refine wp_notInS ?_) | (with_reducible refine wp_bm ?_) | (with_reducible refine wp_tupI ?_) | (with_reducible refine wp_callE ?_) | walk_at "st")
    refine ⟨t, rfl, hl, fun r H1 s1 hr1 => ?_⟩
    cases hd : dueP t with
    | none =>
      rw [hd] at hr1
      obtain rfl : r = .non := hr1
      repeat' (first | (with_reducible refine wp_isNn ?_) | (with_reducible refine wp_istr ?_) | (with_reducible refine wp_istr' ?_) | (with_reducible refine wp_comp0 ?_) | (with_reducible refine wp_inS ?_) | (with_reducible refine wp_notInS ?_) | (with_reducible refine wp_bm ?_) | (with_reducible refine wp_tupI ?_) | (with_reducible refine wp_callE ?_) | walk_at "st")
      exact ⟨t, rfl, hl, hd, fun H2 s2 => k _ (s1.trans s2)⟩
    | some p =>
      rw [hd] at hr1
      have hp1 : IsP H1 r p := hr1
      obtain ⟨ra, rfl, hra⟩ := id hp1
      repeat' (first | (with_reducible refine wp_isNr ?_) | (with_reducible refine wp_istr ?_) | (with_reducible refine wp_istr' ?_) | (with_reducible refine wp_comp0 ?_) | (with_reducible refine wp_inS ?_) | (with_reducible refine wp_notInS ?_) | (with_reducible refine wp_bm ?_) | (with_reducible refine wp_tupI ?_) | (with_reducible refine wp_callE ?_) | walk_at "st")
      refine ⟨t, rfl, hl, (fun h => by rw [hd] at h; cases h), fun p2 hp2 z H2 s2 hz => ?_⟩
      rw [hd] at hp2
      cases hp2
      have hp2 := hp1.same s2
      repeat' (first | (with_reducible refine wp_istr ?_) | (with_reducible refine wp_istr' ?_) | (with_reducible refine wp_comp0 ?_) | (with_reducible refine wp_inS ?_) | (with_reducible refine wp_notInS ?_) | (with_reducible refine wp_bm ?_) | (with_reducible refine wp_tupI ?_) | (with_reducible refine wp_callE ?_) | walk_at "st")
      obtain ⟨za, rfl, hza⟩ := id hz
      repeat' (first | (with_reducible refine wp_istr ?_) | (with_reducible refine wp_istr' ?_) | (with_reducible refine wp_comp0 ?_) | (with_reducible refine wp_inS ?_) | (with_reducible refine wp_notInS ?_) | (with_reducible refine wp_bm ?_) | (with_reducible refine wp_tupI ?_) | (with_reducible refine wp_callE ?_) | walk_at "st")
      refine ⟨za, rfl, ⟨_, .inl (.inl hza)⟩, ?_⟩
      have hpl : p.length ≤ 100000 := by
        unfold dueP at hd
        have hnl := names_len t
        split at hd
        · cases hd; exact Nat.zero_le _
        · split at hd
          · cases hd; omega
          · cases hd
      refine comp_tup (xs := pV p) (by unfold pV; rw [List.length_map]; exact hpl) (fun D i acc H' => Same H2 H' ∧ H' D = some (.lst acc) ∧ acc = []) (fun D hD => ⟨Same.upd hD, upd_same, rfl⟩)
        (fun D i acc H' hD hi h => ⟨h.2.1, by rw [h.2.2]; exact Nat.zero_le _, .inl (.inl (h.1 _ _ hza))⟩) ?_ ?_
      · intro D i x acc H' N hD hj hlt hN hP
        unfold pV at hj
        rw [List.getElem?_map] at hj
        obtain ⟨y, hy, rfl⟩ := Option.map_eq_some_iff.mp hj
        repeat' (first | (with_reducible refine wp_istr ?_) | (with_reducible refine wp_istr' ?_) | (with_reducible refine wp_comp0 ?_) | (with_reducible refine wp_inS ?_) | (with_reducible refine wp_notInS ?_) | (with_reducible refine wp_bm ?_) | (with_reducible refine wp_tupI ?_) | (with_reducible refine wp_callE ?_) | walk_at "st")
        exact hN _ _ hP
      · intro D acc H3 hD hP
        obtain ⟨s3, h3, rfl⟩ := hP
        repeat' (first | (with_reducible refine wp_istr ?_) | (with_reducible refine wp_istr' ?_) | (with_reducible refine wp_comp0 ?_) | (with_reducible refine wp_inS ?_) | (with_reducible refine wp_notInS ?_) | (with_reducible refine wp_bm ?_) | (with_reducible refine wp_tupI ?_) | (with_reducible refine wp_callE ?_) | walk_at "st")
        refine wp_lstF (by show 0 ≤ 1000; decide) fun q4 H4 s4 h4 _ => ?_
        refine wp_eqNil (sq_of (s4 _ _ h3)) (sq_of h4) ?_
        repeat' (first | (with_reducible refine wp_istr ?_) | (with_reducible refine wp_istr' ?_) | (with_reducible refine wp_comp0 ?_) | (with_reducible refine wp_inS ?_) | (with_reducible refine wp_notInS ?_) | (with_reducible refine wp_bm ?_) | (with_reducible refine wp_tupI ?_) | (with_reducible refine wp_callE ?_) | walk_at "st")
        exact k _ (s1.trans (s2.trans (s3.trans s4)))
theorem law_tail {g : TG} {tb : TS} {D : Ends} {a : Addr} {m mo : Int} {z : V} {H : Hp} (h0 : 0 ≤ m) (h1 : m ≤ 41) (h2 : 8 ≤ mo) (h3 : mo ≤ 9)
    (h : ∀ m mo : Int, 0 ≤ m → m ≤ 41 → 8 ≤ mo → mo ≤ 9 → tLoop g tb D [some (.ref a), some (.int m), some (.int mo), some z, none, none, none, none] (Itr 0 m.toNat) H) :
    tLoop g tb D [some (.ref a), some (.int m), some (.int mo), some z, none, none, none, none] (Itr 0 m.toNat) H := h m mo h0 h1 h2 h3
theorem b2i (b : Bool) : 0 ≤ (if b = true then (1 : Int) else 0) ∧ (if b = true then (1 : Int) else 0) ≤ 1 := by cases b <;> decide
theorem sclaw : FnScope ["_law_script", "_law_many", "_law_most", "_law_path", "_law_k", "_law_load", "_law_text", "_law_shown"] ["_law_script"] (defScope slaw) := ⟨rfl, rfl, rfl, by decide +kernel, rfl, by decide +kernel, by decide +kernel⟩
theorem oklaw {f : Addr} {fd : FuncData} (F : Fun K "law" "law" slaw f fd) (T : Txt K mg e) (F_law_at : FnAll P w K mg base "_law_at" 1 ["_law_script", "_law_k"] (spAt K)) (F_law_name : FnAll P w K mg base "_law_name" 1 ["_law_load", "_law_most"] (spName)) (F_law_spoiled : FnAll P w K mg base "_law_spoiled" 1 ["_law_text", "_law_load"] (spSpoil)) (F_law_due : FnAll P w K mg base "_law_due" 1 ["_law_text"] (spDue)) (F_law_reads : FnAll P w K mg base "_law_reads" 5 ["_law_text"] (spReads)) (Fshow_path : FnAll P w K mg base "show_path" 1 ["path"] (spShow)) : FnOk P w K mg base CX0 6 f fd ["_law_script"] (spLaw K) := by
  refine F.ok (k := 5) sclaw (fun vs H Q E h => ?_) (fun cdv A outer s H vs Q E hr h => ?_)
  · obtain ⟨a, ns, rfl, _⟩ := h
    rfl
  · obtain ⟨a, ns, rfl, hS, hlen, k⟩ := h
    have hu := hu16 hr
    have nd := sclaw.nd
    have hsl := sl_len
    refine ⟨_, (pss_cons (ps_set (i := 1) nd rfl (Or.inl rfl) (pe_op op_mod (pe_op op_fdiv (pe_callF F_law_at hr (pa_cons (pv 0) (pa_cons pe_int pa_nil))) pe_int) pe_int))
      (pss_cons (ps_if (pt_cmpR op_eq (pe_op op_mod (pe_callF F_law_at hr (pa_cons (pv 0) (pa_cons pe_int pa_nil))) pe_int) pe_int (nomark _)) (pss_one (ps_set (i := 1) nd rfl (Or.inl rfl) (pe_op op_add pe_int (pe_op op_mod (pe_op op_fdiv (pe_callF F_law_at hr (pa_cons (pv 0) (pa_cons pe_int pa_nil))) pe_int) pe_int)))) pss_nil)
      (pss_cons (ps_set (i := 2) nd rfl (Or.inl rfl) (pe_op op_add pe_int (pe_callTy call_int1' (by rfl) T.b_int PyProof.Rows.boot_int (pa_cons (pe_cmpR op_eq (pe_op op_mod (pe_callF F_law_at hr (pa_cons (pv 0) (pa_cons pe_int pa_nil))) pe_int) pe_int (nomark _)) pa_nil))))
      (pss_cons (ps_set (i := 3) nd rfl (Or.inl rfl) (pe_tup pa_nil))
      (pss_cons (ps_for PassesOwn.never rfl (pi_range1 rfl T.b_range (pa_cons (pv 1) pa_nil)) (pg_name (i := 4) nd rfl (Or.inl rfl)) (pss_cons (ps_set (i := 5) nd rfl (Or.inl rfl) (pe_callF F_law_at hr (pa_cons (pv 0) (pa_cons (pe_op op_add pe_int (pv 4)) pa_nil))))
      (pss_cons (ps_if (pt_cmpR op_eq (pv 5) pe_int (nomark _)) (pss_one (ps_set (i := 5) nd rfl (Or.inl rfl) (pe_op op_fdiv (pe_callF F_law_at hr (pa_cons (pv 0) (pa_cons pe_int pa_nil))) (pe_op op_add (pv 4) pe_int)))) pss_nil)
      (pss_one (ps_set (i := 3) nd rfl (Or.inl rfl) (pe_op op_catP (pv 3) (pe_tup (pa_cons (pe_callF F_law_name hr (pa_cons (pv 5) (pa_cons (pv 2) pa_nil))) pa_nil))))))))
      (pss_cons (ps_set (i := 6) nd rfl (Or.inl rfl) (pe_op op_addS pe_str (pe_bm PySem.F.plainAttrs_str PySem.F.slot_str_join PySem.F.type_str_join mt_join pe_str (pa_cons (pe_callTy call_listOf (by rfl) T.b_list PyProof.Rows.boot_list (pa_cons (pv 3) pa_nil)) pa_nil))))
      (pss_cons (ps_if (PW.pt (pw_and (pt_cmpR op_le (pv 1) pe_int (nomark _)) (pw_and1 (pt_cmpR (op_eqG hu) (pe_comp (compScope0 rfl (by decide) (by decide +kernel) rfl) rfl (pi_tup (pv 3)) (fun _ _ _ _ => (pif_one (pt_cmpR op_gt (pe_callB call_lenS (by rfl) T.b_len PySem.boot_len (pa_cons (pv 0) pa_nil)) pe_int (nomark _)))) (fun _ _ _ _ => (pv 0))) (pe_lst pa_nil) (nomark _))))) (pss_cons (ps_set (i := 7) nd rfl (Or.inl rfl) (pe_callF Fshow_path hr (pa_cons (pv 3) pa_nil)))
      (pss_one (ps_if (PW.pt (pw_or (pt_not (pt_val (pe_callB (r := rIsi K) call_isinst (by rfl) T.b_isinstance boot_isinstance (pa_cons (pv 7) (pa_cons (pe_bltn (v := .ty "str") rfl T.b_str boot_str rfl) pa_nil))))) (pw_or (pt_cmpR op_ne (pv 7) (pv 6) (nomark _)) (pw_or1 (pt_cmpR (op_neP hu) (pe_callF F_law_due hr (pa_cons (pv 6) pa_nil)) (pv 3) (nomark _)))))) (pss_one (ps_ret pe_bl)) pss_nil))) pss_nil)
      (pss_cons (ps_if (pt_not (pt_val (pe_callF F_law_reads hr (pa_cons (pv 6) pa_nil)))) (pss_one (ps_ret pe_bl)) pss_nil)
      (pss_one (ps_ret (pe_callF F_law_reads hr (pa_cons (pe_callF F_law_spoiled hr (pa_cons (pv 6) (pa_cons (pe_op op_fdiv (pe_callF F_law_at hr (pa_cons (pv 0) (pa_cons pe_int pa_nil))) pe_int) pa_nil))) pa_nil)))))))))))), ?_⟩
    have est : start ["_law_script", "_law_many", "_law_most", "_law_path", "_law_k", "_law_load", "_law_text", "_law_shown"] [.ref a] = [some (.ref a), none, none, none, none, none, none, none] := rfl
    rw [est]
    clear est
    repeat' (first | (with_reducible refine wp_istr ?_) | (with_reducible refine wp_istr' ?_) | (with_reducible refine wp_comp0 ?_) | (with_reducible refine wp_inS ?_) | (with_reducible refine wp_notInS ?_) | (with_reducible refine wp_bm ?_) | (with_reducible refine wp_tupI ?_) | (with_reducible refine wp_callE ?_) | (with_reducible refine wp_int1b ?_) | walk_at "st")
    refine ⟨a, ns, _, rfl, by decide, hS, fun m1 => ?_⟩
    repeat' (first | (with_reducible refine wp_istr ?_) | (with_reducible refine wp_istr' ?_) | (with_reducible refine wp_comp0 ?_) | (with_reducible refine wp_inS ?_) | (with_reducible refine wp_notInS ?_) | (with_reducible refine wp_bm ?_) | (with_reducible refine wp_tupI ?_) | (with_reducible refine wp_callE ?_) | (with_reducible refine wp_int1b ?_) | walk_at "st")
    refine ⟨a, ns, _, rfl, by decide, hS, fun m2 => ?_⟩
    repeat' (first | (with_reducible refine wp_istr ?_) | (with_reducible refine wp_istr' ?_) | (with_reducible refine wp_comp0 ?_) | (with_reducible refine wp_inS ?_) | (with_reducible refine wp_notInS ?_) | (with_reducible refine wp_bm ?_) | (with_reducible refine wp_tupI ?_) | (with_reducible refine wp_callE ?_) | (with_reducible refine wp_int1b ?_) | walk_at "st")
    · refine ⟨a, ns, _, rfl, by decide, hS, fun m3 => ?_⟩
      repeat' (first | (with_reducible refine wp_istr ?_) | (with_reducible refine wp_istr' ?_) | (with_reducible refine wp_comp0 ?_) | (with_reducible refine wp_inS ?_) | (with_reducible refine wp_notInS ?_) | (with_reducible refine wp_bm ?_) | (with_reducible refine wp_tupI ?_) | (with_reducible refine wp_callE ?_) | (with_reducible refine wp_int1b ?_) | walk_at "st")
      refine ⟨a, ns, _, rfl, by decide, hS, fun m4 => ?_⟩
      repeat' (first | (with_reducible refine wp_istr ?_) | (with_reducible refine wp_istr' ?_) | (with_reducible refine wp_comp0 ?_) | (with_reducible refine wp_inS ?_) | (with_reducible refine wp_notInS ?_) | (with_reducible refine wp_bm ?_) | (with_reducible refine wp_tupI ?_) | (with_reducible refine wp_callE ?_) | (with_reducible refine wp_int1b ?_) | walk_at "st")
      rename_i z H1 s1 hz
      have hb := b2i (decide (m4 % 5 = 4))
      refine law_tail (by omega) (by omega) (by omega) (by omega) fun m mo hm0 hm1 h8 h9 => ?_
      refine loop_range (fun i σ' H' => Same H H' ∧ ∃ (z : V) (p : List Str) (o4 o5 : Option V), σ' = [some (.ref a), some (.int m), some (.int mo), some z, o4, o5, none, none] ∧ IsP H' z p ∧ p.length = i ∧ ∀ x ∈ p, 1 ≤ x.length ∧ x.length ≤ 9 ∧ LetS x) ⟨s1, z, [], none, none, rfl, hz, rfl, fun _ h => nomatch h⟩ ?_ ?_
      · rintro i _ H2 hi ⟨s2, z2, p, o4, o5, rfl, hz2, hpl, hpx⟩
        have hi41 : i < 41 := by omega
        have hS2 := s2.seq hS
        repeat' (first | (with_reducible refine wp_istr ?_) | (with_reducible refine wp_istr' ?_) | (with_reducible refine wp_comp0 ?_) | (with_reducible refine wp_inS ?_) | (with_reducible refine wp_notInS ?_) | (with_reducible refine wp_bm ?_) | (with_reducible refine wp_tupI ?_) | (with_reducible refine wp_callE ?_) | (with_reducible refine wp_int1b ?_) | walk_at "st")
        refine ⟨a, ns, _, rfl, by omega, hS2, fun m5 => ?_⟩
        repeat' (first | (with_reducible refine wp_istr ?_) | (with_reducible refine wp_istr' ?_) | (with_reducible refine wp_comp0 ?_) | (with_reducible refine wp_inS ?_) | (with_reducible refine wp_notInS ?_) | (with_reducible refine wp_bm ?_) | (with_reducible refine wp_tupI ?_) | (with_reducible refine wp_callE ?_) | (with_reducible refine wp_int1b ?_) | walk_at "st")
        · refine ⟨a, ns, _, rfl, by decide, hS2, fun m6 => ?_⟩
          repeat' (first | ((with_reducible refine use_name ?h0 ?h1 ?_); (case h0 => omega); (case h1 => omega); intro _ _ _ _) | (with_reducible refine wp_istr ?_) | (with_reducible refine wp_istr' ?_) | (with_reducible refine wp_comp0 ?_) | (with_reducible refine wp_inS ?_) | (with_reducible refine wp_notInS ?_) | (with_reducible refine wp_bm ?_) | (with_reducible refine wp_tupI ?_) | (with_reducible refine wp_callE ?_) | (with_reducible refine wp_int1b ?_) | walk_at "st")
          rename_i x hx1 hx9 hxl z3 r3 H3 e3 l3 s3 hz3 z4 r4 H4 e4 l4 s4 hz4
          refine ⟨(s2.trans s3).trans s4, z4, r4, _, _, rfl, hz4, by omega, fun y hy => ?_⟩
          rw [e4, e3] at hy
          rcases List.mem_append.mp hy with h | h
          · exact hpx y h
          · rw [List.mem_singleton.mp h]; exact ⟨hx1, hx9, hxl⟩
        · refine use_name h8 h9 fun x hx1 hx9 hxl => ?_
          repeat' (first | ((with_reducible refine use_name ?h0 ?h1 ?_); (case h0 => omega); (case h1 => omega); intro _ _ _ _) | (with_reducible refine wp_istr ?_) | (with_reducible refine wp_istr' ?_) | (with_reducible refine wp_comp0 ?_) | (with_reducible refine wp_inS ?_) | (with_reducible refine wp_notInS ?_) | (with_reducible refine wp_bm ?_) | (with_reducible refine wp_tupI ?_) | (with_reducible refine wp_callE ?_) | (with_reducible refine wp_int1b ?_) | walk_at "st")
          rename_i z3 r3 H3 e3 l3 s3 hz3 z4 r4 H4 e4 l4 s4 hz4
          refine ⟨(s2.trans s3).trans s4, z4, r4, _, _, rfl, hz4, by omega, fun y hy => ?_⟩
          rw [e4, e3] at hy
          rcases List.mem_append.mp hy with h | h
          · exact hpx y h
          · rw [List.mem_singleton.mp h]; exact ⟨hx1, hx9, hxl⟩
      · rintro _ H2 ⟨s2, z2, p, o4, o5, rfl, hz2, hpl, hpx⟩
        have hp41 : p.length ≤ 41 := by omega
        obtain ⟨za, rfl, hza⟩ := id hz2
        have hok : JoinOk (Str.ofString "/") p = true := joinOk_few (fun s hs => by have := (hpx s hs).2.1; omega) (by omega) (by omega)
        have hjl := join_len9 (ss := p) fun s hs => (hpx s hs).2.1
        have hsz := sizeLine_eq
        repeat' (first | (with_reducible refine wp_istr ?_) | (with_reducible refine wp_istr' ?_) | (with_reducible refine wp_comp0 ?_) | (with_reducible refine wp_inS ?_) | (with_reducible refine wp_notInS ?_) | (with_reducible refine wp_bm ?_) | (with_reducible refine wp_tupI ?_) | (with_reducible refine wp_callE ?_) | (with_reducible refine wp_int1b ?_) | walk_at "st")
        refine ⟨rfl, ?_⟩
        repeat' (first | (with_reducible refine wp_istr ?_) | (with_reducible refine wp_istr' ?_) | (with_reducible refine wp_comp0 ?_) | (with_reducible refine wp_inS ?_) | (with_reducible refine wp_notInS ?_) | (with_reducible refine wp_bm ?_) | (with_reducible refine wp_tupI ?_) | (with_reducible refine wp_callE ?_) | (with_reducible refine wp_int1b ?_) | walk_at "st")
        refine wp_listOfP hz2 fun q H3 s3 h3 _ => ?_
        repeat' (first | (with_reducible refine wp_istr ?_) | (with_reducible refine wp_istr' ?_) | (with_reducible refine wp_comp0 ?_) | (with_reducible refine wp_inS ?_) | (with_reducible refine wp_notInS ?_) | (with_reducible refine wp_bm ?_) | (with_reducible refine wp_tupI ?_) | (with_reducible refine wp_callE ?_) | (with_reducible refine wp_int1b ?_) | walk_at "st")
        refine wp_join (ss := p) (sq_of h3) hok ?_
        rw [join_eq]
        refine wp_addS (by omega) ?_
        have hza3 := s3 _ _ hza
        have hz3 := hz2.same s3
        have s03 := s2.trans s3
        have htl : ((Str.ofString "/") ++ Str.join (Str.ofString "/") p).length ≤ 420 := by rw [str_app_len]; omega
        have hdue := due_shown (p := p)
        have hshow : spShow [.ref za] = spShow [.ref za] := rfl
        generalize htx : (Str.ofString "/") ++ Str.join (Str.ofString "/") p = tx at *
        repeat' (first | (with_reducible refine wp_istr ?_) | (with_reducible refine wp_istr' ?_) | (with_reducible refine wp_comp0 ?_) | (with_reducible refine wp_inS ?_) | (with_reducible refine wp_notInS ?_) | (with_reducible refine wp_bm ?_) | (with_reducible refine wp_tupI ?_) | (with_reducible refine wp_callE ?_) | (with_reducible refine wp_int1b ?_) | walk_at "st")
        · refine ⟨za, rfl, ⟨_, .inl (.inl hza3)⟩, ?_⟩
          refine comp_tup (xs := pV p) (by unfold pV; rw [List.length_map]; omega) (fun D i acc H' => Same H3 H' ∧ H' D = some (.lst acc) ∧ acc = pV ((p.take i).filter fun x => decide (8 < x.length))) (fun D hD => ⟨Same.upd hD, upd_same, rfl⟩)
            (fun D i acc H' hD hi h => ⟨h.2.1, by rw [h.2.2]; unfold pV; rw [List.length_map]; exact Nat.le_trans (List.length_filter_le _ _) (by rw [List.length_take]; omega), .inl (.inl (h.1 _ _ hza3))⟩) ?_ ?_
          · intro D i x acc H' N hD hj hlt hN hP
            obtain ⟨hs, hd, he⟩ := hP
            unfold pV at hj
            rw [List.getElem?_map] at hj
            obtain ⟨y, hy, rfl⟩ := Option.map_eq_some_iff.mp hj
            have hy9 := (hpx y (List.mem_of_getElem? hy)).2.1
            repeat' (first | (with_reducible refine wp_istr ?_) | (with_reducible refine wp_istr' ?_) | (with_reducible refine wp_comp0 ?_) | (with_reducible refine wp_inS ?_) | (with_reducible refine wp_notInS ?_) | (with_reducible refine wp_bm ?_) | (with_reducible refine wp_tupI ?_) | (with_reducible refine wp_callE ?_) | (with_reducible refine wp_int1b ?_) | walk_at "st")
            · rename_i h8y
              have h8y' : 8 < y.length := by omega
              refine ⟨hd, hlt, hN _ _ ⟨fun b' o' e' => ?_, upd_same, ?_⟩⟩
              · rw [upd_ne (ne_of_none e' hD)]; exact hs b' o' e'
              · rw [List.take_add_one, hy, he, List.filter_append]
                simp [pV, h8y']
            · rename_i h8y
              have h8y' : ¬ 8 < y.length := by omega
              refine hN _ _ ⟨hs, hd, ?_⟩
              rw [List.take_add_one, hy, he, List.filter_append]
              simp [pV, h8y']
          · intro D acc H4 hD hP
            obtain ⟨s4, h4, he⟩ := hP
            have hpv : (pV p).length = p.length := by unfold pV; rw [List.length_map]
            rw [hpv, List.take_length] at he
            repeat' (first | (with_reducible refine wp_istr ?_) | (with_reducible refine wp_istr' ?_) | (with_reducible refine wp_comp0 ?_) | (with_reducible refine wp_inS ?_) | (with_reducible refine wp_notInS ?_) | (with_reducible refine wp_bm ?_) | (with_reducible refine wp_tupI ?_) | (with_reducible refine wp_callE ?_) | (with_reducible refine wp_int1b ?_) | walk_at "st")
            refine wp_lstF (by show 0 ≤ 1000; decide) fun q5 H5 s5 h5 _ => ?_
            refine wp_eqNil (sq_of (s5 _ _ h4)) (sq_of h5) ?_
            have s05 := s03.trans (s4.trans s5)
            have hz5 := (hz3.same s4).same s5
            repeat' (first | (with_reducible refine wp_istr ?_) | (with_reducible refine wp_istr' ?_) | (with_reducible refine wp_comp0 ?_) | (with_reducible refine wp_inS ?_) | (with_reducible refine wp_notInS ?_) | (with_reducible refine wp_bm ?_) | (with_reducible refine wp_tupI ?_) | (with_reducible refine wp_callE ?_) | (with_reducible refine wp_int1b ?_) | walk_at "st")
            · rename_i hnil
              have hp8 : ∀ x ∈ p, isN x = true := fun x hx => by
                have h1 := hpx x hx
                refine isN_of h1.1 ?_ h1.2.2
                by_cases h : 8 < x.length
                · exfalso
                  rw [he] at hnil
                  unfold pV at hnil
                  have h2 := List.map_eq_nil_iff.mp hnil
                  have h3 : x ∈ p.filter fun x => decide (8 < x.length) := List.mem_filter.mpr ⟨hx, decide_eq_true h⟩
                  rw [h2] at h3
                  exact nomatch h3
                · omega
              refine ⟨.ref za, p, rfl, hz5, hok, by omega, ?_⟩
              rw [htx]
              repeat' (first | (with_reducible refine wp_istr ?_) | (with_reducible refine wp_istr' ?_) | (with_reducible refine wp_comp0 ?_) | (with_reducible refine wp_inS ?_) | (with_reducible refine wp_notInS ?_) | (with_reducible refine wp_bm ?_) | (with_reducible refine wp_tupI ?_) | (with_reducible refine wp_callE ?_) | (with_reducible refine wp_int1b ?_) | walk_at "st")
              refine ⟨tx, rfl, by omega, fun r H6 s6 hr6 => ?_⟩
              rw [hdue hp8 (by omega)] at hr6
              have hr6 : IsP H6 r p := hr6
              have hz6 := hz5.same s6
              have s06 := s05.trans s6
              repeat' (first | (with_reducible refine wp_istr ?_) | (with_reducible refine wp_istr' ?_) | (with_reducible refine wp_comp0 ?_) | (with_reducible refine wp_inS ?_) | (with_reducible refine wp_notInS ?_) | (with_reducible refine wp_bm ?_) | (with_reducible refine wp_tupI ?_) | (with_reducible refine wp_callE ?_) | (with_reducible refine wp_int1b ?_) | walk_at "st")
              refine ⟨tx, rfl, by omega, fun H9 s9 => ?_⟩
              repeat' (first | (with_reducible refine wp_istr ?_) | (with_reducible refine wp_istr' ?_) | (with_reducible refine wp_comp0 ?_) | (with_reducible refine wp_inS ?_) | (with_reducible refine wp_notInS ?_) | (with_reducible refine wp_bm ?_) | (with_reducible refine wp_tupI ?_) | (with_reducible refine wp_callE ?_) | (with_reducible refine wp_int1b ?_) | walk_at "st")
              have sF := Same.trans s06 s9
              refine ⟨a, ns, _, rfl, by decide, sF.seq hS, fun m7 => ?_⟩
              repeat' (first | (with_reducible refine wp_istr ?_) | (with_reducible refine wp_istr' ?_) | (with_reducible refine wp_comp0 ?_) | (with_reducible refine wp_inS ?_) | (with_reducible refine wp_notInS ?_) | (with_reducible refine wp_bm ?_) | (with_reducible refine wp_tupI ?_) | (with_reducible refine wp_callE ?_) | (with_reducible refine wp_int1b ?_) | walk_at "st")
              refine ⟨tx, _, rfl, by omega, fun x hx => ?_⟩
              repeat' (first | (with_reducible refine wp_istr ?_) | (with_reducible refine wp_istr' ?_) | (with_reducible refine wp_comp0 ?_) | (with_reducible refine wp_inS ?_) | (with_reducible refine wp_notInS ?_) | (with_reducible refine wp_bm ?_) | (with_reducible refine wp_tupI ?_) | (with_reducible refine wp_callE ?_) | (with_reducible refine wp_int1b ?_) | walk_at "st")
              exact ⟨x, rfl, by omega, fun H10 s10 => k _⟩
            · refine ⟨tx, rfl, by omega, fun H9 s9 => ?_⟩
              repeat' (first | (with_reducible refine wp_istr ?_) | (with_reducible refine wp_istr' ?_) | (with_reducible refine wp_comp0 ?_) | (with_reducible refine wp_inS ?_) | (with_reducible refine wp_notInS ?_) | (with_reducible refine wp_bm ?_) | (with_reducible refine wp_tupI ?_) | (with_reducible refine wp_callE ?_) | (with_reducible refine wp_int1b ?_) | walk_at "st")
              have sF := Same.trans s05 s9
              refine ⟨a, ns, _, rfl, by decide, sF.seq hS, fun m7 => ?_⟩
              repeat' (first | (with_reducible refine wp_istr ?_) | (with_reducible refine wp_istr' ?_) | (with_reducible refine wp_comp0 ?_) | (with_reducible refine wp_inS ?_) | (with_reducible refine wp_notInS ?_) | (with_reducible refine wp_bm ?_) | (with_reducible refine wp_tupI ?_) | (with_reducible refine wp_callE ?_) | (with_reducible refine wp_int1b ?_) | walk_at "st")
              refine ⟨tx, _, rfl, by omega, fun x hx => ?_⟩
              repeat' (first | (with_reducible refine wp_istr ?_) | (with_reducible refine wp_istr' ?_) | (with_reducible refine wp_comp0 ?_) | (with_reducible refine wp_inS ?_) | (with_reducible refine wp_notInS ?_) | (with_reducible refine wp_bm ?_) | (with_reducible refine wp_tupI ?_) | (with_reducible refine wp_callE ?_) | (with_reducible refine wp_int1b ?_) | walk_at "st")
              exact ⟨x, rfl, by omega, fun H10 s10 => k _⟩
        · refine ⟨tx, rfl, by omega, fun H9 s9 => ?_⟩
          repeat' (first | (with_reducible refine wp_istr ?_) | (with_reducible refine wp_istr' ?_) | (with_reducible refine wp_comp0 ?_) | (with_reducible refine wp_inS ?_) | (with_reducible refine wp_notInS ?_) | (with_reducible refine wp_bm ?_) | (with_reducible refine wp_tupI ?_) | (with_reducible refine wp_callE ?_) | (with_reducible refine wp_int1b ?_) | walk_at "st")
          have sF := Same.trans s03 s9
          refine ⟨a, ns, _, rfl, by decide, sF.seq hS, fun m7 => ?_⟩
          repeat' (first | (with_reducible refine wp_istr ?_) | (with_reducible refine wp_istr' ?_) | (with_reducible refine wp_comp0 ?_) | (with_reducible refine wp_inS ?_) | (with_reducible refine wp_notInS ?_) | (with_reducible refine wp_bm ?_) | (with_reducible refine wp_tupI ?_) | (with_reducible refine wp_callE ?_) | (with_reducible refine wp_int1b ?_) | walk_at "st")
          refine ⟨tx, _, rfl, by omega, fun x hx => ?_⟩
          repeat' (first | (with_reducible refine wp_istr ?_) | (with_reducible refine wp_istr' ?_) | (with_reducible refine wp_comp0 ?_) | (with_reducible refine wp_inS ?_) | (with_reducible refine wp_notInS ?_) | (with_reducible refine wp_bm ?_) | (with_reducible refine wp_tupI ?_) | (with_reducible refine wp_callE ?_) | (with_reducible refine wp_int1b ?_) | walk_at "st")
          exact ⟨x, rfl, by omega, fun H10 s10 => k _⟩
    · refine ⟨a, ns, _, rfl, by decide, hS, fun m4 => ?_⟩
      repeat' (first | (with_reducible refine wp_istr ?_) | (with_reducible refine wp_istr' ?_) | (with_reducible refine wp_comp0 ?_) | (with_reducible refine wp_inS ?_) | (with_reducible refine wp_notInS ?_) | (with_reducible refine wp_bm ?_) | (with_reducible refine wp_tupI ?_) | (with_reducible refine wp_callE ?_) | (with_reducible refine wp_int1b ?_) | walk_at "st")
      rename_i z H1 s1 hz
      have hb := b2i (decide (m4 % 5 = 4))
      refine law_tail (by omega) (by omega) (by omega) (by omega) fun m mo hm0 hm1 h8 h9 => ?_
      refine loop_range (fun i σ' H' => Same H H' ∧ ∃ (z : V) (p : List Str) (o4 o5 : Option V), σ' = [some (.ref a), some (.int m), some (.int mo), some z, o4, o5, none, none] ∧ IsP H' z p ∧ p.length = i ∧ ∀ x ∈ p, 1 ≤ x.length ∧ x.length ≤ 9 ∧ LetS x) ⟨s1, z, [], none, none, rfl, hz, rfl, fun _ h => nomatch h⟩ ?_ ?_
      · rintro i _ H2 hi ⟨s2, z2, p, o4, o5, rfl, hz2, hpl, hpx⟩
        have hi41 : i < 41 := by omega
        have hS2 := s2.seq hS
        repeat' (first | (with_reducible refine wp_istr ?_) | (with_reducible refine wp_istr' ?_) | (with_reducible refine wp_comp0 ?_) | (with_reducible refine wp_inS ?_) | (with_reducible refine wp_notInS ?_) | (with_reducible refine wp_bm ?_) | (with_reducible refine wp_tupI ?_) | (with_reducible refine wp_callE ?_) | (with_reducible refine wp_int1b ?_) | walk_at "st")
        refine ⟨a, ns, _, rfl, by omega, hS2, fun m5 => ?_⟩
        repeat' (first | (with_reducible refine wp_istr ?_) | (with_reducible refine wp_istr' ?_) | (with_reducible refine wp_comp0 ?_) | (with_reducible refine wp_inS ?_) | (with_reducible refine wp_notInS ?_) | (with_reducible refine wp_bm ?_) | (with_reducible refine wp_tupI ?_) | (with_reducible refine wp_callE ?_) | (with_reducible refine wp_int1b ?_) | walk_at "st")
        · refine ⟨a, ns, _, rfl, by decide, hS2, fun m6 => ?_⟩
          repeat' (first | ((with_reducible refine use_name ?h0 ?h1 ?_); (case h0 => omega); (case h1 => omega); intro _ _ _ _) | (with_reducible refine wp_istr ?_) | (with_reducible refine wp_istr' ?_) | (with_reducible refine wp_comp0 ?_) | (with_reducible refine wp_inS ?_) | (with_reducible refine wp_notInS ?_) | (with_reducible refine wp_bm ?_) | (with_reducible refine wp_tupI ?_) | (with_reducible refine wp_callE ?_) | (with_reducible refine wp_int1b ?_) | walk_at "st")
          rename_i x hx1 hx9 hxl z3 r3 H3 e3 l3 s3 hz3 z4 r4 H4 e4 l4 s4 hz4
          refine ⟨(s2.trans s3).trans s4, z4, r4, _, _, rfl, hz4, by omega, fun y hy => ?_⟩
          rw [e4, e3] at hy
          rcases List.mem_append.mp hy with h | h
          · exact hpx y h
          · rw [List.mem_singleton.mp h]; exact ⟨hx1, hx9, hxl⟩
        · refine use_name h8 h9 fun x hx1 hx9 hxl => ?_
          repeat' (first | ((with_reducible refine use_name ?h0 ?h1 ?_); (case h0 => omega); (case h1 => omega); intro _ _ _ _) | (with_reducible refine wp_istr ?_) | (with_reducible refine wp_istr' ?_) | (with_reducible refine wp_comp0 ?_) | (with_reducible refine wp_inS ?_) | (with_reducible refine wp_notInS ?_) | (with_reducible refine wp_bm ?_) | (with_reducible refine wp_tupI ?_) | (with_reducible refine wp_callE ?_) | (with_reducible refine wp_int1b ?_) | walk_at "st")
          rename_i z3 r3 H3 e3 l3 s3 hz3 z4 r4 H4 e4 l4 s4 hz4
          refine ⟨(s2.trans s3).trans s4, z4, r4, _, _, rfl, hz4, by omega, fun y hy => ?_⟩
          rw [e4, e3] at hy
          rcases List.mem_append.mp hy with h | h
          · exact hpx y h
          · rw [List.mem_singleton.mp h]; exact ⟨hx1, hx9, hxl⟩
      · rintro _ H2 ⟨s2, z2, p, o4, o5, rfl, hz2, hpl, hpx⟩
        have hp41 : p.length ≤ 41 := by omega
        obtain ⟨za, rfl, hza⟩ := id hz2
        have hok : JoinOk (Str.ofString "/") p = true := joinOk_few (fun s hs => by have := (hpx s hs).2.1; omega) (by omega) (by omega)
        have hjl := join_len9 (ss := p) fun s hs => (hpx s hs).2.1
        have hsz := sizeLine_eq
        repeat' (first | (with_reducible refine wp_istr ?_) | (with_reducible refine wp_istr' ?_) | (with_reducible refine wp_comp0 ?_) | (with_reducible refine wp_inS ?_) | (with_reducible refine wp_notInS ?_) | (with_reducible refine wp_bm ?_) | (with_reducible refine wp_tupI ?_) | (with_reducible refine wp_callE ?_) | (with_reducible refine wp_int1b ?_) | walk_at "st")
        refine ⟨rfl, ?_⟩
        repeat' (first | (with_reducible refine wp_istr ?_) | (with_reducible refine wp_istr' ?_) | (with_reducible refine wp_comp0 ?_) | (with_reducible refine wp_inS ?_) | (with_reducible refine wp_notInS ?_) | (with_reducible refine wp_bm ?_) | (with_reducible refine wp_tupI ?_) | (with_reducible refine wp_callE ?_) | (with_reducible refine wp_int1b ?_) | walk_at "st")
        refine wp_listOfP hz2 fun q H3 s3 h3 _ => ?_
        repeat' (first | (with_reducible refine wp_istr ?_) | (with_reducible refine wp_istr' ?_) | (with_reducible refine wp_comp0 ?_) | (with_reducible refine wp_inS ?_) | (with_reducible refine wp_notInS ?_) | (with_reducible refine wp_bm ?_) | (with_reducible refine wp_tupI ?_) | (with_reducible refine wp_callE ?_) | (with_reducible refine wp_int1b ?_) | walk_at "st")
        refine wp_join (ss := p) (sq_of h3) hok ?_
        rw [join_eq]
        refine wp_addS (by omega) ?_
        have hza3 := s3 _ _ hza
        have hz3 := hz2.same s3
        have s03 := s2.trans s3
        have htl : ((Str.ofString "/") ++ Str.join (Str.ofString "/") p).length ≤ 420 := by rw [str_app_len]; omega
        have hdue := due_shown (p := p)
        have hshow : spShow [.ref za] = spShow [.ref za] := rfl
        generalize htx : (Str.ofString "/") ++ Str.join (Str.ofString "/") p = tx at *
        repeat' (first | (with_reducible refine wp_istr ?_) | (with_reducible refine wp_istr' ?_) | (with_reducible refine wp_comp0 ?_) | (with_reducible refine wp_inS ?_) | (with_reducible refine wp_notInS ?_) | (with_reducible refine wp_bm ?_) | (with_reducible refine wp_tupI ?_) | (with_reducible refine wp_callE ?_) | (with_reducible refine wp_int1b ?_) | walk_at "st")
        · refine ⟨za, rfl, ⟨_, .inl (.inl hza3)⟩, ?_⟩
          refine comp_tup (xs := pV p) (by unfold pV; rw [List.length_map]; omega) (fun D i acc H' => Same H3 H' ∧ H' D = some (.lst acc) ∧ acc = pV ((p.take i).filter fun x => decide (8 < x.length))) (fun D hD => ⟨Same.upd hD, upd_same, rfl⟩)
            (fun D i acc H' hD hi h => ⟨h.2.1, by rw [h.2.2]; unfold pV; rw [List.length_map]; exact Nat.le_trans (List.length_filter_le _ _) (by rw [List.length_take]; omega), .inl (.inl (h.1 _ _ hza3))⟩) ?_ ?_
          · intro D i x acc H' N hD hj hlt hN hP
            obtain ⟨hs, hd, he⟩ := hP
            unfold pV at hj
            rw [List.getElem?_map] at hj
            obtain ⟨y, hy, rfl⟩ := Option.map_eq_some_iff.mp hj
            have hy9 := (hpx y (List.mem_of_getElem? hy)).2.1
            repeat' (first | (with_reducible refine wp_istr ?_) | (with_reducible refine wp_istr' ?_) | (with_reducible refine wp_comp0 ?_) | (with_reducible refine wp_inS ?_) | (with_reducible refine wp_notInS ?_) | (with_reducible refine wp_bm ?_) | (with_reducible refine wp_tupI ?_) | (with_reducible refine wp_callE ?_) | (with_reducible refine wp_int1b ?_) | walk_at "st")
            · rename_i h8y
              have h8y' : 8 < y.length := by omega
              refine ⟨hd, hlt, hN _ _ ⟨fun b' o' e' => ?_, upd_same, ?_⟩⟩
              · rw [upd_ne (ne_of_none e' hD)]; exact hs b' o' e'
              · rw [List.take_add_one, hy, he, List.filter_append]
                simp [pV, h8y']
            · rename_i h8y
              have h8y' : ¬ 8 < y.length := by omega
              refine hN _ _ ⟨hs, hd, ?_⟩
              rw [List.take_add_one, hy, he, List.filter_append]
              simp [pV, h8y']
          · intro D acc H4 hD hP
            obtain ⟨s4, h4, he⟩ := hP
            have hpv : (pV p).length = p.length := by unfold pV; rw [List.length_map]
            rw [hpv, List.take_length] at he
            repeat' (first | (with_reducible refine wp_istr ?_) | (with_reducible refine wp_istr' ?_) | (with_reducible refine wp_comp0 ?_) | (with_reducible refine wp_inS ?_) | (with_reducible refine wp_notInS ?_) | (with_reducible refine wp_bm ?_) | (with_reducible refine wp_tupI ?_) | (with_reducible refine wp_callE ?_) | (with_reducible refine wp_int1b ?_) | walk_at "st")
            refine wp_lstF (by show 0 ≤ 1000; decide) fun q5 H5 s5 h5 _ => ?_
            refine wp_eqNil (sq_of (s5 _ _ h4)) (sq_of h5) ?_
            have s05 := s03.trans (s4.trans s5)
            have hz5 := (hz3.same s4).same s5
            repeat' (first | (with_reducible refine wp_istr ?_) | (with_reducible refine wp_istr' ?_) | (with_reducible refine wp_comp0 ?_) | (with_reducible refine wp_inS ?_) | (with_reducible refine wp_notInS ?_) | (with_reducible refine wp_bm ?_) | (with_reducible refine wp_tupI ?_) | (with_reducible refine wp_callE ?_) | (with_reducible refine wp_int1b ?_) | walk_at "st")
            · rename_i hnil
              have hp8 : ∀ x ∈ p, isN x = true := fun x hx => by
                have h1 := hpx x hx
                refine isN_of h1.1 ?_ h1.2.2
                by_cases h : 8 < x.length
                · exfalso
                  rw [he] at hnil
                  unfold pV at hnil
                  have h2 := List.map_eq_nil_iff.mp hnil
                  have h3 : x ∈ p.filter fun x => decide (8 < x.length) := List.mem_filter.mpr ⟨hx, decide_eq_true h⟩
                  rw [h2] at h3
                  exact nomatch h3
                · omega
              refine ⟨.ref za, p, rfl, hz5, hok, by omega, ?_⟩
              rw [htx]
              repeat' (first | (with_reducible refine wp_istr ?_) | (with_reducible refine wp_istr' ?_) | (with_reducible refine wp_comp0 ?_) | (with_reducible refine wp_inS ?_) | (with_reducible refine wp_notInS ?_) | (with_reducible refine wp_bm ?_) | (with_reducible refine wp_tupI ?_) | (with_reducible refine wp_callE ?_) | (with_reducible refine wp_int1b ?_) | walk_at "st")
              refine ⟨tx, rfl, by omega, fun r H6 s6 hr6 => ?_⟩
              rw [hdue hp8 (by omega)] at hr6
              have hr6 : IsP H6 r p := hr6
              have hz6 := hz5.same s6
              have s06 := s05.trans s6
              repeat' (first | (with_reducible refine wp_istr ?_) | (with_reducible refine wp_istr' ?_) | (with_reducible refine wp_comp0 ?_) | (with_reducible refine wp_inS ?_) | (with_reducible refine wp_notInS ?_) | (with_reducible refine wp_bm ?_) | (with_reducible refine wp_tupI ?_) | (with_reducible refine wp_callE ?_) | (with_reducible refine wp_int1b ?_) | walk_at "st")
              refine ⟨tx, rfl, by omega, fun H9 s9 => ?_⟩
              repeat' (first | (with_reducible refine wp_istr ?_) | (with_reducible refine wp_istr' ?_) | (with_reducible refine wp_comp0 ?_) | (with_reducible refine wp_inS ?_) | (with_reducible refine wp_notInS ?_) | (with_reducible refine wp_bm ?_) | (with_reducible refine wp_tupI ?_) | (with_reducible refine wp_callE ?_) | (with_reducible refine wp_int1b ?_) | walk_at "st")
              have sF := Same.trans s06 s9
              refine ⟨a, ns, _, rfl, by decide, sF.seq hS, fun m7 => ?_⟩
              repeat' (first | (with_reducible refine wp_istr ?_) | (with_reducible refine wp_istr' ?_) | (with_reducible refine wp_comp0 ?_) | (with_reducible refine wp_inS ?_) | (with_reducible refine wp_notInS ?_) | (with_reducible refine wp_bm ?_) | (with_reducible refine wp_tupI ?_) | (with_reducible refine wp_callE ?_) | (with_reducible refine wp_int1b ?_) | walk_at "st")
              refine ⟨tx, _, rfl, by omega, fun x hx => ?_⟩
              repeat' (first | (with_reducible refine wp_istr ?_) | (with_reducible refine wp_istr' ?_) | (with_reducible refine wp_comp0 ?_) | (with_reducible refine wp_inS ?_) | (with_reducible refine wp_notInS ?_) | (with_reducible refine wp_bm ?_) | (with_reducible refine wp_tupI ?_) | (with_reducible refine wp_callE ?_) | (with_reducible refine wp_int1b ?_) | walk_at "st")
              exact ⟨x, rfl, by omega, fun H10 s10 => k _⟩
            · refine ⟨tx, rfl, by omega, fun H9 s9 => ?_⟩
              repeat' (first | (with_reducible refine wp_istr ?_) | (with_reducible refine wp_istr' ?_) | (with_reducible refine wp_comp0 ?_) | (with_reducible refine wp_inS ?_) | (with_reducible refine wp_notInS ?_) | (with_reducible refine wp_bm ?_) | (with_reducible refine wp_tupI ?_) | (with_reducible refine wp_callE ?_) | (with_reducible refine wp_int1b ?_) | walk_at "st")
              have sF := Same.trans s05 s9
              refine ⟨a, ns, _, rfl, by decide, sF.seq hS, fun m7 => ?_⟩
              repeat' (first | (with_reducible refine wp_istr ?_) | (with_reducible refine wp_istr' ?_) | (with_reducible refine wp_comp0 ?_) | (with_reducible refine wp_inS ?_) | (with_reducible refine wp_notInS ?_) | (with_reducible refine wp_bm ?_) | (with_reducible refine wp_tupI ?_) | (with_reducible refine wp_callE ?_) | (with_reducible refine wp_int1b ?_) | walk_at "st")
              refine ⟨tx, _, rfl, by omega, fun x hx => ?_⟩
              repeat' (first | (with_reducible refine wp_istr ?_) | (with_reducible refine wp_istr' ?_) | (with_reducible refine wp_comp0 ?_) | (with_reducible refine wp_inS ?_) | (with_reducible refine wp_notInS ?_) | (with_reducible refine wp_bm ?_) | (with_reducible refine wp_tupI ?_) | (with_reducible refine wp_callE ?_) | (with_reducible refine wp_int1b ?_) | walk_at "st")
              exact ⟨x, rfl, by omega, fun H10 s10 => k _⟩
        · refine ⟨tx, rfl, by omega, fun H9 s9 => ?_⟩
          repeat' (first | (with_reducible refine wp_istr ?_) | (with_reducible refine wp_istr' ?_) | (with_reducible refine wp_comp0 ?_) | (with_reducible refine wp_inS ?_) | (with_reducible refine wp_notInS ?_) | (with_reducible refine wp_bm ?_) | (with_reducible refine wp_tupI ?_) | (with_reducible refine wp_callE ?_) | (with_reducible refine wp_int1b ?_) | walk_at "st")
          have sF := Same.trans s03 s9
          refine ⟨a, ns, _, rfl, by decide, sF.seq hS, fun m7 => ?_⟩
          repeat' (first | (with_reducible refine wp_istr ?_) | (with_reducible refine wp_istr' ?_) | (with_reducible refine wp_comp0 ?_) | (with_reducible refine wp_inS ?_) | (with_reducible refine wp_notInS ?_) | (with_reducible refine wp_bm ?_) | (with_reducible refine wp_tupI ?_) | (with_reducible refine wp_callE ?_) | (with_reducible refine wp_int1b ?_) | walk_at "st")
          refine ⟨tx, _, rfl, by omega, fun x hx => ?_⟩
          repeat' (first | (with_reducible refine wp_istr ?_) | (with_reducible refine wp_istr' ?_) | (with_reducible refine wp_comp0 ?_) | (with_reducible refine wp_inS ?_) | (with_reducible refine wp_notInS ?_) | (with_reducible refine wp_bm ?_) | (with_reducible refine wp_tupI ?_) | (with_reducible refine wp_callE ?_) | (with_reducible refine wp_int1b ?_) | walk_at "st")
          exact ⟨x, rfl, by omega, fun H10 s10 => k _⟩
end
theorem all_mk {l : PySem.W.OpenLaw} {w : World} {K : PySem.W.Frag} {h : Heap} {mg : Str → Option Value} {fa f0 f1 f2 f3 f4 f5 f6 f7 f8 f9 f10 f_I CBoughError CNoText : Addr} (X : K.In h) (G : h.Ns mainGlobals mg) (hfa : mg "law" = some (.ref fa))
    {od0 an0 od1 an1 od2 an2 od3 an3 od4 an4 od5 an5 od6 an6 od7 an7 od8 an8 od9 an9 od10 an10 od_I an_I : Option Addr} {sl0 sl1 sl2 sl3 sl4 sl5 sl6 sl7 sl8 sl9 sl10 sl_I : Array (Option Value)} {oc0 kV0 dc0 pm0 cd0 ct0 oc1 kV1 dc1 pm1 cd1 ct1 oc2 kV2 dc2 pm2 cd2 ct2 oc3 kV3 dc3 pm3 cd3 ct3 oc4 kV4 dc4 pm4 cd4 ct4 oc5 kV5 dc5 pm5 cd5 ct5 oc6 kV6 dc6 pm6 cd6 ct6 oc7 kV7 dc7 pm7 cd7 ct7 oc8 kV8 dc8 pm8 cd8 ct8 oc9 kV9 dc9 pm9 cd9 ct9 oc10 kV10 dc10 pm10 cd10 ct10 oc_I kV_I dc_I pm_I cd_I ct_I : Value} {cxN : ClassData} {t_LETTERS t_LONGEST_NAME t_MOST_NAMES : Tok}
    (aCBoughError : PySem.W.nsIn K mainGlobals "BoughError" = some (some (.ref CBoughError)))
    (aCNoText : PySem.W.nsIn K mainGlobals "NoText" = some (some (.ref CNoText)))
    (a0 : PySem.W.nsIn K mainGlobals "is_name" = some (some (.ref f0)))
    (l0 : K.lookup f0 = some ⟨oc0, od0, .func (PySem.W.fnOf "is_name" "is_name" (defArgs sis_name) (defBody sis_name) (defScope sis_name) .none kV0 dc0 pm0 an0 cd0 ct0), sl0⟩)
    (c0 : PySem.W.codeIn K cd0 "is_name" = true)
    (k0 : PySem.W.keepIn K (.ref f0) = true)
    (a1 : PySem.W.nsIn K mainGlobals "is_path" = some (some (.ref f1)))
    (l1 : K.lookup f1 = some ⟨oc1, od1, .func (PySem.W.fnOf "is_path" "is_path" (defArgs sis_path) (defBody sis_path) (defScope sis_path) .none kV1 dc1 pm1 an1 cd1 ct1), sl1⟩)
    (c1 : PySem.W.codeIn K cd1 "is_path" = true)
    (k1 : PySem.W.keepIn K (.ref f1) = true)
    (a2 : PySem.W.nsIn K mainGlobals "show_path" = some (some (.ref f2)))
    (l2 : K.lookup f2 = some ⟨oc2, od2, .func (PySem.W.fnOf "show_path" "show_path" (defArgs sshow_path) (defBody sshow_path) (defScope sshow_path) .none kV2 dc2 pm2 an2 cd2 ct2), sl2⟩)
    (c2 : PySem.W.codeIn K cd2 "show_path" = true)
    (k2 : PySem.W.keepIn K (.ref f2) = true)
    (a3 : PySem.W.nsIn K mainGlobals "read_path" = some (some (.ref f3)))
    (l3 : K.lookup f3 = some ⟨oc3, od3, .func (PySem.W.fnOf "read_path" "read_path" (defArgs sread_path) (defBody sread_path) (defScope sread_path) .none kV3 dc3 pm3 an3 cd3 ct3), sl3⟩)
    (c3 : PySem.W.codeIn K cd3 "read_path" = true)
    (k3 : PySem.W.keepIn K (.ref f3) = true)
    (a4 : PySem.W.nsIn K mainGlobals "_law_at" = some (some (.ref f4)))
    (l4 : K.lookup f4 = some ⟨oc4, od4, .func (PySem.W.fnOf "_law_at" "_law_at" (defArgs s_law_at) (defBody s_law_at) (defScope s_law_at) .none kV4 dc4 pm4 an4 cd4 ct4), sl4⟩)
    (c4 : PySem.W.codeIn K cd4 "_law_at" = true)
    (k4 : PySem.W.keepIn K (.ref f4) = true)
    (a5 : PySem.W.nsIn K mainGlobals "_law_name" = some (some (.ref f5)))
    (l5 : K.lookup f5 = some ⟨oc5, od5, .func (PySem.W.fnOf "_law_name" "_law_name" (defArgs s_law_name) (defBody s_law_name) (defScope s_law_name) .none kV5 dc5 pm5 an5 cd5 ct5), sl5⟩)
    (c5 : PySem.W.codeIn K cd5 "_law_name" = true)
    (k5 : PySem.W.keepIn K (.ref f5) = true)
    (a6 : PySem.W.nsIn K mainGlobals "_law_spoiled" = some (some (.ref f6)))
    (l6 : K.lookup f6 = some ⟨oc6, od6, .func (PySem.W.fnOf "_law_spoiled" "_law_spoiled" (defArgs s_law_spoiled) (defBody s_law_spoiled) (defScope s_law_spoiled) .none kV6 dc6 pm6 an6 cd6 ct6), sl6⟩)
    (c6 : PySem.W.codeIn K cd6 "_law_spoiled" = true)
    (k6 : PySem.W.keepIn K (.ref f6) = true)
    (a7 : PySem.W.nsIn K mainGlobals "_law_due" = some (some (.ref f7)))
    (l7 : K.lookup f7 = some ⟨oc7, od7, .func (PySem.W.fnOf "_law_due" "_law_due" (defArgs s_law_due) (defBody s_law_due) (defScope s_law_due) .none kV7 dc7 pm7 an7 cd7 ct7), sl7⟩)
    (c7 : PySem.W.codeIn K cd7 "_law_due" = true)
    (k7 : PySem.W.keepIn K (.ref f7) = true)
    (a8 : PySem.W.nsIn K mainGlobals "_law_refused" = some (some (.ref f8)))
    (l8 : K.lookup f8 = some ⟨oc8, od8, .func (PySem.W.fnOf "_law_refused" "_law_refused" (defArgs s_law_refused) (defBody s_law_refused) (defScope s_law_refused) .none kV8 dc8 pm8 an8 cd8 ct8), sl8⟩)
    (c8 : PySem.W.codeIn K cd8 "_law_refused" = true)
    (k8 : PySem.W.keepIn K (.ref f8) = true)
    (a9 : PySem.W.nsIn K mainGlobals "_law_reads" = some (some (.ref f9)))
    (l9 : K.lookup f9 = some ⟨oc9, od9, .func (PySem.W.fnOf "_law_reads" "_law_reads" (defArgs s_law_reads) (defBody s_law_reads) (defScope s_law_reads) .none kV9 dc9 pm9 an9 cd9 ct9), sl9⟩)
    (c9 : PySem.W.codeIn K cd9 "_law_reads" = true)
    (k9 : PySem.W.keepIn K (.ref f9) = true)
    (a10 : PySem.W.nsIn K mainGlobals "law" = some (some (.ref f10)))
    (l10 : K.lookup f10 = some ⟨oc10, od10, .func (PySem.W.fnOf "law" "law" (defArgs slaw) (defBody slaw) (defScope slaw) .none kV10 dc10 pm10 an10 cd10 ct10), sl10⟩)
    (c10 : PySem.W.codeIn K cd10 "law" = true)
    (k10 : PySem.W.keepIn K (.ref f10) = true)
    (a_I : PySem.W.findIn K (.ref CNoText) "__init__" = some (some (.ref f_I)))
    (i_I : PySem.W.isFn K (.ref f_I) = true)
    (l_I : K.lookup f_I = some ⟨oc_I, od_I, .func (PySem.W.fnOf "__init__" "NoText.__init__" (defArgs sNoText___init__) (defBody sNoText___init__) (defScope sNoText___init__) .none kV_I dc_I pm_I an_I cd_I ct_I), sl_I⟩)
    (c_I : PySem.W.codeIn K cd_I "NoText.__init__" = true)
    (k_I : PySem.W.keepIn K (.ref f_I) = true)
    (z_len : PySem.W.nsIn K mainGlobals "len" = some none)
    (z_range : PySem.W.nsIn K mainGlobals "range" = some none)
    (z_isinstance : PySem.W.nsIn K mainGlobals "isinstance" = some none)
    (z_bool : PySem.W.nsIn K mainGlobals "bool" = some none)
    (z_all : PySem.W.nsIn K mainGlobals "all" = some none)
    (z_tuple : PySem.W.nsIn K mainGlobals "tuple" = some none)
    (z_list : PySem.W.nsIn K mainGlobals "list" = some none)
    (z_int : PySem.W.nsIn K mainGlobals "int" = some none)
    (z_str : PySem.W.nsIn K mainGlobals "str" = some none)
    (gl_LETTERS : PySem.W.nsIn K mainGlobals "LETTERS" = some (some (.str (Str.ofString "abcdefghijklmnopqrstuvwxyz") t_LETTERS)))
    (gl_LONGEST_NAME : PySem.W.nsIn K mainGlobals "LONGEST_NAME" = some (some (.int 8 t_LONGEST_NAME)))
    (gl_MOST_NAMES : PySem.W.nsIn K mainGlobals "MOST_NAMES" = some (some (.int 40 t_MOST_NAMES)))
    (bga : PySem.W.specialIn K (.ref CBoughError) "__getattribute__" = some (some (.builtin "type.__getattribute__")))
    (brd : PySem.W.readsIn K CBoughError (.type "type") = true)
    (bfd : PySem.W.findCls K (.ref CBoughError) (.type "type") "__init__" = some (.val (.builtin "ValueError.__init__")))
    (xex : exiIn K CNoText bmV "ValueError.__new__" = true)
    (xsa : PySem.W.findIn K (.ref CNoText) "__setattr__" = some (some (.builtin "object.__setattr__")))
    (xob : PySem.W.mroIn K CNoText (.type "object") = some true)
    (xno : PySem.W.findIn K (.ref CNoText) "at" = some none)
    (xhd : PySem.W.hasDictIn K CNoText = true)
    (xga : PySem.W.findIn K (.ref CNoText) "__getattribute__" = some (some (.builtin "BaseException.__getattribute__")))
    (xgt : PySem.W.findIn K (.ref CNoText) "__getattr__" = some none)
    (xcl : PySem.W.findIn K (.ref CNoText) "__class__" = some (some (.builtin "object.__class__")))
    (xbe : PySem.W.mroIn K CNoText (.type "BaseException") = some true)
    (xci : PySem.W.clsIn K CNoText = some cxN)
    (xfn : PySem.W.typeIn K (.ref f_I) = some (.type "function"))
    (xca : PySem.W.specialIn K (.ref CNoText) "__call__" = some (some (.builtin "type.__call__")))
    (xty : PySem.W.instIn K (.ref CNoText) (.type "type") = some true)
    (xti : PySem.W.typeIn K (.ref CNoText) = some (.type "type"))
    (xkp : PySem.W.keepIn K (.ref CNoText) = true)
    (xem : PySem.W.exmOne K (.ref CNoText) (.ref CNoText) = some true)
    (xki : PySem.W.kitOne K (.ref CNoText) (.ref CBoughError) = some true)
    : ∃ fd : FuncData, (∀ (s : Shared) (v : Value), BindsTo s fd ⟨[v], []⟩ [("_law_script", v)]) ∧ ∀ base : Heap, K.In base → base.Ns mainGlobals mg → FnOk l.prog w K mg base CX0 6 fa fd ["_law_script"] (spLaw K) := by
  have e0 := hfa.symm.trans (PySem.W.mg_of X G a10)
  cases e0
  let e : Ek := ⟨CBoughError, CNoText⟩
  have S : ExcS K CNoText "at" := ⟨xex, xsa, xob, xno, xhd⟩
  have T : Txt K mg e := {b_len := PySem.W.mg_none_of X G z_len, b_range := PySem.W.mg_none_of X G z_range, b_isinstance := PySem.W.mg_none_of X G z_isinstance, b_bool := PySem.W.mg_none_of X G z_bool, b_all := PySem.W.mg_none_of X G z_all, b_tuple := PySem.W.mg_none_of X G z_tuple, b_list := PySem.W.mg_none_of X G z_list, b_int := PySem.W.mg_none_of X G z_int, b_str := PySem.W.mg_none_of X G z_str, mBoughError := PySem.W.mg_of X G aCBoughError, mNoText := PySem.W.mg_of X G aCNoText, g_LETTERS := ⟨t_LETTERS, PySem.W.mg_of X G gl_LETTERS⟩, g_LONGEST_NAME := ⟨t_LONGEST_NAME, PySem.W.mg_of X G gl_LONGEST_NAME⟩, g_MOST_NAMES := ⟨t_MOST_NAMES, PySem.W.mg_of X G gl_MOST_NAMES⟩, baseI := ⟨bga, brd, bfd⟩, xs := S, xf := ⟨xga, xgt, xcl, xob, xbe, by show (PySem.W.clsIn K CNoText).isSome = true; rw [xci]; rfl⟩, exm := xem, kit := xki}
  have U0 := fun_mk (st := sis_name) l0 c0 k0
  have B0 := U0.binds (ps := ["text"]) fun _ _ _ _ _ _ us hl => match us, hl with | [_], _ => rfl
  have Nis_name : Fn K mg "is_name" sis_name ["text"] := ⟨_, _, U0, PySem.W.mg_of X G a0, B0⟩
  have U1 := fun_mk (st := sis_path) l1 c1 k1
  have B1 := U1.binds (ps := ["thing"]) fun _ _ _ _ _ _ us hl => match us, hl with | [_], _ => rfl
  have Nis_path : Fn K mg "is_path" sis_path ["thing"] := ⟨_, _, U1, PySem.W.mg_of X G a1, B1⟩
  have U2 := fun_mk (st := sshow_path) l2 c2 k2
  have B2 := U2.binds (ps := ["path"]) fun _ _ _ _ _ _ us hl => match us, hl with | [_], _ => rfl
  have Nshow_path : Fn K mg "show_path" sshow_path ["path"] := ⟨_, _, U2, PySem.W.mg_of X G a2, B2⟩
  have U3 := fun_mk (st := sread_path) l3 c3 k3
  have B3 := U3.binds (ps := ["text"]) fun _ _ _ _ _ _ us hl => match us, hl with | [_], _ => rfl
  have Nread_path : Fn K mg "read_path" sread_path ["text"] := ⟨_, _, U3, PySem.W.mg_of X G a3, B3⟩
  have U4 := fun_mk (st := s_law_at) l4 c4 k4
  have B4 := U4.binds (ps := ["_law_script", "_law_k"]) fun _ _ _ _ _ _ us hl => match us, hl with | [_, _], _ => rfl
  have N_law_at : Fn K mg "_law_at" s_law_at ["_law_script", "_law_k"] := ⟨_, _, U4, PySem.W.mg_of X G a4, B4⟩
  have U5 := fun_mk (st := s_law_name) l5 c5 k5
  have B5 := U5.binds (ps := ["_law_load", "_law_most"]) fun _ _ _ _ _ _ us hl => match us, hl with | [_, _], _ => rfl
  have N_law_name : Fn K mg "_law_name" s_law_name ["_law_load", "_law_most"] := ⟨_, _, U5, PySem.W.mg_of X G a5, B5⟩
  have U6 := fun_mk (st := s_law_spoiled) l6 c6 k6
  have B6 := U6.binds (ps := ["_law_text", "_law_load"]) fun _ _ _ _ _ _ us hl => match us, hl with | [_, _], _ => rfl
  have N_law_spoiled : Fn K mg "_law_spoiled" s_law_spoiled ["_law_text", "_law_load"] := ⟨_, _, U6, PySem.W.mg_of X G a6, B6⟩
  have U7 := fun_mk (st := s_law_due) l7 c7 k7
  have B7 := U7.binds (ps := ["_law_text"]) fun _ _ _ _ _ _ us hl => match us, hl with | [_], _ => rfl
  have N_law_due : Fn K mg "_law_due" s_law_due ["_law_text"] := ⟨_, _, U7, PySem.W.mg_of X G a7, B7⟩
  have U8 := fun_mk (st := s_law_refused) l8 c8 k8
  have B8 := U8.binds (ps := ["_law_text"]) fun _ _ _ _ _ _ us hl => match us, hl with | [_], _ => rfl
  have N_law_refused : Fn K mg "_law_refused" s_law_refused ["_law_text"] := ⟨_, _, U8, PySem.W.mg_of X G a8, B8⟩
  have U9 := fun_mk (st := s_law_reads) l9 c9 k9
  have B9 := U9.binds (ps := ["_law_text"]) fun _ _ _ _ _ _ us hl => match us, hl with | [_], _ => rfl
  have N_law_reads : Fn K mg "_law_reads" s_law_reads ["_law_text"] := ⟨_, _, U9, PySem.W.mg_of X G a9, B9⟩
  have U10 := fun_mk (st := slaw) l10 c10 k10
  have B10 := U10.binds (ps := ["_law_script"]) fun _ _ _ _ _ _ us hl => match us, hl with | [_], _ => rfl
  have Nlaw : Fn K mg "law" slaw ["_law_script"] := ⟨_, _, U10, PySem.W.mg_of X G a10, B10⟩
  have U_I := fun_mk (st := sNoText___init__) l_I c_I k_I
  have B_I := U_I.binds (ps := ["self", "at"]) fun _ _ _ _ _ _ us hl => match us, hl with | [_, _], _ => rfl
  have N_I : Mt K e.xNoText "__init__" "NoText.__init__" sNoText___init__ ["self", "at"] := ⟨_, _, U_I, a_I, i_I, B_I⟩
  refine ⟨PySem.W.fnOf "law" "law" (defArgs slaw) (defBody slaw) (defScope slaw) .none kV10 dc10 pm10 an10 cd10 ct10, fun s v => .of_eq rfl, fun base _ _ => ?_⟩
  obtain ⟨fI, fdI, hf, G0, hb⟩ := okI (P := l.prog) (w := w) (base := base) (e := e) N_I T
  have ef : fI = f_I := by
    have z : PySem.W.findIn K (.ref CNoText) "__init__" = some (some (.ref fI)) := hf
    rw [a_I] at z
    injection z with z
    injection z with z
    injection z with z
    exact z.symm
  subst ef
  have R : ExcR K e.xNoText fI := { ex := xex, init := a_I, fn := xfn, call := xca, typ := xty, be := xbe, ty := xti, kp := xkp }
  have RI := And.intro R (And.intro G0 hb)
  have o_isn := okis_name (P := l.prog) (w := w) (base := base) (e := e) Nis_name T 
  have o_isp := okis_path (P := l.prog) (w := w) (base := base) (e := e) Nis_path T o_isn
  have o_sh := okshow_path (P := l.prog) (w := w) (base := base) (e := e) Nshow_path T 
  have o_rd := okread_path (P := l.prog) (w := w) (base := base) (e := e) Nread_path T RI o_isp o_sh
  have o_at := ok_law_at (P := l.prog) (w := w) (base := base) (e := e) N_law_at T 
  have o_nm := ok_law_name (P := l.prog) (w := w) (base := base) (e := e) N_law_name T 
  have o_sp := ok_law_spoiled (P := l.prog) (w := w) (base := base) (e := e) N_law_spoiled T 
  have o_du := ok_law_due (P := l.prog) (w := w) (base := base) (e := e) N_law_due T 
  have o_rf := ok_law_refused (P := l.prog) (w := w) (base := base) (e := e) N_law_refused T o_rd
  have o_rs := ok_law_reads (P := l.prog) (w := w) (base := base) (e := e) N_law_reads T o_du o_rf o_rd
  exact oklaw (e := e) U10 T o_at o_nm o_sp o_du o_rs o_sh
theorem walk {l : PySem.W.OpenLaw} {q : Program} {loose : List Str} {XP : (Str → Option Value) → Heap → Prop} {YP : World → Heap → Prop} {d : DefRec} {K : Params → PySem.W.Frag} (hn : l.most = some 63) (hdf : d.params.defaults = [])
    (hY : ∀ (w : World) (h : Heap), YP w h → (K w.params).In h)
    (F : ∀ (w : World) (mg : Str → Option Value) (fa : Addr) (h : Heap), (K w.params).In h → h.Ns mainGlobals mg → mg d.name = some (.ref fa) →
      ∃ fd : FuncData, (∀ (s : Shared) (u : Value), BindsTo s fd ⟨[u], []⟩ [("_law_script", u)]) ∧ ∀ base : Heap, (K w.params).In base → base.Ns mainGlobals mg → FnOk l.prog w (K w.params) mg base CX0 6 fa fd ["_law_script"] (spLaw (K w.params))) :
    PySem.W.WalkO q loose XP YP l.row.toRowW d [] (fun f vs => PySem.call f vs) :=
  L2.walk_of (n := 63) (k := 6) (x := "_law_script") (CX := fun _ => CX0) (sp := fun w => spLaw (K w.params)) hn (by decide) hdf ⟨rfl, by decide, by decide⟩ hY F (fun _ _ a ns hl _ hS => ⟨a, ns, rfl, hS, hl, fun _ => rfl⟩) fun _ _ _ _ _ z => z
end My
open PySem PySem.W PyProof.Rows
set_option maxRecDepth 100000 in
set_option maxHeartbeats 0 in
theorem PySem.Challenge.cw_boughback_k82_paths_written_holds : PySem.Challenge.rw_boughback_k82_paths_written.Holds := by
  w_on; o_law; k_head; (case hw => w_witness2)
  k_fill
  refine My.walk (l := PySem.Challenge.rw_boughback_k82_paths_written) rfl rfl (fun w h Y => PySem.W.kIn_of Y) ?F
  case F =>
    intro w mg fa h KX G hmg
    refine' My.all_mk KX G hmg ?aCBoughError ?aCNoText ?a0 ?l0 ?c0 ?k0 ?a1 ?l1 ?c1 ?k1 ?a2 ?l2 ?c2 ?k2 ?a3 ?l3 ?c3 ?k3 ?a4 ?l4 ?c4 ?k4 ?a5 ?l5 ?c5 ?k5 ?a6 ?l6 ?c6 ?k6 ?a7 ?l7 ?c7 ?k7 ?a8 ?l8 ?c8 ?k8 ?a9 ?l9 ?c9 ?k9 ?a10 ?l10 ?c10 ?k10 ?a_I ?i_I ?l_I ?c_I ?k_I ?z_len ?z_range ?z_isinstance ?z_bool ?z_all ?z_tuple ?z_list ?z_int ?z_str ?gl_LETTERS ?gl_LONGEST_NAME ?gl_MOST_NAMES ?bga ?brd ?bfd ?xex ?xsa ?xob ?xno ?xhd ?xga ?xgt ?xcl ?xbe ?xci ?xfn ?xca ?xty ?xti ?xkp ?xem ?xki
    (case aCBoughError => k_is)
    (case aCNoText => k_is)
    (case a0 => k_is)
    (case l0 => k_is)
    (case c0 => k_is)
    (case k0 => k_is)
    (case a1 => k_is)
    (case l1 => k_is)
    (case c1 => k_is)
    (case k1 => k_is)
    (case a2 => k_is)
    (case l2 => k_is)
    (case c2 => k_is)
    (case k2 => k_is)
    (case a3 => k_is)
    (case l3 => k_is)
    (case c3 => k_is)
    (case k3 => k_is)
    (case a4 => k_is)
    (case l4 => k_is)
    (case c4 => k_is)
    (case k4 => k_is)
    (case a5 => k_is)
    (case l5 => k_is)
    (case c5 => k_is)
    (case k5 => k_is)
    (case a6 => k_is)
    (case l6 => k_is)
    (case c6 => k_is)
    (case k6 => k_is)
    (case a7 => k_is)
    (case l7 => k_is)
    (case c7 => k_is)
    (case k7 => k_is)
    (case a8 => k_is)
    (case l8 => k_is)
    (case c8 => k_is)
    (case k8 => k_is)
    (case a9 => k_is)
    (case l9 => k_is)
    (case c9 => k_is)
    (case k9 => k_is)
    (case a10 => k_is)
    (case l10 => k_is)
    (case c10 => k_is)
    (case k10 => k_is)
    (case a_I => k_is)
    (case i_I => k_is)
    (case l_I => k_is)
    (case c_I => k_is)
    (case k_I => k_is)
    (case z_len => k_is)
    (case z_range => k_is)
    (case z_isinstance => k_is)
    (case z_bool => k_is)
    (case z_all => k_is)
    (case z_tuple => k_is)
    (case z_list => k_is)
    (case z_int => k_is)
    (case z_str => k_is)
    (case gl_LETTERS => k_is)
    (case gl_LONGEST_NAME => k_is)
    (case gl_MOST_NAMES => k_is)
    (case bga => k_is)
    (case brd => k_is)
    (case bfd => k_is)
    (case xex => first | k_is | k_exc | kernel_rfl | rfl | decide +kernel)
    (case xsa => k_is)
    (case xob => k_is)
    (case xno => k_is)
    (case xhd => k_is)
    (case xga => k_is)
    (case xgt => k_is)
    (case xcl => k_is)
    (case xbe => k_is)
    (case xci => k_is)
    (case xfn => k_is)
    (case xca => k_is)
    (case xty => k_is)
    (case xti => k_is)
    (case xkp => k_is)
    (case xem => kts_exm)
    (case xki => kit_is)

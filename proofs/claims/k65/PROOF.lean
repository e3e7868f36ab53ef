import PyProof.Rows.All
import Wide.All
import OpenK.AllK
import Wide.FinOn
import Lean
import PyProof.EqAt
import PyProof.EqKinds
import PyProof.TupleCall
import PyProof.NeKinds
import PyProof.CompFree
import PyProof.CompMap
import PyProof.StrWalks
import PyProof.ConsumeWalk
import PyProof.ExcBaseAll.ValueError
import PyProof.RulesAs
import PyProof.RulesDel
import PyProof.ExcAttrAll.ValueError
import KE.KEqDict
import KE.KDictOf
import PyProof.Rows.TupDisplay
import PyProof.EnumMake
import KE.KRevIter
import KE.KDictList
import PyProof.Rows.CountFlat
import PyProof.Rows.SeqMore2
import PyProof.SumWalkG
import PyProof.WalkInts
import PyProof.ZipIter
import PyProof.Rows.ZipGen
import PyProof.SeqI3
import PyProof.Rows.SortWalk
import PyProof.ListRange
import PyProof.Rows.CallKwBuiltin
import KE.KLam
import KE.KNestM
import PyProof.Rows.SortRuns
import KE.KDictSum
import KE.RegKTryMore
import Open.Tops
import PySem.Challenge.RW_boughback_k65_whole_plan_and_its_witness
set_option compiler.extract_closed false
set_option Elab.async false
set_option linter.all false
set_option maxRecDepth 100000
namespace L2
open PySem PySem.Spec PyProof.Rows
noncomputable abbrev Key := Sum Int Str
noncomputable def keyIs : Key → Value → Bool
  | .inl k, v => Value.isInt k v
  | .inr x, v => Value.isStrOf x v
noncomputable def keyH (w : World) : Key → Int
  | .inl k => hashInt k
  | .inr x => hashStr w x
theorem keyIs_shape : ∀ {k : Key} {v : Value}, keyIs k v = true → (∃ i t, k = Sum.inl i ∧ v = Value.int i t) ∨ (∃ x t, k = Sum.inr x ∧ v = Value.str x t)
  | .inl i, v, h => by
    obtain ⟨t, e⟩ := Value.isInt_shape (k := i) (v := v) h
    exact .inl ⟨i, t, rfl, e⟩
  | .inr x, v, h => by
    obtain ⟨t, e⟩ := Value.isStrOf_shape (x := x) (v := v) h
    exact .inr ⟨x, t, rfl, e⟩
theorem keyIs_int (i : Int) (t : Tok) : keyIs (.inl i) (.int i t) = true := by simp [keyIs, Value.isInt]
theorem keyIs_str (x : Str) (t : Tok) : keyIs (.inr x) (.str x t) = true := by simp [keyIs, Value.isStrOf]
theorem key_ll (a b : Int) : decide ((Sum.inl a : Key) = Sum.inl b) = (a == b) := by
  by_cases e : a = b
  · subst e; simp
  · have h : ¬ (Sum.inl a : Key) = Sum.inl b := fun q => e (Sum.inl.inj q)
    rw [decide_eq_false h]
    exact (beq_eq_false_iff_ne.mpr e).symm
theorem key_rr (a b : Str) : decide ((Sum.inr a : Key) = Sum.inr b) = decide (a = b) := by
  by_cases e : a = b
  · subst e; simp
  · have h : ¬ (Sum.inr a : Key) = Sum.inr b := fun q => e (Sum.inr.inj q)
    rw [decide_eq_false h, decide_eq_false e]
theorem key_lr (a : Int) (b : Str) : decide ((Sum.inl a : Key) = Sum.inr b) = false := decide_eq_false (fun q => nomatch q)
theorem key_rl (a : Str) (b : Int) : decide ((Sum.inr a : Key) = Sum.inl b) = false := decide_eq_false (fun q => nomatch q)
noncomputable def mixKind (prog : Program) (w : World) : PySem.KeyKind prog w Key where
  is := keyIs
  hash := keyH w
  inj := fun v a b ha hb => by
    rcases keyIs_shape ha with ⟨i, t, rfl, rfl⟩ | ⟨x, t, rfl, rfl⟩
    · rcases keyIs_shape hb with ⟨j, u, rfl, e⟩ | ⟨y, u, rfl, e⟩
      · injection e with e1 _; rw [e1]
      · exact nomatch e
    · rcases keyIs_shape hb with ⟨j, u, rfl, e⟩ | ⟨y, u, rfl, e⟩
      · exact nomatch e
      · injection e with e1 _; rw [e1]
  byValue := fun k v h => by
    rcases keyIs_shape h with ⟨i, t, rfl, rfl⟩ | ⟨x, t, rfl, rfl⟩ <;> rfl
  pyHash := fun hv h => by
    rcases keyIs_shape hv with ⟨i, t, rfl, rfl⟩ | ⟨x, t, rfl, rfl⟩
    · exact wpAny_pyHash_int h
    · exact wpAny_pyHash_str h
  eqBool := fun hu hv h => by
    rcases keyIs_shape hu with ⟨i, t, rfl, rfl⟩ | ⟨x, t, rfl, rfl⟩
    · rcases keyIs_shape hv with ⟨j, u, rfl, rfl⟩ | ⟨y, u, rfl, rfl⟩
      · rw [key_ll] at h; exact wpAny_eqBool_int h
      · rw [key_lr] at h; exact SeqAt.EqAt.int_str i t y u _ _ _ _ h
    · rcases keyIs_shape hv with ⟨j, u, rfl, rfl⟩ | ⟨y, u, rfl, rfl⟩
      · rw [key_rl] at h; exact SeqAt.EqAt.str_int x t j u _ _ _ _ h
      · rw [key_rr] at h; exact wpAny_eqBool_str h
  «strs» := fun k x t v h => by
    rcases keyIs_shape h with ⟨i, u, rfl, e⟩ | ⟨y, u, rfl, e⟩
    · exact nomatch e
    · injection e with e1 _
      subst e1
      cases v <;> rfl
theorem mixKind_int (prog : Program) (w : World) (i : Int) (t : Tok) : (mixKind prog w).is (.inl i) (.int i t) = true := keyIs_int i t
theorem mixKind_str (prog : Program) (w : World) (x : Str) (t : Tok) : (mixKind prog w).is (.inr x) (.str x t) = true := keyIs_str x t
end L2
namespace L2
open PySem PySem.Spec PyProof.Rows
inductive V where
  | non | bl (b : Bool) | int (i : Int) | str (x : Str) | byt (b : Array UInt8) | flt (b : UInt64) | ref (a : Addr) | ty (n : String)
  deriving DecidableEq
noncomputable def RelV : V → Value → Prop
  | .non, u => u = Value.none
  | .bl b, u => u = Value.bool b
  | .int i, u => ∃ t, u = Value.int i t
  | .str x, u => ∃ t, u = Value.str x t
  | .byt b, u => ∃ t, u = Value.bytes b t
  | .flt b, u => ∃ t, u = Value.float b t
  | .ref a, u => u = Value.ref a
  | .ty n, u => u = Value.type n
noncomputable abbrev Vals : List V → List Value → Prop := Paired RelV
theorem Vals.length {xs : List V} {us : List Value} (r : Vals xs us) : xs.length = us.length := Paired.length r
theorem Vals.get : ∀ {xs : List V} {us : List Value} {i : Nat} {x : V}, Vals xs us → xs[i]? = some x → ∃ u, us[i]? = some u ∧ RelV x u
  | _, _, _, _, .nil, e => by simp at e
  | _, _, 0, _, .cons r _, e => by simp at e; subst e; exact ⟨_, rfl, r⟩
  | _, _, i + 1, x, .cons _ t, e => by
    obtain ⟨u, h1, h2⟩ := Vals.get (i := i) (x := x) t (by simpa using e)
    exact ⟨u, by simpa using h1, h2⟩
theorem Vals.set {x : V} {u : Value} (r : RelV x u) : ∀ {xs : List V} {us : List Value} (i : Nat), Vals xs us → Vals (xs.set i x) (us.set i u)
  | _, _, _, .nil => .nil
  | _, _, 0, .cons _ t => .cons r t
  | _, _, i + 1, .cons q t => .cons q (Vals.set r i t)
theorem Vals.append : ∀ {xs ys : List V} {us ws : List Value}, Vals xs us → Vals ys ws → Vals (xs ++ ys) (us ++ ws)
  | _, _, _, _, .nil, s => s
  | _, _, _, _, .cons r t, s => .cons r (Vals.append t s)
theorem Vals.take : ∀ {xs : List V} {us : List Value} (n : Nat), Vals xs us → Vals (xs.take n) (us.take n)
  | _, _, 0, _ => .nil
  | _, _, _ + 1, .nil => .nil
  | _, _, n + 1, .cons r t => .cons r (Vals.take n t)
theorem Vals.drop : ∀ {xs : List V} {us : List Value} (n : Nat), Vals xs us → Vals (xs.drop n) (us.drop n)
  | _, _, 0, r => r
  | _, _, _ + 1, .nil => .nil
  | _, _, n + 1, .cons _ t => Vals.drop n t
noncomputable def RelO : Option V → Option Value → Prop
  | some v, some u => RelV v u
  | none, none => True
  | _, _ => False
noncomputable def KV {κ : Type} : List (κ × V) → List (κ × Value) → Prop := Paired fun (p : κ × V) (q : κ × Value) => p.1 = q.1 ∧ RelV p.2 q.2
noncomputable def kV : Key → V
  | .inl i => .int i
  | .inr x => .str x
inductive HO where
  /-- a list -/
  | lst (xs : List V)
  /-- a tuple (never changes) -/
  | tup (xs : List V)
  /-- a dict whose keys are ints and texts; one whose keys are tuples of ints and texts (the empty one is both) -/
  | dK (kvs : List (Key × V)) | dT (kvs : List (List Key × V))
  /-- a set of ints: its members, its size -/
  | set (S : Int → Bool) (n : Nat)
  /-- an instance of the class at C, its dict at dx, its attributes -/
  | ins (C dx : Addr) (fs : List (Str × V))
  /-- the dict of the instance at x -/
  | own (x : Addr)
  /-- the dict of an exception -/
  | xd (fs : List (Str × V))
  /-- a bound method, f of x -/
  | met (f x : Addr)
  /-- a range object lo, lo + 1, .. below hi -/
  | rng (lo hi : Int)
  /-- a thing that is known to the object (the script; a dict while a loop walks it): read, never written while it is so -/
  | frz (o : Obj) (u : HO)
  /-- a code object's table -/
  | tbl (ps : Array Value)
  /-- any other thing, by what is true of its one object (a def of one's own: SetO a S n := HO.ext fun h => ..) -/
  | ext (φ : Heap → Prop)
noncomputable abbrev Hp := Addr → Option HO
noncomputable def upd (H : Hp) (a : Addr) (o : HO) : Hp := fun b => if b = a then some o else H b
theorem upd_same {H : Hp} {a : Addr} {o : HO} : upd H a o a = some o := by unfold upd; rw [if_pos rfl]
theorem upd_ne {H : Hp} {a b : Addr} {o : HO} (h : b ≠ a) : upd H a o b = H b := by unfold upd; rw [if_neg h]
theorem ne_of {H : Hp} {a b : Addr} {o u : HO} (h : H a = some o) (h' : H b = some u) (d : o ≠ u) : a ≠ b := by
  intro e; subst e; rw [h] at h'; exact d (Option.some.inj h')
theorem ne_of_none {H : Hp} {a b : Addr} {o : HO} (h : H a = some o) (h' : H b = none) : a ≠ b := by
  intro e; subst e; rw [h] at h'; cases h'
section
variable (P : Program) (w : World)
noncomputable def ObjOk (H : Hp) (h : Heap) (a : Addr) : HO → Prop
  | .lst xs => xs.length ≤ sizeLine ∧ ∃ (its : List Value) (n : Nat), Vals xs its ∧ h.get? a = some { cls := .type "list", data := .seq its.toArray n }
  | .tup xs => xs.length ≤ sizeLine ∧ ∃ its : List Value, Vals xs its ∧ IsTup h a its.toArray
  | .dK kvs => kvs.length ≤ sizeLine ∧ (a == sysModules) = false ∧ ∃ vs, KV kvs vs ∧ h.DictOf (mixKind P w) a vs
  | .dT kvs => kvs.length ≤ sizeLine ∧ (a == sysModules) = false ∧ ∃ xs : List (List Key × Addr × Value),
      Paired (fun (p : List Key × V) (q : List Key × Addr × Value) => p.1 = q.1 ∧ H q.2.1 = some (.tup (p.1.map kV)) ∧ RelV p.2 q.2.2) kvs xs ∧
      ∃ o es ep, h.get? a = some o ∧ o.ExactDict ∧ o.data = .dict es ep ∧ es.toList = xs.map (entryOfKey (tupleKind (mixKind P w))) ∧ (xs.map (·.1)).Nodup
  | .set S n => h.SetOf (intKind P w) a S n
  | .ins C dx fs => H dx = some (.own a) ∧ fs.length ≤ 1000 ∧ dx ≠ a ∧ h.get? a = some (PySem.W.instObj C dx) ∧
      ∃ mA, h.Ns1 dx mA ∧ (∀ f, RelO (fs.lookup f) (mA f)) ∧ PySem.Within mA (fs.map (·.1))
  | .own _ => ∃ o, h.get? a = some o
  | .xd fs => ∃ mA, h.Ns1 a mA ∧ ∀ f, RelO (fs.lookup f) (mA f)
  | .rng lo hi => ∃ t u v, h.get? a = some { cls := .type "range", data := .fields #[.int lo t, .int hi u, .int 1 v] }
  | .frz o u => h.get? a = some o ∧ ObjOk H h a u
  | .tbl d => ∃ ps, h.get? a = some { cls := .none, data := .fields ps } ∧ (ps = #[] ∨ ∃ (l k : Value) (q : Str) (t : Tok) (c : Addr), d = #[l, k, .str q t] ∧ ps = #[l, k, .ref c] ∧ H c = some (.own a) ∧ h.CodeRec (.ref c) q)
  | .met f x => h.get? a = some (PySem.W.methodObj (.ref f) (.ref x))
  | .ext φ => φ h ∧ (∃ o, h.get? a = some o) ∧ ∀ h1 h2 : Heap, φ h1 → (∀ o, h1.get? a = some o → h2.get? a = some o) → φ h2
noncomputable def HOk (H : Hp) (h : Heap) : Prop := ∀ a o, H a = some o → ObjOk P w H h a o
end
section
variable {P : Program} {w : World} {H H' : Hp} {h h' : Heap} {a : Addr} {o : HO}
theorem ObjOk.lt (x : ObjOk P w H h a o) : a < h.objs.size := by
  cases o with
  | lst xs => obtain ⟨_, _, _, _, e⟩ := x; exact Heap.lt_size e
  | tup xs => obtain ⟨_, _, _, p⟩ := x; exact p.lt
  | dK kvs => obtain ⟨_, _, _, _, o, _, _, e, _⟩ := x; exact Heap.lt_size e
  | dT kvs => obtain ⟨_, _, _, _, o, _, _, e, _⟩ := x; exact Heap.lt_size e
  | set S n => obtain ⟨o, _, _, _, e, _⟩ := x; exact Heap.lt_size e
  | ins C dx fs => obtain ⟨_, _, _, e, _⟩ := x; exact Heap.lt_size e
  | own y => obtain ⟨_, e⟩ := x; exact Heap.lt_size e
  | xd fs => obtain ⟨_, ⟨_, _, _, e, _⟩, _⟩ := x; exact Heap.lt_size e
  | rng lo hi => obtain ⟨_, _, _, e⟩ := x; exact Heap.lt_size e
  | frz ob u => obtain ⟨e, _⟩ := x; exact Heap.lt_size e
  | tbl ps => obtain ⟨_, e, _⟩ := x; exact Heap.lt_size e
  | met f y => exact Heap.lt_size (show h.get? a = some _ from x)
  | ext φ => obtain ⟨_, ⟨_, e⟩, _⟩ := x; exact Heap.lt_size e
theorem Paired.mapP {α β : Type} {F G : α → β → Prop} : ∀ {l₁ : List α} {l₂ : List β}, Paired F l₁ l₂ → (∀ a b, F a b → G a b) → Paired G l₁ l₂
  | _, _, .nil, _ => .nil
  | _, _, .cons r t, f => .cons (f _ _ r) (Paired.mapP t f)
theorem ObjOk.stay (x : ObjOk P w H h a o) (k : ∀ b u, (b = a ∨ H b = some (.own a)) → h.get? b = some u → h'.get? b = some u)
    (ho : ∀ b, H b = some (.own a) → H' b = some (.own a)) (ht : ∀ b xs, H b = some (.tup xs) → H' b = some (.tup xs)) : ObjOk P w H' h' a o := by
  induction o with
  | lst xs => obtain ⟨z, its, n, r, e⟩ := x; exact ⟨z, its, n, r, k _ _ (.inl rfl) e⟩
  | tup xs => obtain ⟨z, its, r, ob, e, c⟩ := x; exact ⟨z, its, r, ob, k _ _ (.inl rfl) e, c⟩
  | dK kvs => obtain ⟨z, y, vs, r, ob, es, ep, e, c⟩ := x; exact ⟨z, y, vs, r, ob, es, ep, k _ _ (.inl rfl) e, c⟩
  | dT kvs =>
    obtain ⟨z, y, xs, r, ob, es, ep, e, c⟩ := x
    exact ⟨z, y, xs, Paired.mapP r fun p q z => ⟨z.1, ht _ _ z.2.1, z.2.2⟩, ob, es, ep, k _ _ (.inl rfl) e, c⟩
  | set S n => obtain ⟨ob, es, ep, t, e, c⟩ := x; exact ⟨ob, es, ep, t, k _ _ (.inl rfl) e, c⟩
  | ins C dx fs =>
    obtain ⟨d, z, ne, e, mA, ⟨od, es, ep, e2, c⟩, r⟩ := x
    exact ⟨ho _ d, z, ne, k _ _ (.inl rfl) e, mA, ⟨od, es, ep, k _ _ (.inr d) e2, c⟩, r⟩
  | own y => obtain ⟨ob, e⟩ := x; exact ⟨ob, k _ _ (.inl rfl) e⟩
  | xd fs => obtain ⟨mA, ⟨od, es, ep, e, c⟩, r⟩ := x; exact ⟨mA, ⟨od, es, ep, k _ _ (.inl rfl) e, c⟩, r⟩
  | rng lo hi => obtain ⟨t, u, v, e⟩ := x; exact ⟨t, u, v, k _ _ (.inl rfl) e⟩
  | frz ob u ih => obtain ⟨e, q⟩ := x; exact ⟨k _ _ (.inl rfl) e, ih q⟩
  | tbl d =>
    obtain ⟨ps, e, r⟩ := x
    refine ⟨ps, k a _ (.inl rfl) e, ?_⟩
    rcases r with r | ⟨l, k', q, t, c, e1, e2, e3, c2, oc, vs, t2, f1, f2, f3, f4⟩
    · exact .inl r
    · cases f1
      exact .inr ⟨l, k', q, t, c, e1, e2, ho _ e3, c, oc, vs, t2, rfl, k c oc (.inr e3) f2, f3, f4⟩
  | met f y =>
    have e : h.get? a = some (PySem.W.methodObj (.ref f) (.ref y)) := x
    show h'.get? a = some (PySem.W.methodObj (.ref f) (.ref y))
    exact k a _ (.inl rfl) e
  | ext φ => obtain ⟨p, ⟨o, e⟩, st⟩ := x; exact ⟨st _ _ p fun o q => k _ _ (.inl rfl) q, ⟨o, k _ _ (.inl rfl) e⟩, st⟩
theorem HOk.lt (x : HOk P w H h) (e : H a = some o) : a < h.objs.size := (x a o e).lt
theorem HOk.fresh (x : HOk P w H h) (e : h.objs.size ≤ a) : H a = none := by
  cases q : H a with
  | none => rfl
  | some u => exact absurd (Nat.lt_of_lt_of_le (x.lt q) e) (Nat.lt_irrefl _)
theorem HOk.kept (x : HOk P w H h) (k : ∀ b u, h.get? b = some u → h'.get? b = some u) : HOk P w H h' := fun a o e =>
  (x a o e).stay (fun b u _ q => k b u q) (fun _ q => q) fun _ _ q => q
theorem HOk.laid (x : HOk P w H h) (k : ∀ b u, h.get? b = some u → h'.get? b = some u) (hp : h.objs.size ≤ a) (new : ObjOk P w (upd H a o) h' a o) : HOk P w (upd H a o) h' := fun b u e => by
  have hn := x.fresh hp
  by_cases hb : b = a
  · subst hb; rw [upd_same] at e; cases e; exact new
  · rw [upd_ne hb] at e
    exact (x b u e).stay (fun c v _ q => k c v q) (fun c q => by rw [upd_ne (ne_of_none q hn)]; exact q) fun c xs q => by rw [upd_ne (ne_of_none q hn)]; exact q
end
noncomputable def Rd (H : Hp) (a : Addr) (u : HO) : Prop := H a = some u ∨ ∃ o, H a = some (.frz o u)
theorem Rd.ok {P : Program} {w : World} {H : Hp} {h : Heap} {a : Addr} {u : HO} (r : Rd H a u) (x : HOk P w H h) : ObjOk P w H h a u := by
  rcases r with r | ⟨o, r⟩
  · exact x a u r
  · obtain ⟨_, q⟩ := x a _ r
    exact q
noncomputable def Mut : Option HO → Prop
  | some (.lst _) => True
  | some (.dK _) => True
  | some (.dT _) => True
  | some (.set _ _) => True
  | some (.ins _ _ _) => True
  | some (.ext _) => True
  | _ => False
section
variable {P : Program} {w : World} {H : Hp} {h h' : Heap} {x e : Addr} {o' : HO}
theorem HOk.write (ok : HOk P w H h) (mu : Mut (H x)) (he : e = x ∨ H e = some (.own x)) (k : ∀ b u, b ≠ e → h.get? b = some u → h'.get? b = some u) (heo : ∃ u, h'.get? e = some u)
    (new : ObjOk P w (upd H x o') h' x o') : HOk P w (upd H x o') h' := fun b u q => by
  have nown : ∀ c y, H c = some (.own y) → c ≠ x := fun c y r z => by subst z; rw [r] at mu; exact mu
  have ntup : ∀ c xs, H c = some (.tup xs) → c ≠ x := fun c xs r z => by subst z; rw [r] at mu; exact mu
  by_cases hb : b = x
  · subst hb; rw [upd_same] at q; cases q; exact new
  · rw [upd_ne hb] at q
    by_cases hbe : b = e
    · have q' : H b = some (.own x) := by
        rcases he with z | z
        · exact absurd (hbe.trans z) hb
        · rw [hbe]; exact z
      rw [q] at q'; cases q'
      obtain ⟨v, hv⟩ := heo
      exact ⟨v, by rw [hbe]; exact hv⟩
    · refine (ok b u q).stay (fun c v hc r => k c v ?_ r) (fun c r => by rw [upd_ne (nown c b r)]; exact r) fun c xs r => by rw [upd_ne (ntup c xs r)]; exact r
      rcases hc with rfl | hc
      · exact hbe
      · rintro rfl
        rcases he with z | z
        · exact nown c b hc z
        · rw [hc] at z; cases z; exact hb rfl
end
structure Un (fs ex : List Addr) (H H' : Hp) (h h' : Heap) : Prop where
  keep : ∀ b o, h.get? b = some o → H b = none → b ∉ fs → b ∉ ex → h'.get? b = some o
  slot : ∀ b o, h.get? b = some o → H b = none → b ∈ fs → b ∉ ex → ∃ sl, h'.get? b = some { o with slots := sl }
  free : ∀ b o, h.get? b = some o → H b = none → b ∉ ex → H' b = none
  there : ∀ b o, h.get? b = some o → b ∉ ex → ∃ o', h'.get? b = some o'
  tups : ∀ b xs, H b = some (.tup xs) → H' b = some (.tup xs)
  frzs : ∀ b o u, H b = some (.frz o u) → H' b = some (.frz o u)
  tbls : ∀ b ps, H b = some (.tbl ps) → ∃ more, H' b = some (.tbl (ps ++ more))
section
variable {fs fs' ex ex' : List Addr} {H H1 H2 : Hp} {h h1 h2 h' : Heap} {a x e : Addr} {o : HO}
theorem Un.any (u : Un fs ex H H1 h h1) {b : Addr} {ob : Obj} (q : h.get? b = some ob) (n : H b = none) (hx : b ∉ ex) : ∃ sl, h1.get? b = some { ob with slots := sl } := by
  by_cases hb : b ∈ fs
  · exact u.slot b ob q n hb hx
  · exact ⟨ob.slots, u.keep b ob q n hb hx⟩
theorem Un.kept (k : ∀ b u, h.get? b = some u → h'.get? b = some u) : Un fs ex H H h h' :=
  ⟨fun b ob q _ _ _ => k b ob q, fun b ob q _ _ _ => ⟨ob.slots, k b ob q⟩, fun _ _ _ n _ => n, fun b ob q _ => ⟨ob, k b ob q⟩, fun _ _ q => q, fun _ _ _ q => q, fun _ ps q => ⟨#[], by rw [q]; simp⟩⟩
theorem Un.refl : Un fs ex H H h h := Un.kept fun _ _ q => q
theorem Un.laid (k : ∀ b u, h.get? b = some u → h'.get? b = some u) (hp : h.objs.size ≤ a) (hn : H a = none) : Un fs ex H (upd H a o) h h' where
  keep := fun b u q _ _ _ => k b u q
  slot := fun b u q _ _ _ => ⟨u.slots, k b u q⟩
  free := fun b u q n _ => by rw [upd_ne (Nat.ne_of_lt (Nat.lt_of_lt_of_le (Heap.lt_size q) hp))]; exact n
  there := fun b u q _ => ⟨u, k b u q⟩
  tups := fun b xs q => by rw [upd_ne (ne_of_none q hn)]; exact q
  frzs := fun b u xs q => by rw [upd_ne (ne_of_none q hn)]; exact q
  tbls := fun b ps q => ⟨#[], by rw [upd_ne (ne_of_none q hn), q]; simp⟩
theorem Un.write (mu : Mut (H x)) (he : e = x ∨ H e = some (.own x)) (k : ∀ b u, b ≠ e → h.get? b = some u → h'.get? b = some u) (heo : ∃ u, h'.get? e = some u) : Un fs ex H (upd H x o) h h' := by
  have hx : ∀ b, H b = none → b ≠ x := fun b n z => by subst z; rw [n] at mu; exact mu
  have hb : ∀ b, H b = none → b ≠ e := fun b n z => by
    subst z
    rcases he with r | r
    · exact hx b n r
    · rw [n] at r; cases r
  have hm : ∀ b u, H b = some u → ¬ Mut (some u) → b ≠ x := fun b u q nm z => by subst z; rw [q] at mu; exact nm mu
  refine ⟨fun b u q n _ _ => k b u (hb b n) q, fun b u q n _ _ => ⟨u.slots, k b u (hb b n) q⟩, fun b u q n _ => by rw [upd_ne (hx b n)]; exact n, fun b u q _ => ?_,
    fun b xs q => by rw [upd_ne (hm b _ q fun z => z)]; exact q, fun b u xs q => by rw [upd_ne (hm b _ q fun z => z)]; exact q, fun b ps q => ⟨#[], by rw [upd_ne (hm b _ q fun z => z), q]; simp⟩⟩
  by_cases hbe : b = e
  · subst hbe; exact heo
  · exact ⟨u, k b u hbe q⟩
end
noncomputable def trk (h : Heap) (H : Hp) : List Addr := (List.range h.objs.size).filter fun a => (H a).isSome
noncomputable def hidT (h : Heap) (H : Hp) : Heap := PySem.W.hideAll h (trk h H)
theorem hidT_size (h : Heap) (H : Hp) : (hidT h H).objs.size = h.objs.size := PySem.W.hideAll_size _ _
theorem hidT_get {h : Heap} {H : Hp} {b : Addr} {o : Obj} (e : h.get? b = some o) (n : H b = none) : (hidT h H).get? b = some o :=
  PySem.W.hideAll_get _ e fun hm => by
    have q : (H b).isSome = true := (List.mem_filter.mp hm).2
    rw [n] at q; simp at q
theorem of_hidT {h : Heap} {H : Hp} {b : Addr} {o : Obj} (e : (hidT h H).get? b = some o) : h.get? b = some o ∧ H b = none := by
  have e' : h.get? b = some o := PySem.W.of_hideAll (trk h H) e
  refine ⟨e', ?_⟩
  cases q : H b with
  | none => rfl
  | some x =>
    have hm : b ∈ trk h H := List.mem_filter.mpr ⟨List.mem_range.mpr (Heap.lt_size e'), by simp [q]⟩
    have z : (hidT h H).get? b = none := PySem.W.hideAll_none (trk h H) hm
    rw [z] at e; cases e
end L2
namespace L2
open PySem PySem.Spec PyProof.Rows
structure Mod (K : PySem.W.Frag) (mg : Str → Option Value) (base : Heap) : Prop where
  kin : K.In base
  glob : base.Ns mainGlobals mg
  blt : ∃ mb, base.Ns builtinsNs mb ∧ ∀ x : Str, x ≠ "__name__" → mb x = bootBuiltins x
  nolimit : base.NoLimit
structure Cx where
  prog : Program
  w : World
  K : PySem.W.Frag
  mg : Str → Option Value
  base : Heap
  A : Around
  N : List Str
  s₀ : Shared
  H₀ : Hp
  env : Env
  outer : List Env
  stack : List Env
  ex : List Addr
  fn : Str → Bool
  calm : Bool
  pn : List (Addr × Obj)
  xe : Value → Shared → Prop
noncomputable def frs (l : List Env) : List Addr := l.filterMap (·.frame)
noncomputable abbrev Cx.fs (X : Cx) : List Addr := frs X.outer
noncomputable def Vis (sc : Scope) (x : Str) : Prop := sc.names.lookup x = some .local ∨ sc.names.lookup x = some .cell ∨ sc.names.lookup x = some .free
noncomputable def Loc (sc : Scope) (x : Str) : Prop := sc.names.lookup x = some .local ∨ sc.names.lookup x = some .cell
noncomputable def Look (env : Env) (h : Heap) (m : Str → Option Value) (x : Str) (u : Value) : Prop :=
  (env.kindOf x = some .local ∧ m x = some u) ∨ ((env.kindOf x = some .cell ∨ env.kindOf x = some .free) ∧ ∃ c, env.cells.lookup x = some c ∧ h.IsCell c (some u))
structure Cx.Ok (X : Cx) : Prop where
  mod : Mod X.K X.mg X.base
  kind : X.env.scope.kind = .function
  glob : X.env.globals = mainGlobals
  blt : X.env.builtins = builtinsNs
  above : X.s₀.heap.objs.size ≤ X.env.locals
  inj : ∀ x y c, X.env.cells.lookup x = some c → X.env.cells.lookup y = some c → x = y
  has : ∀ x, (X.env.kindOf x = some .cell ∨ X.env.kindOf x = some .free) → ∃ c, X.env.cells.lookup x = some c
  cab : ∀ x c, X.fn x = true → X.env.cells.lookup x = some c → X.s₀.heap.objs.size ≤ c
  hd : X.calm = true → X.A.handled = none
  frames : X.A.frames = some X.stack
  stk : X.stack = X.outer ∨ (X.stack = X.env :: X.outer ∧ X.env.frame = some X.env.locals)
  exf : ∀ b ∈ X.ex, b ≠ X.env.locals ∧ ∀ x c, X.env.cells.lookup x = some c → c ≠ b
  bs : ∀ b o, X.base.get? b = some o → X.s₀.heap.get? b = some o ∧ X.H₀ b = none
  bsz : X.base.objs.size ≤ X.s₀.heap.objs.size
  noex : ∀ b o, X.base.get? b = some o → b ∉ X.ex
  exfs : ∀ b ∈ X.ex, b ∉ X.fs
  funs : X.s₀.heap.FunFrames X.base X.outer
  frf : ∀ b ∈ X.fs, X.H₀ b = none
structure Inv (X : Cx) (pins : List (Addr × Obj)) (σ : List (Option V)) (H : Hp) (s : Shared) : Prop where
  ok : X.Ok
  os : s.os = X.s₀.os
  bare : AllBare s.gens
  base : Un X.fs X.ex X.H₀ H X.s₀.heap s.heap
  loc : ∃ m, s.heap.Ns X.env.locals m ∧ ∀ (i : Nat) (x : Str) (v : V), X.N[i]? = some x → σ[i]? = some (some v) → Vis X.env.scope x → ∃ u, RelV v u ∧ Look X.env s.heap m x u
  cell : ∀ x c, X.env.cells.lookup x = some c → ∃ v, s.heap.IsCell c v
  free : H X.env.locals = none
  freeC : ∀ x c, X.env.cells.lookup x = some c → H c = none
  pin : ∀ p ∈ X.pn ++ pins, s.heap.get? p.1 = some p.2 ∧ H p.1 = none ∧ p.1 ≠ X.env.locals ∧ p.1 ∉ X.fs ∧ ∀ v, p.2.data ≠ .cell v
  hok : HOk X.prog X.w H s.heap
  len : σ.length = X.N.length
section
variable {X : Cx} {pins : List (Addr × Obj)} {σ : List (Option V)} {H H' : Hp} {s : Shared} {h' : Heap}
theorem Cx.Ok.nofr (ok : X.Ok) {b : Addr} {o : Obj} (e : X.base.get? b = some o) : b ∉ X.fs := fun hb => by
  have := (ok.funs.mem hb).1
  rw [e] at this; cases this
theorem Inv.bs (I : Inv X pins σ H s) : ∀ b o, X.base.get? b = some o → s.heap.get? b = some o ∧ H b = none := fun b o e =>
  ⟨I.base.keep b o (I.ok.bs b o e).1 (I.ok.bs b o e).2 (I.ok.nofr e) (I.ok.noex b o e), I.base.free b o (I.ok.bs b o e).1 (I.ok.bs b o e).2 (I.ok.noex b o e)⟩
theorem Inv.bk (I : Inv X pins σ H s) : ∀ b o, X.base.get? b = some o → s.heap.get? b = some o := fun b o e => (I.bs b o e).1
theorem Inv.mod (I : Inv X pins σ H s) : Mod X.K X.mg X.base := I.ok.mod
theorem Inv.kIn (I : Inv X pins σ H s) : X.K.In s.heap := I.ok.mod.kin.keeps I.bk
theorem Inv.nolimit (I : Inv X pins σ H s) : s.heap.NoLimit := I.ok.mod.nolimit.keeps I.bk
theorem Inv.lt (I : Inv X pins σ H s) : X.env.locals < s.heap.objs.size := let ⟨_, hn, _⟩ := I.loc; hn.lt
theorem Inv.sz (I : Inv X pins σ H s) : X.s₀.heap.objs.size ≤ s.heap.objs.size := Nat.le_trans I.ok.above (Nat.le_of_lt I.lt)
theorem Inv.nofs (I : Inv X pins σ H s) {a : Addr} (h : s.heap.objs.size ≤ a) : a ∉ X.fs := fun hb => by
  obtain ⟨_, o, ho, _⟩ := I.ok.funs.mem hb
  exact absurd (Nat.lt_of_lt_of_le (Heap.lt_size ho) (Nat.le_trans I.sz h)) (Nat.lt_irrefl _)
theorem Inv.cne (I : Inv X pins σ H s) : ∀ x c, X.env.cells.lookup x = some c → c ≠ X.env.locals := fun x c e z => by
  obtain ⟨v, o, ho, hd⟩ := I.cell x c e
  obtain ⟨m, ⟨o', es, ep, ho', hd', _⟩, _⟩ := I.loc
  rw [z, ho'] at ho; cases ho; rw [hd'] at hd; cases hd
theorem Inv.funs (I : Inv X pins σ H s) : s.heap.FunFrames X.base X.outer := by
  have all : ∀ (l : List Env), (∀ b ∈ frs l, b ∈ X.fs) → X.s₀.heap.FunFrames X.base l → s.heap.FunFrames X.base l := by
    intro l
    induction l with
    | nil => intro _ _; trivial
    | cons env r ih =>
      intro hs hl
      obtain ⟨hk, ⟨L, o, hf, hn, ho, hd⟩, hr⟩ := hl
      have hL : L ∈ X.fs := hs L (by unfold frs; rw [List.filterMap_cons, hf]; exact List.mem_cons_self)
      obtain ⟨sl, e⟩ := I.base.slot L o ho (I.ok.frf L hL) hL fun z => I.ok.exfs L z hL
      exact ⟨hk, ⟨L, _, hf, hn, e, hd⟩, ih (fun b hb => hs b (by unfold frs; rw [List.filterMap_cons, hf]; exact List.mem_cons_of_mem _ hb)) hr⟩
  exact all X.outer (fun _ hb => hb) I.ok.funs
theorem Inv.stack (I : Inv X pins σ H s) : s.heap.FunFrames X.base X.stack := by
  rcases I.ok.stk with e | ⟨e, hf⟩
  · rw [e]; exact I.funs
  · rw [e]
    obtain ⟨m, hn, _⟩ := I.loc
    refine .cons (by rw [I.ok.kind]; decide) hf hn ?_ I.funs
    exact Heap.get?_none_of_le (Nat.le_trans I.ok.bsz I.ok.above)
theorem Inv.stkSub (I : Inv X pins σ H s) : ∀ b ∈ frs X.stack, b ∈ X.env.locals :: X.fs := fun b hb => by
  rcases I.ok.stk with e | ⟨e, hf⟩
  · rw [e] at hb; exact List.mem_cons_of_mem _ hb
  · rw [e] at hb
    unfold frs at hb
    rw [List.filterMap_cons, hf] at hb
    exact hb
theorem Inv.stkFree (I : Inv X pins σ H s) : ∀ b ∈ frs X.stack, H b = none := fun b hb => by
  rcases List.mem_cons.mp (I.stkSub b hb) with e | hb
  · rw [e]; exact I.free
  · obtain ⟨_, o, ho, _⟩ := I.ok.funs.mem hb
    exact I.base.free b o ho (I.ok.frf b hb) fun z => I.ok.exfs b z hb
theorem Inv.step {g' : Array GenState} {t' : Nat} {d' : Drawn} {ch : List Addr} (I : Inv X pins σ H s)
    (hch : ∀ b ∈ ch, (b ∈ X.ex ∨ X.s₀.heap.objs.size ≤ b) ∧ b ≠ X.env.locals ∧ (∀ x c, X.env.cells.lookup x = some c → c ≠ b) ∧ ∀ p ∈ X.pn ++ pins, p.1 ≠ b)
    (keep : ∀ b o, b ≠ X.env.locals → b ∉ X.fs → b ∉ ch → s.heap.get? b = some o → H b = none → h'.get? b = some o)
    (slot : ∀ b o, b ≠ X.env.locals → b ∈ X.fs → b ∉ ch → s.heap.get? b = some o → H b = none → ∃ sl, h'.get? b = some { o with slots := sl }) (free : ∀ b o, b ∉ ch → s.heap.get? b = some o → H b = none → H' b = none)
    (there : ∀ b o, b ∉ ch → s.heap.get? b = some o → ∃ o', h'.get? b = some o')
    (tups : ∀ b xs, H b = some (.tup xs) → H' b = some (.tup xs)) (frzs : ∀ b o u, H b = some (.frz o u) → H' b = some (.frz o u)) (tbls : ∀ b ps, H b = some (.tbl ps) → ∃ more, H' b = some (.tbl (ps ++ more)))
    (ns : ∀ m, s.heap.Ns X.env.locals m → h'.Ns X.env.locals m) (hok : HOk X.prog X.w H' h') (hg : AllBare g') :
    Inv X pins σ H' { s with heap := h', gens := g', drawn := d', toks := t' } := by
  have neL : ∀ b o, X.s₀.heap.get? b = some o → b ≠ X.env.locals := fun b o e => Nat.ne_of_lt (Nat.lt_of_lt_of_le (Heap.lt_size e) I.ok.above)
  have neC : ∀ b o, X.s₀.heap.get? b = some o → b ∉ X.ex → b ∉ ch := fun b o e hx hb => by
    rcases (hch b hb).1 with z | z
    · exact hx z
    · exact absurd (Nat.lt_of_lt_of_le (Heap.lt_size e) z) (Nat.lt_irrefl _)
  have cellK : ∀ x c, X.env.cells.lookup x = some c → ∀ v, s.heap.IsCell c v → h'.IsCell c v := fun x c e v ⟨o, ho, hd⟩ => by
    have nch : c ∉ ch := fun z => (hch c z).2.2.1 x c e rfl
    by_cases hc : c ∈ X.fs
    · obtain ⟨sl, q⟩ := slot c o (I.cne x c e) hc nch ho (I.freeC x c e)
      exact ⟨_, q, hd⟩
    · exact ⟨o, keep c o (I.cne x c e) hc nch ho (I.freeC x c e), hd⟩
  refine ⟨I.ok, I.os, hg, ⟨fun b o e n hb hx => ?_, fun b o e n hb hx => ?_, fun b o e n hx => ?_, fun b o e hx => ?_, fun b xs e => tups b xs (I.base.tups b xs e), fun b o xs e => frzs b o xs (I.base.frzs b o xs e), fun b ps e => ?_⟩, ?_, fun x c e => ?_, ?_, fun x c e => ?_, fun p hp => ?_, hok, I.len⟩
  · exact keep b o (neL b o e) hb (neC b o e hx) (I.base.keep b o e n hb hx) (I.base.free b o e n hx)
  · obtain ⟨sl, e1⟩ := I.base.slot b o e n hb hx
    obtain ⟨sl', e2⟩ := slot b _ (neL b o e) hb (neC b o e hx) e1 (I.base.free b o e n hx)
    exact ⟨sl', e2⟩
  · obtain ⟨o', e1⟩ := I.base.there b o e hx
    exact free b o' (neC b o e hx) e1 (I.base.free b o e n hx)
  · obtain ⟨o', e1⟩ := I.base.there b o e hx
    exact there b o' (neC b o e hx) e1
  · obtain ⟨m1, e1⟩ := I.base.tbls b ps e
    obtain ⟨m2, e2⟩ := tbls b _ e1
    exact ⟨m1 ++ m2, by rw [e2, Array.append_assoc]⟩
  · obtain ⟨m, hn, hl⟩ := I.loc
    refine ⟨m, ns m hn, fun i x v e1 e2 e3 => ?_⟩
    obtain ⟨u, r, l⟩ := hl i x v e1 e2 e3
    refine ⟨u, r, ?_⟩
    rcases l with l | ⟨k, c, e, z⟩
    · exact .inl l
    · exact .inr ⟨k, c, e, cellK x c e _ z⟩
  · obtain ⟨v, z⟩ := I.cell x c e
    exact ⟨v, cellK x c e v z⟩
  · obtain ⟨m, ⟨o, _, _, ho, _⟩, _⟩ := I.loc
    exact free _ o (fun z => (hch _ z).2.1 rfl) ho I.free
  · obtain ⟨v, o, ho, hd⟩ := I.cell x c e
    exact free c o (fun z => (hch c z).2.2.1 x c e rfl) ho (I.freeC x c e)
  · obtain ⟨e, n, ne, nf, d⟩ := I.pin p hp
    have nch : p.1 ∉ ch := fun z => (hch p.1 z).2.2.2 p hp rfl
    exact ⟨keep p.1 p.2 ne nf nch e n, free p.1 p.2 nch e n, ne, nf, d⟩
theorem Inv.un {t' : Nat} (I : Inv X pins σ H s) (u : Un X.fs [] H H' s.heap h') (hok : HOk X.prog X.w H' h') : Inv X pins σ H' { s with heap := h', toks := t' } := by
  obtain ⟨m, ⟨o, es, ep, ho, r⟩, _⟩ := id I.loc
  obtain ⟨sl, hL⟩ := u.any ho I.free (by simp)
  exact I.step (g' := s.gens) (d' := s.drawn) (ch := []) (fun _ z => nomatch z) (fun b o _ hb _ e n => u.keep b o e n hb (by simp)) (fun b o _ hb _ e n => u.slot b o e n hb (by simp)) (fun b o _ e n => u.free b o e n (by simp)) (fun b o _ e => u.there b o e (by simp)) u.tups u.frzs u.tbls (fun m' hm => by
    obtain ⟨o', es', ep', ho', r'⟩ := hm
    rw [ho] at ho'; cases ho'
    exact ⟨_, es', ep', hL, r'⟩) hok I.bare
theorem Inv.call {g' : Array GenState} {t' : Nat} {d' : Drawn} {ch : List Addr} (I : Inv X pins σ H s) (u : Un (frs X.stack) ch H H' s.heap h') (hok : HOk X.prog X.w H' h') (hg : AllBare g')
    (hch : ∀ b ∈ ch, (b ∈ X.ex ∨ X.s₀.heap.objs.size ≤ b) ∧ b ≠ X.env.locals ∧ (∀ x c, X.env.cells.lookup x = some c → c ≠ b) ∧ ∀ p ∈ X.pn ++ pins, p.1 ≠ b) :
    Inv X pins σ H' { s with heap := h', gens := g', drawn := d', toks := t' } := by
  obtain ⟨m, ⟨o, es, ep, ho, r⟩, _⟩ := id I.loc
  obtain ⟨sl, hL⟩ := u.any ho I.free fun z => (hch _ z).2.1 rfl
  exact I.step (ch := ch) hch (fun b o hL hb hc e n => u.keep b o e n (fun z => (List.mem_cons.mp (I.stkSub b z)).elim hL hb) hc) (fun b o _ _ hc e n => u.any e n hc) (fun b o hc e n => u.free b o e n hc) (fun b o hc e => u.there b o e hc) u.tups u.frzs u.tbls (fun m' hm => by
    obtain ⟨o', es', ep', ho', r'⟩ := hm
    rw [ho] at ho'; cases ho'
    exact ⟨_, es', ep', hL, r'⟩) hok hg
theorem Inv.turned {t' : Nat} {it : Addr} (I : Inv X pins σ H s) (k : ∀ b o, b ≠ it → s.heap.get? b = some o → h'.get? b = some o) (hn : H it = none) (hL : it ≠ X.env.locals)
    (h1 : it ∈ X.ex ∨ X.s₀.heap.objs.size ≤ it) (h2 : ∀ x c, X.env.cells.lookup x = some c → c ≠ it) (h3 : ∀ p ∈ X.pn ++ pins, p.1 ≠ it) : Inv X pins σ H { s with heap := h', toks := t' } := by
  have nit : ∀ b u, H b = some u → b ≠ it := fun b u e z => by rw [z, hn] at e; cases e
  refine I.step (g' := s.gens) (d' := s.drawn) (ch := [it]) (fun b hb => ?_) (fun b o _ _ hc e _ => k b o (fun z => hc (by simp [z])) e) (fun b o _ _ hc e _ => ⟨o.slots, k b o (fun z => hc (by simp [z])) e⟩) (fun _ _ _ _ n => n)
    (fun b o hc e => ⟨o, k b o (fun z => hc (by simp [z])) e⟩) (fun _ _ e => e) (fun _ _ _ e => e) (fun b ps e => ⟨#[], by rw [e]; simp⟩) (fun m hm => ?_) (fun b u e => ?_) I.bare
  · have e : b = it := by simpa using hb
    subst e
    exact ⟨h1, hL, h2, h3⟩
  · obtain ⟨o, es, ep, ho, r⟩ := hm
    exact ⟨o, es, ep, k _ o (Ne.symm hL) ho, r⟩
  · refine (I.hok b u e).stay (fun c v hc q => k c v ?_ q) (fun _ q => q) fun _ _ q => q
    rcases hc with z | z
    · rw [z]; exact nit b u e
    · exact nit c _ z
theorem Inv.tok (I : Inv X pins σ H s) (t : Nat) : Inv X pins σ H { s with toks := t } := I.un (h' := s.heap) (t' := t) Un.refl I.hok
theorem Inv.kept {t' : Nat} (I : Inv X pins σ H s) (k : ∀ b u, s.heap.get? b = some u → h'.get? b = some u) : Inv X pins σ H { s with heap := h', toks := t' } := I.un (Un.kept k) (I.hok.kept k)
theorem Inv.laid {a : Addr} {o : HO} {t' : Nat} (I : Inv X pins σ H s) (k : ∀ b u, s.heap.get? b = some u → h'.get? b = some u) (hp : s.heap.objs.size ≤ a) (new : ObjOk X.prog X.w (upd H a o) h' a o) :
    Inv X pins σ (upd H a o) { s with heap := h', toks := t' } := I.un (Un.laid k hp (I.hok.fresh hp)) (I.hok.laid k hp new)
theorem Inv.write {x e : Addr} {o : HO} {t' : Nat} (I : Inv X pins σ H s) (mu : Mut (H x)) (he : e = x ∨ H e = some (.own x)) (k : ∀ b u, b ≠ e → s.heap.get? b = some u → h'.get? b = some u) (heo : ∃ u, h'.get? e = some u)
    (new : ObjOk X.prog X.w (upd H x o) h' x o) : Inv X pins σ (upd H x o) { s with heap := h', toks := t' } := I.un (Un.write mu he k heo) (I.hok.write mu he k heo new)
theorem Inv.pins_of {pins' : List (Addr × Obj)} (I : Inv X pins σ H s) (h : ∀ p ∈ pins', s.heap.get? p.1 = some p.2 ∧ H p.1 = none ∧ p.1 ≠ X.env.locals ∧ p.1 ∉ X.fs ∧ ∀ v, p.2.data ≠ .cell v) : Inv X pins' σ H s :=
  ⟨I.ok, I.os, I.bare, I.base, I.loc, I.cell, I.free, I.freeC, fun p hp => (List.mem_append.mp hp).elim (fun z => I.pin p (List.mem_append_left _ z)) (h p), I.hok, I.len⟩
theorem nodup_ix {N : List Str} (hN : N.Nodup) {i j : Nat} {x : Str} (a : N[i]? = some x) (b : N[j]? = some x) : i = j := by
  obtain ⟨h1, e1⟩ := List.getElem?_eq_some_iff.mp a
  obtain ⟨h2, e2⟩ := List.getElem?_eq_some_iff.mp b
  exact (List.getElem_inj hN).mp (e1.trans e2.symm)
theorem store_ok2 {M : Model} {A : Around} {E : Value → Shared → Prop} {i : Nat} {x : Str} {v : V} {u : Value} {Q : Unit → Shared → Prop} (I : Inv X pins σ H s) (hN : X.N.Nodup) (hi : X.N[i]? = some x) (hx : Loc X.env.scope x) (r : RelV v u)
    (h : ∀ s', Inv X pins (σ.set i (some v)) H s' → (∃ a, Heap.SameBut a s.heap s'.heap ∧ (a = X.env.locals ∨ X.env.cells.lookup x = some a)) → Q () s') (hf : X.fn x = true ∨ X.env.scope.names.lookup x = some .local := by first | exact .inl rfl | exact .inr rfl | assumption) : wpAny M A (storeName X.env x u) Q E s := by
  obtain ⟨m, hn, hl⟩ := id I.loc
  have hcls : (X.env.scope.kind == .class || (X.env.scope.kind == .module && X.env.locals != X.env.globals)) = false := by rw [I.ok.kind]; rfl
  have hiσ : i < σ.length := by rw [I.len]; exact (List.getElem?_eq_some_iff.mp hi).1
  have cne := I.cne
  have tracked : ∀ {a : Addr} {h' : Heap}, (∃ o, s.heap.get? a = some o ∧ H a = none) → Heap.SameBut a s.heap h' → HOk X.prog X.w H h' := fun {a h'} ha hs b ob e => by
    obtain ⟨_, _, hfree⟩ := ha
    refine (I.hok b ob e).stay (fun c w' hc q => (hs.2 c ?_).trans q) (fun _ q => q) fun _ _ q => q
    rintro rfl
    rcases hc with rfl | hc
    · rw [hfree] at e; cases e
    · rw [hfree] at hc; cases hc
  rcases hx with hk | hk
  · refine wpAny_storeName_local hk hn (fun h' hn' hs => ?_) hcls
    obtain ⟨oL, _, _, hoL, _⟩ := id hn
    refine h _ ⟨I.ok, I.os, I.bare, ⟨fun b o e n hb hx => ?_, fun b o e n hb hx => ?_, I.base.free, fun b o e hx => ?_, I.base.tups, I.base.frzs, I.base.tbls⟩, ⟨_, hn', fun j y v' e1 e2 e3 => ?_⟩, fun y c e => ?_, I.free, I.freeC, fun p hp => ?_, tracked ⟨oL, hoL, I.free⟩ hs, by simpa using I.len⟩ ⟨_, hs, .inl rfl⟩
    · exact (hs.2 b (Nat.ne_of_lt (Nat.lt_of_lt_of_le (Heap.lt_size e) I.ok.above))).trans (I.base.keep b o e n hb hx)
    · obtain ⟨sl, e1⟩ := I.base.slot b o e n hb hx
      exact ⟨sl, (hs.2 b (Nat.ne_of_lt (Nat.lt_of_lt_of_le (Heap.lt_size e) I.ok.above))).trans e1⟩
    · obtain ⟨o', e1⟩ := I.base.there b o e hx
      exact ⟨o', (hs.2 b (Nat.ne_of_lt (Nat.lt_of_lt_of_le (Heap.lt_size e) I.ok.above))).trans e1⟩
    · by_cases hj : j = i
      · subst hj
        rw [hi] at e1; cases e1
        rw [List.getElem?_set_self hiσ] at e2
        cases e2
        exact ⟨u, r, .inl ⟨hk, by simp⟩⟩
      · rw [List.getElem?_set_ne (Ne.symm hj)] at e2
        obtain ⟨u', r', q⟩ := hl j y v' e1 e2 e3
        refine ⟨u', r', ?_⟩
        rcases q with ⟨k, e⟩ | ⟨k, c, e, z⟩
        · refine .inl ⟨k, ?_⟩
          have : y ≠ x := fun e => hj (nodup_ix hN e1 (e ▸ hi))
          simp [this, e]
        · exact .inr ⟨k, c, e, z.sameBut hs (cne y c e)⟩
    · obtain ⟨w', z⟩ := I.cell y c e
      exact ⟨w', z.sameBut hs (cne y c e)⟩
    · obtain ⟨e, n, ne, nf, d⟩ := I.pin p hp
      exact ⟨(hs.2 p.1 ne).trans e, n, ne, nf, d⟩
  · have hfn : X.fn x = true := by
      rcases hf with z | z
      · exact z
      · rw [z] at hk; cases hk
    obtain ⟨c, hc⟩ := I.ok.has x (.inl hk)
    obtain ⟨w', z⟩ := I.cell x c hc
    refine wpAny_storeName_cell I.ok.kind hk hc z (fun h' hc' hs => ?_)
    obtain ⟨oc, hoc, hocd⟩ := id z
    refine h { s with heap := h' } ⟨I.ok, I.os, I.bare, ⟨fun b o e n hb hx => ?_, fun b o e n hb hx => ?_, I.base.free, fun b o e hx => ?_, I.base.tups, I.base.frzs, I.base.tbls⟩, ⟨m, hn.sameBut hs (Ne.symm (cne x c hc)), fun j y v' e1 e2 e3 => ?_⟩, fun y c' e => ?_, I.free, I.freeC, fun p hp => ?_, tracked ⟨oc, hoc, I.freeC x c hc⟩ hs, by simpa using I.len⟩ ⟨c, hs, .inr hc⟩
    · exact (hs.2 b (Nat.ne_of_lt (Nat.lt_of_lt_of_le (Heap.lt_size e) (I.ok.cab x c hfn hc)))).trans (I.base.keep b o e n hb hx)
    · obtain ⟨sl, e1⟩ := I.base.slot b o e n hb hx
      exact ⟨sl, (hs.2 b (Nat.ne_of_lt (Nat.lt_of_lt_of_le (Heap.lt_size e) (I.ok.cab x c hfn hc)))).trans e1⟩
    · obtain ⟨o', e1⟩ := I.base.there b o e hx
      exact ⟨o', (hs.2 b (Nat.ne_of_lt (Nat.lt_of_lt_of_le (Heap.lt_size e) (I.ok.cab x c hfn hc)))).trans e1⟩
    · by_cases hj : j = i
      · subst hj
        rw [hi] at e1; cases e1
        rw [List.getElem?_set_self hiσ] at e2
        cases e2
        exact ⟨u, r, .inr ⟨.inl hk, c, hc, hc'⟩⟩
      · rw [List.getElem?_set_ne (Ne.symm hj)] at e2
        obtain ⟨u', r', q⟩ := hl j y v' e1 e2 e3
        refine ⟨u', r', ?_⟩
        rcases q with q | ⟨k, c', e, z'⟩
        · exact .inl q
        · refine .inr ⟨k, c', e, z'.sameBut hs ?_⟩
          rintro rfl
          exact hj (nodup_ix hN e1 (I.ok.inj _ _ _ e hc ▸ hi))
    · by_cases hcc : c' = c
      · subst hcc; exact ⟨_, hc'⟩
      · obtain ⟨w2, z2⟩ := I.cell y c' e
        exact ⟨w2, z2.sameBut hs hcc⟩
    · obtain ⟨e, n, ne, nf, d⟩ := I.pin p hp
      refine ⟨(hs.2 p.1 ?_).trans e, n, ne, nf, d⟩
      intro q
      rw [q, hoc] at e
      have q' : oc = p.2 := Option.some.inj e
      exact d w' (by rw [← q']; exact hocd)
theorem store_ok {M : Model} {A : Around} {E : Value → Shared → Prop} {i : Nat} {x : Str} {v : V} {u : Value} {Q : Unit → Shared → Prop} (I : Inv X pins σ H s) (hN : X.N.Nodup) (hi : X.N[i]? = some x) (hx : Loc X.env.scope x) (r : RelV v u)
    (h : ∀ s', Inv X pins (σ.set i (some v)) H s' → Q () s') (hf : X.fn x = true ∨ X.env.scope.names.lookup x = some .local := by first | exact .inl rfl | exact .inr rfl | assumption) : wpAny M A (storeName X.env x u) Q E s :=
  store_ok2 I hN hi hx r (fun s' I' _ => h s' I') hf
theorem Inv.call' {s' : Shared} {ch : List Addr} (I : Inv X pins σ H s) (ho : s'.os = s.os) (u : Un (frs X.stack) ch H H' s.heap s'.heap) (hok : HOk X.prog X.w H' s'.heap) (hg : AllBare s'.gens)
    (hch : ∀ b ∈ ch, (b ∈ X.ex ∨ X.s₀.heap.objs.size ≤ b) ∧ b ≠ X.env.locals ∧ (∀ x c, X.env.cells.lookup x = some c → c ≠ b) ∧ ∀ p ∈ X.pn ++ pins, p.1 ≠ b) : Inv X pins σ H' s' := by
  obtain ⟨h', g', d', t', o'⟩ := s'
  have e : o' = s.os := ho
  subst e
  exact I.call (g' := g') (t' := t') (d' := d') u hok hg hch
end
noncomputable abbrev XK := Value → Option Addr → Hp → Prop
noncomputable abbrev St := List (Option V)
noncomputable abbrev VK := V → Hp → Prop
noncomputable abbrev TE := St → Hp → VK → Prop
noncomputable abbrev TT := St → Hp → (Bool → Hp → Prop) → Prop
noncomputable abbrev TA := St → Hp → (List V → Hp → Prop) → Prop
structure Ends where
  nx : St → Hp → Prop
  rt : VK
  bk : St → Hp → Prop := fun _ _ => False
  ct : St → Hp → Prop := fun _ _ => False
noncomputable abbrev TS := Ends → St → Hp → Prop
noncomputable def EP (X : Cx) (pins : List (Addr × Obj)) (σ : St) (Q : VK) (u : Value) (s' : Shared) : Prop := ∃ v H', Inv X pins σ H' s' ∧ RelV v u ∧ Q v H'
noncomputable def TP (X : Cx) (pins : List (Addr × Obj)) (σ : St) (Q : Bool → Hp → Prop) (b : Bool) (s' : Shared) : Prop := ∃ H', Inv X pins σ H' s' ∧ Q b H'
noncomputable def AP (X : Cx) (pins : List (Addr × Obj)) (σ : St) (Q : List V → Hp → Prop) (us : List Value) (s' : Shared) : Prop := ∃ vs H', Inv X pins σ H' s' ∧ Vals vs us ∧ Q vs H'
noncomputable def SP (X : Cx) (pins : List (Addr × Obj)) (D : Ends) (f : Flow) (s' : Shared) : Prop :=
  match f with
  | .next => ∃ σ' H', Inv X pins σ' H' s' ∧ D.nx σ' H'
  | .brk => ∃ σ' H', Inv X pins σ' H' s' ∧ D.bk σ' H'
  | .cont => ∃ σ' H', Inv X pins σ' H' s' ∧ D.ct σ' H'
  | .ret u => ∃ v σ' H', Inv X pins σ' H' s' ∧ RelV v u ∧ D.rt v H'
noncomputable def PE (X : Cx) (e : Expr) (t : TE) : Prop :=
  ∀ (pins : List (Addr × Obj)) (s : Shared) (σ : St) (H : Hp) (Q : VK), Inv X pins σ H s → t σ H Q → wpAny (model X.prog X.w) X.A (eval e X.env) (EP X pins σ Q) X.xe s
noncomputable def PT (X : Cx) (e : Expr) (t : TT) : Prop :=
  ∀ (pins : List (Addr × Obj)) (s : Shared) (σ : St) (H : Hp) (Q : Bool → Hp → Prop), Inv X pins σ H s → t σ H Q → wpAny (model X.prog X.w) X.A (isTrue e X.env (eval e X.env)) (TP X pins σ Q) X.xe s
noncomputable def PW (X : Cx) (e : Expr) (t : TT) : Prop :=
  ∀ (whole : Sem Value) (pins : List (Addr × Obj)) (s : Shared) (σ : St) (H : Hp) (Q : Bool → Hp → Prop), Inv X pins σ H s → t σ H Q → wpAny (model X.prog X.w) X.A (isTrue e X.env whole) (TP X pins σ Q) X.xe s
theorem PW.pt {X : Cx} {e : Expr} {t : TT} (h : PW X e t) : PT X e t := h _
noncomputable def PA (X : Cx) (es : List Expr) (t : TA) : Prop :=
  ∀ (pos : Pos) (pins : List (Addr × Obj)) (s : Shared) (σ : St) (H : Hp) (Q : List V → Hp → Prop), Inv X pins σ H s → t σ H Q → wpAny (model X.prog X.w) X.A (spliced (backTo pos (starEach es X.env))) (AP X pins σ Q) X.xe s
noncomputable def PS (X : Cx) (st : Stmt) (t : TS) : Prop :=
  ∀ (pins : List (Addr × Obj)) (s : Shared) (σ : St) (H : Hp) (D : Ends), Inv X pins σ H s → t D σ H → wpAny (model X.prog X.w) X.A (exec st X.env) (SP X pins D) X.xe s
noncomputable def PSs (X : Cx) (st : List Stmt) (t : TS) : Prop :=
  ∀ (pins : List (Addr × Obj)) (s : Shared) (σ : St) (H : Hp) (D : Ends), Inv X pins σ H s → t D σ H → wpAny (model X.prog X.w) X.A (execs st X.env) (SP X pins D) X.xe s
theorem thn {α : Type} {t : Sem α} {Q Q' : α → Shared → Prop} {M : Model} {A : Around} {E : Value → Shared → Prop} {s : Shared} (h : wpAny M A t Q E s) (hQ : ∀ a s, Q a s → Q' a s) : wpAny M A t Q' E s := wpAny_mono h hQ fun _ _ x => x
end L2
namespace L2
open PySem PySem.Spec PyProof.Rows
section
variable {X : Cx}
noncomputable def tVar (i : Nat) : TE := fun σ H Q => ∃ v, σ[i]? = some (some v) ∧ Q v H
noncomputable def tC (v : V) : TE := fun _ H Q => Q v H
theorem pe_var {i : Nat} {x : Str} {pos : Pos} (hN : X.N[i]? = some x) (hv : Vis X.env.scope x) (hd : (x == ("__debug__" : Str)) = false := by decide) (hcd : (x == ("__classdict__" : Str)) = false := by decide) : PE X (.Name x pos) (tVar i) := by
  intro pins s σ H Q I h
  obtain ⟨v, e, h⟩ := h
  obtain ⟨m, hn, hl⟩ := I.loc
  obtain ⟨u, r, l⟩ := hl i x v hN e hv
  have fin : EP X pins σ Q u s := ⟨v, H, I, r, h⟩
  rcases l with ⟨hk, hm⟩ | ⟨hk, c, hc, hcell⟩
  · exact wpAny_Name (wpAny_loadName_local I.ok.kind hk hn hm fin) hd
  · rcases hk with hk | hk
    · exact wpAny_Name (wpAny_loadName_cell I.ok.kind hk hc hcell fin) hd
    · exact wpAny_Name (wpAny_loadName_free I.ok.kind hk hc hcell fin hcd) hd
theorem pe_int {i j pos} : PE X (.Constant (.int i) j pos) (tC (.int i)) := fun _ _ _ H _ I h => wpAny_Constant_int ⟨.int i, H, I.tok _, ⟨_, rfl⟩, h⟩
theorem pe_bl {b j pos} : PE X (.Constant (.bool b) j pos) (tC (.bl b)) := fun _ _ _ H _ I h => Constant_bool ⟨.bl b, H, I, rfl, h⟩
theorem pe_non {j pos} : PE X (.Constant .none j pos) (tC .non) := fun _ _ _ H _ I h => Constant_none ⟨.non, H, I, rfl, h⟩
theorem pe_str {x j pos} : PE X (.Constant (.str x) j pos) (tC (.str x)) := fun _ _ _ H _ I h => Calls.Constant_str ⟨.str x, H, I.tok _, ⟨_, rfl⟩, h⟩
noncomputable def Gl (X : Cx) (x : Str) : Prop := X.env.kindOf x = some .globalImplicit
theorem ld_glob {E : Value → Shared → Prop} {pins : List (Addr × Obj)} {s : Shared} {σ : St} {H : Hp} {x : Str} {u : Value} {pos : Pos} {Q : Value → Shared → Prop} (I : Inv X pins σ H s) (hg : Gl X x) (hm : X.mg x = some u) (h : Q u s)
    (hd : (x == ("__debug__" : Str)) = false := by decide) : wpAny (model X.prog X.w) X.A (eval (.Name x pos) X.env) Q E s :=
  Calls.Name_function_global I.ok.kind hg (Calls.loadGlobal_global (by rw [I.ok.glob]; exact I.mod.glob.keeps I.bk) hm h) hd
theorem ld_blt {E : Value → Shared → Prop} {pins : List (Addr × Obj)} {s : Shared} {σ : St} {H : Hp} {x : Str} {u : Value} {pos : Pos} {Q : Value → Shared → Prop} (I : Inv X pins σ H s) (hg : Gl X x) (hm : X.mg x = none) (hv : bootBuiltins x = some u) (h : Q u s)
    (hn : x ≠ "__name__" := by decide) (hd : (x == ("__debug__" : Str)) = false := by decide) : wpAny (model X.prog X.w) X.A (eval (.Name x pos) X.env) Q E s := by
  obtain ⟨mb, h1, h2⟩ := I.mod.blt
  exact Calls.Name_function_global I.ok.kind hg (Calls.loadGlobal_builtin (by rw [I.ok.glob]; exact I.mod.glob.keeps I.bk) hm (by rw [I.ok.blt]; exact h1.keeps I.bk) ((h2 x hn).trans hv) h) hd
theorem pe_glob {x : Str} {v : V} {u : Value} {pos : Pos} (hg : Gl X x) (hm : X.mg x = some u) (r : RelV v u) (hd : (x == ("__debug__" : Str)) = false := by decide) : PE X (.Name x pos) (tC v) :=
  fun _ _ _ H _ I h => ld_glob I hg hm ⟨v, H, I, r, h⟩ hd
theorem pe_bltn {x : Str} {v : V} {u : Value} {pos : Pos} (hg : Gl X x) (hm : X.mg x = none) (hv : bootBuiltins x = some u) (r : RelV v u) (hn : x ≠ "__name__" := by decide) (hd : (x == ("__debug__" : Str)) = false := by decide) : PE X (.Name x pos) (tC v) :=
  fun _ _ _ H _ I h => ld_blt I hg hm hv ⟨v, H, I, r, h⟩ hn hd
variable {a b : Expr} {ta tb : TE} {pos : Pos}
noncomputable def tB (t : TE) : TT := fun σ H Q => t σ H fun x H1 => ∃ c, x = .bl c ∧ Q c H1
theorem pt_val {e : Expr} {t : TE} (h : PE X e t) (he : ∀ whole, isTrue e X.env whole = (do let v ← whole; standAt e.pos; holding [v] (truthy v)) := by intro _; rfl) : PT X e (tB t) := by
  intro pins s σ H Q I hw
  refine isTrue_plain (thn (h pins s σ H _ I hw) fun v s1 ⟨x, H1, I1, r1, q1⟩ => ?_) (he _)
  obtain ⟨d, rfl, q⟩ := q1
  cases r1
  exact wpAny_truthy_bool ⟨H1, I1, q⟩
variable {tA tB' : TT} {rest : List Expr}
noncomputable def tAnd (t u : TT) : TT := fun σ H Q => t σ H fun c H1 => if c = true then u σ H1 Q else Q false H1
noncomputable def tOr (t u : TT) : TT := fun σ H Q => t σ H fun c H1 => if c = true then Q true H1 else u σ H1 Q
noncomputable def tNot (t : TT) : TT := fun σ H Q => t σ H fun c H1 => Q (!c) H1
theorem pw_and1 (ha : PT X a tA) : PW X (.BoolOp .And [a] pos) tA := by
  intro wh pins s σ H Q I h
  refine isTrue_and (thn (ha pins s σ H Q I h) fun c s1 e => ?_)
  cases c with
  | true => exact isTrue_and_nil e
  | false => exact e
theorem pw_or1 (ha : PT X a tA) : PW X (.BoolOp .Or [a] pos) tA := by
  intro wh pins s σ H Q I h
  refine isTrue_or (thn (ha pins s σ H Q I h) fun c s1 e => ?_)
  cases c with
  | false => exact isTrue_or_nil e
  | true => exact e
theorem pw_and (ha : PT X a tA) (hb : PW X (.BoolOp .And (b :: rest) pos) tB') : PW X (.BoolOp .And (a :: b :: rest) pos) (tAnd tA tB') := by
  intro wh pins s σ H Q I h
  refine isTrue_and (thn (ha pins s σ H _ I h) fun c s1 ⟨H1, I1, q1⟩ => ?_)
  cases c with
  | true => exact hb wh pins s1 σ H1 Q I1 q1
  | false => exact ⟨H1, I1, q1⟩
theorem pw_or (ha : PT X a tA) (hb : PW X (.BoolOp .Or (b :: rest) pos) tB') : PW X (.BoolOp .Or (a :: b :: rest) pos) (tOr tA tB') := by
  intro wh pins s σ H Q I h
  refine isTrue_or (thn (ha pins s σ H _ I h) fun c s1 ⟨H1, I1, q1⟩ => ?_)
  cases c with
  | true => exact ⟨H1, I1, q1⟩
  | false => exact hb wh pins s1 σ H1 Q I1 q1
theorem pt_not (ha : PT X a tA) : PT X (.UnaryOp .Not a pos) (tNot tA) := by
  intro pins s σ H Q I h
  exact isTrue_not (ha pins s σ H (fun c H1 => Q (!c) H1) I h)
noncomputable def tAndV (ta tb : TE) : TE := fun σ H Q => ta σ H fun x H1 => ∃ c, x = .bl c ∧ if c = true then tb σ H1 Q else Q (.bl false) H1
noncomputable def tNotV (ta : TE) : TE := fun σ H Q => ta σ H fun x H1 => ∃ c, x = .bl c ∧ Q (.bl (!c)) H1
theorem pe_one {op} {t : TE} (h : PE X a t) : PE X (.BoolOp op [a] pos) t := fun pins s σ H Q I hw => BoolOp_one (h pins s σ H Q I hw)
theorem pe_and (ha : PE X a ta) (hb : PE X (.BoolOp .And (b :: rest) pos) tb) : PE X (.BoolOp .And (a :: b :: rest) pos) (tAndV ta tb) := by
  intro pins s σ H Q I h
  refine BoolOp_and (thn (ha pins s σ H _ I h) fun v s1 ⟨x, H1, I1, r1, q1⟩ => ?_)
  obtain ⟨c, rfl, q1⟩ := q1
  cases r1
  refine wpAny_truthy_bool ?_
  cases c with
  | true => exact hb pins s1 σ H1 Q I1 q1
  | false => exact ⟨.bl false, H1, I1, rfl, q1⟩
theorem pe_not (ha : PE X a ta) : PE X (.UnaryOp .Not a pos) (tNotV ta) := by
  intro pins s σ H Q I h
  refine UnaryOp_ (thn (ha pins s σ H _ I h) fun v s1 ⟨x, H1, I1, r1, q1⟩ => ?_)
  obtain ⟨c, rfl, q1⟩ := q1
  cases r1
  exact not_of (wpAny_truthy_bool ⟨.bl (!c), H1, I1, rfl, q1⟩)
end
end L2
namespace L2
open PySem PySem.Spec PyProof.Rows
noncomputable def SqL (K : PySem.W.Frag) (H : Hp) (a : Addr) (xs : List V) : Prop :=
  Rd H a (.lst xs) ∨
    ∃ (o : Obj) (its : Array Value) (n : Nat), K.lookup a = some o ∧ o.cls = .type "list" ∧ o.dict = none ∧ o.data = .seq its n ∧ its.size ≤ sizeLine ∧ Vals xs its.toList
noncomputable def SqT (K : PySem.W.Frag) (H : Hp) (a : Addr) (xs : List V) : Prop :=
  Rd H a (.tup xs) ∨
    ∃ (o : Obj) (its : Array Value) (n : Nat), K.lookup a = some o ∧ o.cls = .type "tuple" ∧ o.data = .seq its n ∧ its.size ≤ sizeLine ∧ Vals xs its.toList
noncomputable def absV : Value → Option V
  | .none => some .non
  | .bool b => some (.bl b)
  | .int i _ => some (.int i)
  | .str x _ => some (.str x)
  | .bytes b _ => some (.byt b)
  | .float b _ => some (.flt b)
  | .ref a => some (.ref a)
  | .type n => some (.ty n)
  | _ => none
theorem RelV.abs {x : V} {u : Value} (r : RelV x u) : absV u = some x := by
  cases x with
  | non => cases r; rfl
  | bl _ => cases r; rfl
  | int _ => obtain ⟨t, rfl⟩ := r; rfl
  | str _ => obtain ⟨t, rfl⟩ := r; rfl
  | byt _ => obtain ⟨t, rfl⟩ := r; rfl
  | flt _ => obtain ⟨t, rfl⟩ := r; rfl
  | ref _ => cases r; rfl
  | ty _ => cases r; rfl
theorem RelV.inj {x y : V} {u : Value} (r : RelV x u) (q : RelV y u) : x = y := Option.some.inj (r.abs.symm.trans q.abs)
theorem Vals.inj : ∀ {xs ys : List V} {us : List Value}, Vals xs us → Vals ys us → xs = ys
  | _, _, _, .nil, .nil => rfl
  | _, _, _, .cons r t, .cons r' t' => by rw [r.inj r', Vals.inj t t']
section
variable {X : Cx} {pins : List (Addr × Obj)} {σ : St} {H : Hp} {s : Shared} {a : Addr} {xs ys : List V}
theorem Inv.list (I : Inv X pins σ H s) (h : SqL X.K H a xs) : ∃ its : List Value, Vals xs its ∧ PlainL s.heap a its.toArray ∧ xs.length ≤ sizeLine := by
  rcases h with h | ⟨o, its, n, hk, hc, hd, hs, hz, r⟩
  · obtain ⟨z, its, n, r, e⟩ := h.ok I.hok
    exact ⟨its, r, ⟨_, n, e, rfl, rfl, rfl⟩, z⟩
  · refine ⟨its.toList, r, ⟨o, n, I.kIn a o hk, hc, hd, by simpa using hs⟩, ?_⟩
    have e := r.length
    simp only [Array.length_toList] at e
    omega
theorem Inv.tuple (I : Inv X pins σ H s) (h : SqT X.K H a xs) : ∃ its : List Value, Vals xs its ∧ IsTup s.heap a its.toArray ∧ xs.length ≤ sizeLine := by
  rcases h with h | ⟨o, its, n, hk, hc, hs, hz, r⟩
  · obtain ⟨z, its, r, p⟩ := h.ok I.hok
    exact ⟨its, r, p, z⟩
  · refine ⟨its.toList, r, ⟨o, I.kIn a o hk, hc, n, by simpa using hs⟩, ?_⟩
    have e := r.length
    simp only [Array.length_toList] at e
    omega
theorem Inv.list_inj (I : Inv X pins σ H s) (h : SqL X.K H a xs) (h' : SqL X.K H a ys) : xs = ys := by
  obtain ⟨its, r, ⟨o, n, e, _, _, d⟩, _⟩ := I.list h
  obtain ⟨its', r', ⟨o', n', e', _, _, d'⟩, _⟩ := I.list h'
  rw [e] at e'; cases e'
  rw [d] at d'
  injection d' with d1 _
  have : its = its' := by simpa using congrArg Array.toList d1
  subst this
  exact r.inj r'
end
noncomputable abbrev Cx.wish (X : Cx) (E : Value → Shared → Prop) : Cx := { X with xe := E }
noncomputable abbrev Cx.nox (X : Cx) : Cx := X.wish fun _ _ => False
theorem Cx.Ok.wish {X : Cx} (ok : X.Ok) (E : Value → Shared → Prop) : (X.wish E).Ok :=
  ⟨ok.mod, ok.kind, ok.glob, ok.blt, ok.above, ok.inj, ok.has, ok.cab, ok.hd, ok.frames, ok.stk, ok.exf, ok.bs, ok.bsz, ok.noex, ok.exfs, ok.funs, ok.frf⟩
theorem Cx.Ok.unwish {X : Cx} {E : Value → Shared → Prop} (ok : (X.wish E).Ok) : X.Ok :=
  ⟨ok.mod, ok.kind, ok.glob, ok.blt, ok.above, ok.inj, ok.has, ok.cab, ok.hd, ok.frames, ok.stk, ok.exf, ok.bs, ok.bsz, ok.noex, ok.exfs, ok.funs, ok.frf⟩
section
variable {X : Cx} {pins : List (Addr × Obj)} {σ : St} {H : Hp} {s : Shared} {E : Value → Shared → Prop}
theorem Inv.wish (I : Inv X pins σ H s) (E : Value → Shared → Prop) : Inv (X.wish E) pins σ H s := ⟨I.ok.wish E, I.os, I.bare, I.base, I.loc, I.cell, I.free, I.freeC, I.pin, I.hok, I.len⟩
theorem Inv.unwish (I : Inv (X.wish E) pins σ H s) : Inv X pins σ H s := ⟨I.ok.unwish, I.os, I.bare, I.base, I.loc, I.cell, I.free, I.freeC, I.pin, I.hok, I.len⟩
theorem SP.unwish {D : Ends} {f : Flow} {s' : Shared} (h : SP (X.wish E) pins D f s') : SP X pins D f s' := by
  cases f with
  | next => obtain ⟨σ', H', I, q⟩ := h; exact ⟨σ', H', I.unwish, q⟩
  | brk => obtain ⟨σ', H', I, q⟩ := h; exact ⟨σ', H', I.unwish, q⟩
  | cont => obtain ⟨σ', H', I, q⟩ := h; exact ⟨σ', H', I.unwish, q⟩
  | ret u => obtain ⟨v, σ', H', I, r, q⟩ := h; exact ⟨v, σ', H', I.unwish, r, q⟩
theorem PSs.nox {st : List Stmt} {t : TS} (h : PSs X.nox st t) : PSs X st t := fun pins s σ H D I hw =>
  wpAny_mono (h pins s σ H D (I.wish _) hw) (fun _ _ q => q.unwish) fun _ _ z => False.elim z
end
section
variable {X : Cx} {st : Stmt} {rest : List Stmt} {t u : TS} {e : Expr} {te : TE} {pos : Pos}
noncomputable def tNext : TS := fun D σ H => D.nx σ H
noncomputable def tSeq (t u : TS) : TS := fun D σ H => t { D with nx := u D } σ H
theorem pss_nil : PSs X [] tNext := fun _ _ σ H _ I h => wpAny_execs_nil ⟨σ, H, I, h⟩
theorem pss_cons (h1 : PS X st t) (h2 : PSs X rest u) : PSs X (st :: rest) (tSeq t u) := by
  intro pins s σ H D I h
  refine wpAny_execs_cons (thn (h1 pins s σ H { D with nx := u D } I h) fun f s1 q => ?_)
  cases f with
  | next =>
    obtain ⟨σ', H', I', q⟩ := q
    exact h2 pins s1 σ' H' D I' q
  | ret v => exact q
  | brk => exact q
  | cont => exact q
theorem pss_one (h1 : PS X st t) : PSs X [st] t := by
  intro pins s σ H D I h
  refine wpAny_execs_cons (thn (h1 pins s σ H D I h) fun f s1 q => ?_)
  cases f with
  | next => exact wpAny_execs_nil q
  | ret v => exact q
  | brk => exact q
  | cont => exact q
theorem Inv.quiet {pins : List (Addr × Obj)} {σ : St} {H : Hp} {s : Shared} (I : Inv X pins σ H s) : interactive X.env = false := by simp [interactive, I.ok.kind]
noncomputable def tDrop (te : TE) : TS := fun D σ H => te σ H fun _ H1 => D.nx σ H1
theorem ps_expr (he : PE X e te) (hs : swapsWith e none pos.line X.env = pure false := by rfl) : PS X (.Expr e pos) (tDrop te) := by
  intro pins s σ H D I h
  exact wpAny_Expr_any (thn (he pins s σ H _ I h) fun v s1 ⟨x, H1, I1, r1, q1⟩ => ⟨σ, H1, I1, q1⟩) I.quiet hs
noncomputable def tRet (te : TE) : TS := fun D σ H => te σ H D.rt
theorem ps_ret (he : PE X e te) : PS X (.Return (some e) pos) (tRet te) := by
  intro pins s σ H D I h
  exact wpAny_Return_some (thn (he pins s σ H _ I h) fun v s1 ⟨x, H1, I1, r1, q1⟩ => ⟨x, σ, H1, I1, r1, q1⟩)
noncomputable def tIfS (c : TT) (t u : TS) : TS := fun D σ H => c σ H fun b H1 => if b = true then t D σ H1 else u D σ H1
theorem ps_if {c : Expr} {a b : List Stmt} {tc : TT} (hc : PT X c tc) (ha : PSs X a t) (hb : PSs X b u) : PS X (.If c a b pos) (tIfS tc t u) := by
  intro pins s σ H D I h
  refine wpAny_If (thn (hc pins s σ H _ I h) fun d s1 ⟨H1, I1, q1⟩ => ?_)
  cases d with
  | true => exact ha pins s1 σ H1 D I1 q1
  | false => exact hb pins s1 σ H1 D I1 q1
end
noncomputable abbrev TG := V → St → Hp → (St → Hp → Prop) → Prop
noncomputable abbrev TGs := List V → St → Hp → (St → Hp → Prop) → Prop
noncomputable def PG (X : Cx) (target : Expr) (t : TG) : Prop :=
  ∀ (pins : List (Addr × Obj)) (s : Shared) (σ : St) (H : Hp) (v : V) (u : Value) (Q : St → Hp → Prop), Inv X pins σ H s → RelV v u → t v σ H Q →
    wpAny (model X.prog X.w) X.A (assign target X.env u) (fun _ s' => ∃ σ' H', Inv X pins σ' H' s' ∧ Q σ' H') X.xe s
noncomputable def PGs (X : Cx) (ts : List Expr) (t : TGs) : Prop :=
  ∀ (pins : List (Addr × Obj)) (s : Shared) (σ : St) (H : Hp) (vs : List V) (us : List Value) (Q : St → Hp → Prop), Inv X pins σ H s → Vals vs us → t vs σ H Q →
    wpAny (model X.prog X.w) X.A (assignInOrder ((assignEach ts X.env).map (·.2)) us) (fun _ s' => ∃ σ' H', Inv X pins σ' H' s' ∧ Q σ' H') X.xe s
noncomputable abbrev TSet := V → V → V → Hp → (Hp → Prop) → Prop
noncomputable def PSet (X : Cx) (t : TSet) : Prop :=
  ∀ (pins : List (Addr × Obj)) (s : Shared) (σ : St) (H : Hp) (o i v : V) (ov iv u : Value) (Q : Hp → Prop), Inv X pins σ H s → RelV o ov → RelV i iv → RelV v u → t o i v H Q →
    wpAny (model X.prog X.w) X.A (setItem ov iv u) (fun _ s' => ∃ H', Inv X pins σ H' s' ∧ Q H') X.xe s
noncomputable abbrev TIp := V → V → Hp → VK → Prop
noncomputable def PIp (X : Cx) (op : Operator) (t : TIp) : Prop :=
  ∀ (pins : List (Addr × Obj)) (s : Shared) (σ : St) (H : Hp) (x y : V) (v u : Value) (Q : VK), Inv X pins σ H s → RelV x v → RelV y u → t x y H Q →
    wpAny (model X.prog X.w) X.A (inplaceOp op v u) (EP X pins σ Q) X.xe s
section
variable {X : Cx} {pos : Pos}
noncomputable def gName (i : Nat) : TG := fun v σ H Q => Q (σ.set i (some v)) H
theorem pg_name {i : Nat} {x : Str} (hN : X.N.Nodup) (hi : X.N[i]? = some x) (hx : Loc X.env.scope x) (hf : X.fn x = true ∨ X.env.scope.names.lookup x = some .local := by first | exact .inl rfl | exact .inr rfl | assumption) : PG X (.Name x pos) (gName i) := by
  intro pins s σ H v u Q I r h
  exact wpAny_assign_Name (store_ok I hN hi hx r (fun s' I' => ⟨_, H, I', h⟩) hf)
noncomputable def gNil : TGs := fun vs σ H Q => vs = [] ∧ Q σ H
noncomputable def gCons (t : TG) (u : TGs) : TGs := fun vs σ H Q => ∃ v r, vs = v :: r ∧ t v σ H fun σ' H' => u r σ' H' Q
theorem pgs_nil : PGs X [] gNil := by
  intro pins s σ H vs us Q I r h
  obtain ⟨e, h⟩ := h
  subst e
  cases r
  exact assignInOrder_nil ⟨σ, H, I, h⟩
theorem pgs_cons {e : Expr} {es : List Expr} {t : TG} {u : TGs} (h1 : PG X e t) (h2 : PGs X es u)
    (hs : (assignEach (e :: es) X.env).map (·.2) = assign e X.env :: (assignEach es X.env).map (·.2) := by rfl) : PGs X (e :: es) (gCons t u) := by
  intro pins s σ H vs us Q I r h
  obtain ⟨v, vr, e1, h⟩ := h
  subst e1
  cases r with
  | cons r rr =>
    rw [hs]
    refine assignInOrder_cons (thn (h1 pins s σ H _ _ _ I r h) fun _ s1 ⟨σ1, H1, I1, q1⟩ => ?_)
    exact h2 pins s1 σ1 H1 _ _ Q I1 rr q1
noncomputable def gTup (K : PySem.W.Frag) (n : Nat) (t : TGs) : TG := fun v σ H Q => ∃ a xs, v = .ref a ∧ SqT K H a xs ∧ xs.length = n ∧ t xs σ H Q
theorem pg_tup {es : List Expr} {k : Nat} {t : TGs} {n : Nat} (hc : X.calm = true) (h : PGs X es t)
    (hn : (assignEach es X.env).length = n := by rfl) (hst : (assignEach es X.env).findIdx? (·.1) = none := by rfl) : PG X (.Tuple es k pos) (gTup X.K n t) := by
  intro pins s σ H v u Q I r hw
  obtain ⟨a, xs, e1, hq, hl, hw⟩ := hw
  subst e1
  cases r
  obtain ⟨its, rv, ht, hz⟩ := I.tuple hq
  refine assign_Tuple_tuple (I.ok.hd hc) ht (by simp [hn, ← hl, rv.length]) hst fun h' hx => ?_
  have I1 : Inv X pins σ H { s with heap := h' } := I.kept (t' := s.toks) fun b o e => hx b o (Nat.ne_of_lt (Heap.lt_size e)) e
  exact h pins _ σ H xs _ Q I1 (by simpa using rv) hw
noncomputable def gSub (to ti : TE) (t : TSet) : TG := fun v σ H Q => to σ H fun o H1 => ti σ H1 fun i H2 => t o i v H2 fun H3 => Q σ H3
theorem pg_sub {o i : Expr} {to ti : TE} {t : TSet} (ho : PE X o to) (hi : PE X i ti) (hs : PSet X t)
    (ha : ∀ v, assign (.Subscript o i pos) X.env v = (do
      let ov ← holding [v] (eval o X.env)
      let iv ← holding [v, ov] (eval i X.env)
      standAt pos
      holding [v, ov, iv] (setItem ov iv v)
      release [v, ov, iv] []) := by intro _; rfl) : PG X (.Subscript o i pos) (gSub to ti t) := by
  intro pins s σ H v u Q I r h
  rw [ha]
  refine wpAny_bind (wpAny_holding (thn (ho pins s σ H _ I h) fun ov s1 ⟨x, H1, I1, r1, q1⟩ => ?_))
  refine wpAny_bind (wpAny_holding (thn (hi pins s1 σ H1 _ I1 q1) fun iv s2 ⟨y, H2, I2, r2, q2⟩ => ?_))
  refine wpAny_bind (wpAny_standAt (wpAny_bind (wpAny_holding (thn (hs pins s2 σ H2 x y v ov iv u _ I2 r1 r2 r q2) fun _ s3 ⟨H3, I3, q3⟩ => ?_))))
  exact wpAny_release ⟨σ, H3, I3, q3⟩
noncomputable def tAsg (te : TE) (g : TG) : TS := fun D σ H => te σ H fun x H1 => g x σ H1 D.nx
theorem ps_asg {tg e : Expr} {te : TE} {g : TG} (he : PE X e te) (hg : PG X tg g) (hs : swapsWithSole [tg] e pos.line X.env = pure false := by rfl) (hw : swappedStores [tg] e X.env = pure none := by rfl)
    (h1 : (assignEach [tg] X.env).map (·.2) = [assign tg X.env] := by rfl) : PS X (.Assign [tg] e pos) (tAsg te g) := by
  intro pins s σ H D I h
  refine wpAny_Assign_stores (thn (he pins s σ H _ I h) fun v s1 ⟨x, H1, I1, r1, q1⟩ => ?_) hs hw
  rw [h1]
  exact thn (hg pins s1 σ H1 x v _ I1 r1 q1) fun _ s2 q => q
theorem ps_set {i : Nat} {x : Str} {e : Expr} {te : TE} {pos' : Pos} (hN : X.N.Nodup) (hi : X.N[i]? = some x) (hx : Loc X.env.scope x) (he : PE X e te) (hs : swapsWith e (some (.Name x pos')) pos.line X.env = pure false := by rfl) (hf : X.fn x = true ∨ X.env.scope.names.lookup x = some .local := by first | exact .inl rfl | exact .inr rfl | assumption) :
    PS X (.Assign [.Name x pos'] e pos) (tAsg te (gName i)) := by
  intro pins s σ H D I h
  refine wpAny_Assign_Name (thn (he pins s σ H _ I h) fun v s1 ⟨y, H1, I1, r1, q1⟩ => ?_) hs
  exact store_ok I1 hN hi hx r1 (fun s2 I2 => ⟨_, H1, I2, q1⟩) hf
noncomputable def tAugS (to ti te : TE) (tget : V → V → Hp → VK → Prop) (tip : TIp) (tset : TSet) : TS := fun D σ H => to σ H fun o H1 => ti σ H1 fun i H2 => tget o i H2 fun x H3 => te σ H3 fun y H4 => tip x y H4 fun z H5 => tset o i z H5 fun H6 => D.nx σ H6
noncomputable def PGet (X : Cx) (t : V → V → Hp → VK → Prop) : Prop :=
  ∀ (pins : List (Addr × Obj)) (s : Shared) (σ : St) (H : Hp) (o i : V) (ov iv : Value) (Q : VK), Inv X pins σ H s → RelV o ov → RelV i iv → t o i H Q →
    wpAny (model X.prog X.w) X.A (getItem ov iv) (EP X pins σ Q) X.xe s
theorem ps_augS {o i e : Expr} {to ti te : TE} {tget : V → V → Hp → VK → Prop} {tip : TIp} {tset : TSet} {op : Operator} {tpos : Pos} (ho : PE X o to) (hi : PE X i ti) (hg : PGet X tget) (he : PE X e te) (hp : PIp X op tip) (hs : PSet X tset)
    (ha : ∀ ov iv new, augStore i ov iv new = (do holding [new, ov, iv] (setItem ov iv new); release [new, ov, iv] []; pure .next) := by intros; rfl) : PS X (.AugAssign (.Subscript o i tpos) op e pos) (tAugS to ti te tget tip tset) := by
  intro pins s σ H D I h
  refine wpAny_AugAssign_SubscriptAny (thn (ho pins s σ H _ I h) fun ov s1 ⟨x1, H1, I1, r1, q1⟩ => ?_) ha
  refine thn (hi pins s1 σ H1 _ I1 q1) fun iv s2 ⟨x2, H2, I2, r2, q2⟩ => ?_
  refine thn (hg pins s2 σ H2 x1 x2 ov iv _ I2 r1 r2 q2) fun old s3 ⟨x3, H3, I3, r3, q3⟩ => ?_
  refine thn (he pins s3 σ H3 _ I3 q3) fun v s4 ⟨x4, H4, I4, r4, q4⟩ => ?_
  refine thn (hp pins s4 σ H4 x3 x4 old v _ I4 r3 r4 q4) fun new s5 ⟨x5, H5, I5, r5, q5⟩ => ?_
  exact thn (hs pins s5 σ H5 x1 x2 x5 ov iv new _ I5 r1 r2 r5 q5) fun _ s6 ⟨H6, I6, q6⟩ => ⟨σ, H6, I6, q6⟩
noncomputable def ipI (f : Int → Int → Int) : TIp := fun x y H Q => ∃ i j, x = .int i ∧ y = .int j ∧ Q (.int (f i j)) H
theorem ip_sub : PIp X .Sub (ipI fun i j => i - j) := by
  intro pins s σ H x y v u Q I r1 r2 h
  obtain ⟨i, j, e1, e2, q⟩ := h
  subst e1; subst e2
  obtain ⟨t, rfl⟩ := r1
  obtain ⟨t', rfl⟩ := r2
  exact isub_int ⟨.int _, H, I.tok _, ⟨_, rfl⟩, q⟩
end
section
variable {X : Cx} {pos : Pos}
noncomputable def tWhile (c : TT) (tb : TS) : TS := fun D σ H => ∃ W : Nat → St → Hp → Prop, (∃ m, W m σ H) ∧ ∀ m σ H, W m σ H →
  c σ H fun b H1 => if b = true then ∃ N : St → Hp → Prop, (∀ σ' H', N σ' H' → ∃ m', m' < m ∧ W m' σ' H') ∧ tb { D with nx := N, ct := N, bk := D.nx } σ H1 else D.nx σ H1
theorem ps_while {c : Expr} {body : List Stmt} {tc : TT} {tb : TS} (hp : PassesOwn (model X.prog X.w) X.A X.env X.xe) (hc : PT X c tc) (hb : PSs X body tb) : PS X (.While c body [] pos) (tWhile tc tb) := by
  intro pins s σ H D I h
  obtain ⟨W, ⟨m0, w0⟩, turn⟩ := h
  refine wpAny_While (codeAny_whileLoop (fun n s' => ∃ σ' H', Inv X pins σ' H' s' ∧ W n σ' H') ?_ m0 ⟨σ, H, I, w0⟩)
  rintro n s1 ⟨σ1, H1, I1, w1⟩
  refine wpAny_passesOwn hp (thn (hc pins s1 σ1 H1 _ I1 (turn n σ1 H1 w1)) fun b s2 ⟨H2, I2, q2⟩ => ?_)
  cases b with
  | true =>
    obtain ⟨N, hN, q2⟩ := q2
    rw [if_pos rfl]
    refine wpAny_passesOwn hp (thn (hb pins s2 σ1 H2 _ I2 q2) fun f s3 q3 => ?_)
    cases f with
    | next =>
      obtain ⟨σ3, H3, I3, n3⟩ := q3
      obtain ⟨m', hm, w3⟩ := hN σ3 H3 n3
      exact ⟨m', hm, σ3, H3, I3, w3⟩
    | cont =>
      obtain ⟨σ3, H3, I3, n3⟩ := q3
      obtain ⟨m', hm, w3⟩ := hN σ3 H3 n3
      exact ⟨m', hm, σ3, H3, I3, w3⟩
    | brk => exact q3
    | ret v => exact q3
  | false =>
    rw [if_neg Bool.false_ne_true]
    exact wpAny_execs_nil ⟨σ1, H2, I2, q2⟩
end
structure It where
  go : Nat → Hp → Prop
  yld : Nat → Hp → V → Hp → Prop
  stop : Nat → Hp → Prop
noncomputable def FpOk (X : Cx) (pins : List (Addr × Obj)) (H : Hp) (b : Addr) : Prop :=
  H b = none ∧ b ≠ X.env.locals ∧ b ∉ X.fs ∧ (b ∈ X.ex ∨ X.s₀.heap.objs.size ≤ b) ∧ (∀ x c, X.env.cells.lookup x = some c → c ≠ b) ∧ ∀ p ∈ X.pn ++ pins, p.1 ≠ b
theorem Inv.fpOk {X : Cx} {pins : List (Addr × Obj)} {σ : St} {H H' : Hp} {s : Shared} {b : Addr} (I : Inv X pins σ H s) (hb : s.heap.objs.size ≤ b) (hn : H' b = none) : FpOk X pins H' b := by
  refine ⟨hn, Nat.ne_of_gt (Nat.lt_of_lt_of_le I.lt hb), I.nofs hb, .inr (Nat.le_trans I.sz hb), fun x c e z => ?_, fun p hp z => ?_⟩
  · obtain ⟨v, q⟩ := I.cell x c e
    exact absurd (Nat.lt_of_lt_of_le q.lt (by rw [z]; exact hb)) (Nat.lt_irrefl _)
  · exact absurd (Nat.lt_of_lt_of_le (Heap.lt_size (I.pin p hp).1) (by rw [z]; exact hb)) (Nat.lt_irrefl _)
structure Turn (P : Program) (w : World) (K : PySem.W.Frag) (tg : Expr) (J : It) (fp : List Addr) (it : Addr) (tn : Nat → Heap → Prop) : Prop where
  mem : it ∈ fp
  obj : ∀ i h, tn i h → ∀ b ∈ fp, ∃ o, h.get? b = some o ∧ ∀ v, o.data ≠ .cell v
  keep : ∀ i h h', tn i h → (∀ b ∈ fp, ∀ o, h.get? b = some o → h'.get? b = some o) → tn i h'
  item : ∀ (X : Cx), X.prog = P → X.w = w → X.K = K → X.calm = true → ∀ (i : Nat) (pins : List (Addr × Obj)) (s : Shared) (σ : St) (H : Hp) (E : Value → Shared → Prop), Inv X pins σ H s → (∀ b ∈ fp, FpOk X pins H b) → tn i s.heap → J.go i H →
    wpAny (model P w) X.A (pyNext (.ref it)) (fun r s1 => ∃ u, r = some u ∧
      wpAny (model P w) X.A (letOwnedTupleGo tg (.ref it) u) (fun _ s2 => ∃ x H', Inv X pins σ H' s2 ∧ RelV x u ∧ J.yld i H x H' ∧ tn (i + 1) s2.heap ∧ ∀ b ∈ fp, H' b = none) E s1) E s
  done : ∀ (X : Cx), X.prog = P → X.w = w → X.K = K → X.calm = true → ∀ (i : Nat) (pins : List (Addr × Obj)) (s : Shared) (σ : St) (H : Hp) (E : Value → Shared → Prop), Inv X pins σ H s → (∀ b ∈ fp, FpOk X pins H b) → tn i s.heap → J.stop i H →
    wpAny (model P w) X.A (pyNext (.ref it)) (fun r s1 => r = none ∧ Inv X pins σ H s1) E s
  self : ∀ (A : Around) (i : Nat) (s : Shared) (Q : Value → Shared → Prop) (E : Value → Shared → Prop), tn i s.heap → Q (.ref it) s → wpAny (model P w) A (pyIter (.ref it)) Q E s
noncomputable abbrev TI := St → Hp → (It → Hp → Prop) → Prop
noncomputable def PIE (X : Cx) (pins : List (Addr × Obj)) (σ : St) (tg : Expr) (R : It → Hp → Prop) (itv : Value) (s2 : Shared) : Prop :=
  ∃ (it : Addr) (fp : List Addr) (tn : Nat → Heap → Prop) (J : It) (H' : Hp), itv = .ref it ∧ Inv X pins σ H' s2 ∧ Turn X.prog X.w X.K tg J fp it tn ∧ tn 0 s2.heap ∧ (∀ b ∈ fp, FpOk X pins H' b) ∧ R J H'
noncomputable def PI (X : Cx) (tg iter : Expr) (wi : TI) : Prop :=
  ∀ (pins : List (Addr × Obj)) (s : Shared) (σ : St) (H : Hp) (R : It → Hp → Prop), Inv X pins σ H s → wi σ H R →
    wpAny (model X.prog X.w) X.A (eval iter X.env) (fun v s1 => wpAny (model X.prog X.w) X.A (pyIter v) (PIE X pins σ tg R) X.xe s1) X.xe s
theorem go_of {M : Model} {A : Around} {E : Value → Shared → Prop} {s : Shared} {tg : Expr} {it : Addr} {u : Value} {o : Obj} {n : String} {vs : Array Value} {Q : Unit → Shared → Prop} (ho : s.heap.get? it = some o) (hc : o.cls = .type n) (hd : o.data = .fields vs)
    (hn : ["enumerate", "zip", "dict_itemiterator", "dict_reverseitemiterator", "odict_iterator", "itertools.zip_longest", "itertools.pairwise"].contains n = false) (hQ : Q () s) : wpAny M A (letOwnedTupleGo tg (.ref it) u) Q E s := by
  unfold letOwnedTupleGo
  cases tg <;> first
    | exact wpAny_pure hQ
    | (cases u <;> first
        | exact wpAny_pure hQ
        | (refine wpAny_bind (wpAny_load ho ?_)
           rw [hc, hd]
           show wpAny M A (if (["enumerate", "zip", "dict_itemiterator", "dict_reverseitemiterator", "odict_iterator", "itertools.zip_longest", "itertools.pairwise"].contains n && vs[0]? == some (rawInt _)) = true then _ else _) Q E s
           rw [if_neg (by intro h; rw [hn, Bool.false_and] at h; cases h)]
           exact wpAny_pure hQ))
noncomputable def Itl (K : PySem.W.Frag) (a : Addr) : It :=
  ⟨fun i H => ∃ xs x, SqL K H a xs ∧ xs[i]? = some x, fun i H x H' => H' = H ∧ ∀ xs, SqL K H a xs → xs[i]? = some x, fun i H => ∃ xs, SqL K H a xs ∧ xs.length ≤ i⟩
noncomputable def Itr (lo : Int) (n : Nat) : It := ⟨fun i _ => i < n, fun i H x H' => H' = H ∧ x = .int (lo + i), fun i _ => n ≤ i⟩
theorem turn_list {P : Program} {w : World} {K : PySem.W.Frag} {tg : Expr} (a it : Addr) : Turn P w K tg (Itl K a) [it] it (fun i h => h.IsListIter it a i) where
  mem := by simp
  obj := fun i h st b hb => by
    have e : b = it := by simpa using hb
    subst e
    obtain ⟨o, e, c, d⟩ := st
    exact ⟨o, e, fun v z => by rw [d] at z; cases z⟩
  keep := fun i h h' st k => st.at fun o e => k it (by simp) o e
  item := by
    intro X hP hw hK hc i pins s σ H E I hf st hg
    subst hP hw hK
    obtain ⟨xs, x, hq, hx⟩ := hg
    obtain ⟨its, rv, p, hz⟩ := I.list hq
    obtain ⟨u, hu, ru⟩ := rv.get hx
    obtain ⟨f0, f1, f2, f3, f4, f5⟩ := hf it (by simp)
    refine wpAny_pyNext_list_item st p.isList (x := u) (by simpa using hu) fun h' st' sb => ?_
    have I1 : Inv X pins σ H { s with heap := h' } := I.turned (t' := s.toks) (fun b o hb e => (sb.2 b hb).trans e) f0 f1 f3 f4 f5
    obtain ⟨o, e, c, d⟩ := id st'
    exact ⟨u, rfl, go_of (s := { s with heap := h' }) e c d (by decide) ⟨x, H, I1, ru, ⟨rfl, fun ys hy => by rw [I.list_inj hy hq]; exact hx⟩, st', fun b hb => (hf b hb).1⟩⟩
  done := by
    intro X hP hw hK hc i pins s σ H E I hf st hg
    subst hP hw hK
    obtain ⟨xs, hq, hx⟩ := hg
    obtain ⟨its, rv, p, hz⟩ := I.list hq
    obtain ⟨f0, f1, f2, f3, f4, f5⟩ := hf it (by simp)
    have hl := rv.length
    exact wpAny_pyNext_list_end (I.ok.hd hc) st p.isList (by simp; omega) fun h' eb => ⟨rfl, I.turned (t' := s.toks) (fun b o hb e => eb b o hb e) f0 f1 f3 f4 f5⟩
  self := fun _ _ _ _ _ st h => wpAny_pyIter_listiter st h
theorem turn_range {P : Program} {w : World} {K : PySem.W.Frag} {tg : Expr} (it : Addr) (lo : Int) (n : Nat) : Turn P w K tg (Itr lo n) [it] it (fun i h => IsRangeIter h it (lo + (i : Nat) * 1) ((n : Int) - (i : Nat)) 1) where
  mem := by simp
  obj := fun i h st b hb => by
    have e : b = it := by simpa using hb
    subst e
    exact ⟨_, st, fun v z => by
      have z' : Data.fields _ = Data.cell v := z
      cases z'⟩
  keep := fun i h h' st k => k it (by simp) _ st
  item := by
    intro X hP hw hK hc i pins s σ H E I hf st hg
    subst hP hw hK
    obtain ⟨f0, f1, f2, f3, f4, f5⟩ := hf it (by simp)
    have W := Walks.range (prog := X.prog) (w := X.w) (I.ok.hd hc) it lo 1 n
    refine W.item i s _ _ hg st fun v h' tk hv st' kk => ?_
    obtain ⟨t, rfl⟩ := hv
    have I1 : Inv X pins σ H { s with heap := h', toks := tk } := I.turned (fun b o hb e => kk b o (by simpa using hb) e) f0 f1 f3 f4 f5
    refine ⟨_, rfl, go_of (s := { s with heap := h', toks := tk }) (n := "range_iterator") st' rfl rfl (by decide) ⟨.int (lo + i), H, I1, ⟨t, ?_⟩, ⟨rfl, rfl⟩, st', fun b hb => (hf b hb).1⟩⟩
    rw [Int.mul_one]
  done := by
    intro X hP hw hK hc i pins s σ H E I hf st hg
    subst hP hw hK
    obtain ⟨f0, f1, f2, f3, f4, f5⟩ := hf it (by simp)
    exact wpAny_pyNext_range_end (I.ok.hd hc) st (by have : n ≤ i := hg; omega) fun h' eb => ⟨rfl, I.turned (t' := s.toks) (fun b o hb e => eb b o hb e) f0 f1 f3 f4 f5⟩
  self := fun _ _ _ _ _ st h => wpAny_pyIter_rangeiter st h
end L2
namespace L2
open PySem PySem.Spec PyProof.Rows
section
variable {X : Cx} {tg : Expr}
noncomputable def iList (K : PySem.W.Frag) (tl : TE) : TI := fun σ H R => tl σ H fun x H1 => ∃ a, x = .ref a ∧ (∃ xs, SqL K H1 a xs) ∧ R (Itl K a) H1
theorem pi_list {l : Expr} {tl : TE} (hl : PE X l tl) : PI X tg l (iList X.K tl) := by
  intro pins s σ H R I h
  refine thn (hl pins s σ H _ I h) fun v s1 ⟨x, H1, I1, r1, q1⟩ => ?_
  obtain ⟨a, e, ⟨xs, hq⟩, q⟩ := q1
  subst e
  cases r1
  obtain ⟨its, rv, p, hz⟩ := I1.list hq
  refine wpAny_pyIter_list p.isList ?_
  refine ⟨s1.heap.objs.size, [s1.heap.objs.size], _, _, H1, rfl, I1.kept (t' := s1.toks) fun b o e => Heap.get?_push_of_some _ e, turn_list a _, ⟨_, Heap.get?_push_size _ rfl, rfl, rfl⟩, fun b hb => ?_, q⟩
  have e : b = s1.heap.objs.size := by simpa using hb
  subst e
  exact I1.fpOk (Nat.le_refl _) (I1.hok.fresh (Nat.le_refl _))
theorem range_it {pins : List (Addr × Obj)} {σ : St} {H : Hp} {s : Shared} {R : It → Hp → Prop} {E : Value → Shared → Prop} {lo hi : Int} {t u v : Tok} {tk : Nat} (I : Inv X pins σ H s) (h1 : -(2 ^ 62) ≤ lo) (h2 : lo < 2 ^ 62) (h3 : -(2 ^ 62) ≤ hi) (h4 : hi < 2 ^ 62)
    (q : R (Itr lo (hi - lo).toNat) H) : wpAny (model X.prog X.w) X.A (pyIter (.ref s.heap.objs.size)) (PIE X pins σ tg R) E { s with heap := s.heap.push { cls := .type "range", data := .fields #[.int lo t, .int hi u, .int 1 v] }, toks := tk } := by
  refine wpAny_pyIter_range (IsRange.new ..) (small_one h1 h2 h3 h4) ?_
  have I1 : Inv X pins σ H { s with heap := s.heap.push { cls := .type "range", data := .fields #[.int lo t, .int hi u, .int 1 v] }, toks := tk } := I.kept fun b o e => Heap.get?_push_of_some _ e
  refine ⟨(s.heap.push { cls := .type "range", data := .fields #[.int lo t, .int hi u, .int 1 v] }).objs.size, [(s.heap.push { cls := .type "range", data := .fields #[.int lo t, .int hi u, .int 1 v] }).objs.size], _, _, H, rfl,
    I1.kept (t' := tk) fun b o e => Heap.get?_push_of_some _ e, turn_range _ lo (hi - lo).toNat, ?_, fun b hb => ?_, q⟩
  · have e1 : lo + ((0 : Nat) : Int) * 1 = lo := by simp
    have e2 : (((hi - lo).toNat : Nat) : Int) - ((0 : Nat) : Int) = Builtin.Range.rangeSize lo hi 1 := by rw [rangeSize_one]; split <;> omega
    show IsRangeIter _ _ (lo + ((0 : Nat) : Int) * 1) ((((hi - lo).toNat : Nat) : Int) - ((0 : Nat) : Int)) 1
    rw [e1, e2]
    exact Heap.get?_push_size _ rfl
  · have e : b = (s.heap.push { cls := .type "range", data := .fields #[.int lo t, .int hi u, .int 1 v] }).objs.size := by simpa using hb
    subst e
    exact I1.fpOk (Nat.le_refl _) (I1.hok.fresh (Nat.le_refl _))
noncomputable def iRng1 (ta : TA) : TI := fun σ H R => ta σ H fun vs H1 => ∃ j : Int, vs = [.int j] ∧ -(2 ^ 62) ≤ j ∧ j < 2 ^ 62 ∧ R (Itr 0 j.toNat) H1
noncomputable def iRng2 (ta : TA) : TI := fun σ H R => ta σ H fun vs H1 => ∃ i j : Int, vs = [.int i, .int j] ∧ (-(2 ^ 62) ≤ i ∧ i < 2 ^ 62 ∧ -(2 ^ 62) ≤ j ∧ j < 2 ^ 62) ∧ R (Itr i (j - i).toNat) H1
theorem pi_range1 {a : Expr} {ta : TA} {p pos : Pos} (hg : Gl X "range") (hm : X.mg "range" = none) (ha : PA X [a] ta) (hs : starEach [a] X.env = [(false, eval a X.env)] := by rfl) : PI X tg (.Call (.Name "range" p) [a] [] pos) (iRng1 ta) := by
  intro pins s σ H R I h
  refine Call_ (ld_blt I hg hm boot_range (PyProof.Rows.callWith_type1 (thn (ha pos pins s σ H _ I h) fun us s1 ⟨vs, H1, I1, r1, q1⟩ => ?_) hs rfl))
  obtain ⟨j, e, q1, q2, q⟩ := q1
  subst e
  cases r1 with
  | cons r rr =>
    cases rr
    obtain ⟨t, rfl⟩ := r
    exact call_range_1 (range_it I1 (by omega) (by omega) q1 q2 (by simpa using q))
theorem pi_range2 {a b : Expr} {ta : TA} {p pos : Pos} (hg : Gl X "range") (hm : X.mg "range" = none) (ha : PA X [a, b] ta) (hs : starEach [a, b] X.env = [(false, eval a X.env), (false, eval b X.env)] := by rfl) (hs2 : starEach [b] X.env = [(false, eval b X.env)] := by rfl) :
    PI X tg (.Call (.Name "range" p) [a, b] [] pos) (iRng2 ta) := by
  intro pins s σ H R I h
  refine Call_ (ld_blt I hg hm boot_range (PyProof.Rows.callWith_type1 (thn (ha pos pins s σ H _ I h) fun us s1 ⟨vs, H1, I1, r1, q1⟩ => ?_) (by rw [hs, hs2]) (by rw [hs2]; rfl)))
  obtain ⟨i, j, e, ⟨q1, q2, q3, q4⟩, q⟩ := q1
  subst e
  cases r1 with
  | cons r rr =>
    cases rr with
    | cons r' rr =>
      cases rr
      obtain ⟨t, rfl⟩ := r
      obtain ⟨t', rfl⟩ := r'
      exact call_range_2 (range_it I1 q1 q2 q3 q4 q)
noncomputable def tFor (wi : TI) (g : TG) (tb : TS) : TS := fun D σ H => wi σ H fun J H1 => ∃ W : Nat → Nat → St → Hp → Prop, (∃ m, W 0 m σ H1) ∧ ∀ i m σ H, W i m σ H →
  (J.stop i H ∧ D.nx σ H) ∨ (J.go i H ∧ ∃ N : St → Hp → Prop, (∀ σ' H', N σ' H' → ∃ m', m' < m ∧ W (i + 1) m' σ' H') ∧ ∀ x H', J.yld i H x H' → g x σ H' fun σ2 H2 => tb { D with nx := N, ct := N, bk := D.nx } σ2 H2)
noncomputable def pinsAt (fp : List Addr) (h : Heap) : List (Addr × Obj) := fp.filterMap fun b => (h.get? b).map fun o => (b, o)
theorem mem_pinsAt {fp : List Addr} {h : Heap} {b : Addr} {o : Obj} (hb : b ∈ fp) (e : h.get? b = some o) : (b, o) ∈ pinsAt fp h := List.mem_filterMap.mpr ⟨b, hb, by rw [e]; rfl⟩
theorem of_pinsAt {fp : List Addr} {h : Heap} {p : Addr × Obj} (hp : p ∈ pinsAt fp h) : p.1 ∈ fp ∧ h.get? p.1 = some p.2 := by
  obtain ⟨b, hb, e⟩ := List.mem_filterMap.mp hp
  cases q : h.get? b with
  | none => rw [q] at e; cases e
  | some o =>
    rw [q] at e
    have e' : (b, o) = p := Option.some.inj e
    subst e'
    exact ⟨hb, q⟩
theorem Inv.pinned {pins : List (Addr × Obj)} {σ : St} {H : Hp} {s : Shared} {fp : List Addr} (I : Inv X pins σ H s) (hf : ∀ b ∈ fp, FpOk X pins H b) (ho : ∀ b ∈ fp, ∃ o, s.heap.get? b = some o ∧ ∀ v, o.data ≠ .cell v) : Inv X (pins ++ pinsAt fp s.heap) σ H s :=
  I.pins_of fun p hp => (List.mem_append.mp hp).elim (fun z => I.pin p (List.mem_append_right _ z)) fun z => by
    obtain ⟨hb, e⟩ := of_pinsAt z
    obtain ⟨f0, f1, f2, _⟩ := hf p.1 hb
    obtain ⟨o, e', d⟩ := ho p.1 hb
    rw [e] at e'; cases e'
    exact ⟨e, f0, f1, f2, d⟩
theorem Inv.unpinned {pins pl : List (Addr × Obj)} {σ : St} {H : Hp} {s : Shared} (I : Inv X (pins ++ pl) σ H s) : Inv X pins σ H s := I.pins_of fun p hp => I.pin p (List.mem_append_right _ (List.mem_append_left _ hp))
theorem ps_for {iter : Expr} {body : List Stmt} {wi : TI} {g : TG} {tb : TS} {pos : Pos} (hp : PassesOwn (model X.prog X.w) X.A X.env X.xe) (hc : X.calm = true) (hi : PI X tg iter wi) (hg : PG X tg g) (hb : PSs X body tb)
    (hs : ∀ x, foldedSetIterable iter X.env x = pure x := by intro _; rfl) : PS X (.For tg iter body [] pos) (tFor wi g tb) := by
  intro pins s σ H D I h
  refine wpAny_For (thn (hi pins s σ H _ I h) fun v s1 h1 => thn h1 fun itv s2 h2 => ?_) hs
  obtain ⟨it, fp, tn, J, H2, e, I2, T, st2, f2, W, ⟨m0, w0⟩, turn⟩ := h2
  subst e
  -- what stays true of the iterator's objects through the loop
  have stat : ∀ {H' : Hp}, (∀ b ∈ fp, H' b = none) → ∀ b ∈ fp, FpOk X pins H' b := fun hn b hb => ⟨hn b hb, (f2 b hb).2⟩
  refine codeAny_forLoop_any (fun n s' => ∃ i σ' H', Inv X pins σ' H' s' ∧ tn i s'.heap ∧ (∀ b ∈ fp, H' b = none) ∧ W i n σ' H') ?_ m0 ⟨0, σ, H2, I2, st2, fun b hb => (f2 b hb).1, w0⟩
  rintro n s3 ⟨i, σ3, H3, I3, st3, fr3, w3⟩
  rcases turn i n σ3 H3 w3 with ⟨stop, qn⟩ | ⟨go, N, hN, step⟩
  · refine wpAny_passesOwn hp (thn (T.done X rfl rfl rfl hc i pins s3 σ3 H3 X.xe I3 (stat fr3) st3 stop) fun r s4 ⟨hr, I4⟩ => ?_)
    subst hr
    exact wpAny_execs_nil ⟨σ3, H3, I4, qn⟩
  · refine wpAny_passesOwn hp (thn (T.item X rfl rfl rfl hc i pins s3 σ3 H3 X.xe I3 (stat fr3) st3 go) fun r s4 ⟨u, hr, h4⟩ => ?_)
    subst hr
    refine wpAny_passesOwn hp (thn h4 fun _ s5 ⟨x, H5, I5, r5, y5, st5, fr5⟩ => ?_)
    have I5' := I5.pinned (stat fr5) (T.obj _ _ st5)
    refine wpAny_passesOwn hp (thn (hg _ s5 σ3 H5 x u _ I5' r5 (step x H5 y5)) fun _ s6 ⟨σ6, H6, I6, q6⟩ => ?_)
    refine wpAny_passesOwn hp (thn (hb _ s6 σ6 H6 _ I6 q6) fun f s7 q7 => ?_)
    have again : ∀ {σ7 : St} {H7 : Hp}, Inv X (pins ++ pinsAt fp s5.heap) σ7 H7 s7 → N σ7 H7 → ∃ m, m < n ∧ ∃ i σ' H', Inv X pins σ' H' s7 ∧ tn i s7.heap ∧ (∀ b ∈ fp, H' b = none) ∧ W i m σ' H' := fun {σ7 H7} I7 n7 => by
      obtain ⟨m', hm, w7⟩ := hN σ7 H7 n7
      refine ⟨m', hm, i + 1, σ7, H7, I7.unpinned, T.keep _ _ _ st5 fun b hb o e => (I7.pin (b, o) (List.mem_append_right _ (List.mem_append_right _ (mem_pinsAt hb e)))).1, fun b hb => ?_, w7⟩
      obtain ⟨o, e, d⟩ := T.obj _ _ st5 b hb
      exact (I7.pin (b, o) (List.mem_append_right _ (List.mem_append_right _ (mem_pinsAt hb e)))).2.1
    cases f with
    | next => obtain ⟨σ7, H7, I7, n7⟩ := q7; exact again I7 n7
    | cont => obtain ⟨σ7, H7, I7, n7⟩ := q7; exact again I7 n7
    | brk => obtain ⟨σ7, H7, I7, q7⟩ := q7; exact ⟨σ7, H7, I7.unpinned, q7⟩
    | ret v => obtain ⟨x7, σ7, H7, I7, r7, q7⟩ := q7; exact ⟨x7, σ7, H7, I7.unpinned, r7, q7⟩
end
theorem for_list {K : PySem.W.Frag} {a : Addr} {xs : List V} {g : TG} {tb : TS} {D : Ends} {σ : St} {H : Hp} (Pv : Nat → St → Hp → Prop) (h0 : Pv 0 σ H) (hl : ∀ i σ H, i ≤ xs.length → Pv i σ H → SqL K H a xs)
    (hs : ∀ i x σ H, xs[i]? = some x → Pv i σ H → g x σ H fun σ2 H2 => tb { D with nx := Pv (i + 1), ct := Pv (i + 1), bk := D.nx } σ2 H2) (hd : ∀ σ H, Pv xs.length σ H → D.nx σ H) :
    ∃ W : Nat → Nat → St → Hp → Prop, (∃ m, W 0 m σ H) ∧ ∀ i m σ H, W i m σ H →
      ((Itl K a).stop i H ∧ D.nx σ H) ∨ ((Itl K a).go i H ∧ ∃ N : St → Hp → Prop, (∀ σ' H', N σ' H' → ∃ m', m' < m ∧ W (i + 1) m' σ' H') ∧ ∀ x H', (Itl K a).yld i H x H' → g x σ H' fun σ2 H2 => tb { D with nx := N, ct := N, bk := D.nx } σ2 H2) := by
  refine ⟨fun i m σ H => m = xs.length - i ∧ i ≤ xs.length ∧ Pv i σ H, ⟨xs.length, by simp, Nat.zero_le _, h0⟩, ?_⟩
  rintro i m σ H ⟨rfl, hi, p⟩
  have q := hl i σ H hi p
  by_cases hlt : i < xs.length
  · refine .inr ⟨⟨xs, xs[i], q, by simp [hlt]⟩, Pv (i + 1), fun σ' H' p' => ⟨xs.length - (i + 1), by omega, rfl, hlt, p'⟩, fun x H' y => ?_⟩
    obtain ⟨e, y⟩ := y
    subst e
    exact hs i x σ _ (y xs q) p
  · have e : i = xs.length := by omega
    subst e
    exact .inl ⟨⟨xs, q, Nat.le_refl _⟩, hd σ H p⟩
theorem for_range {lo : Int} {n : Nat} {g : TG} {tb : TS} {D : Ends} {σ : St} {H : Hp} (Pv : Nat → St → Hp → Prop) (h0 : Pv 0 σ H)
    (hs : ∀ i σ H, i < n → Pv i σ H → g (.int (lo + i)) σ H fun σ2 H2 => tb { D with nx := Pv (i + 1), ct := Pv (i + 1), bk := D.nx } σ2 H2) (hd : ∀ σ H, Pv n σ H → D.nx σ H) :
    ∃ W : Nat → Nat → St → Hp → Prop, (∃ m, W 0 m σ H) ∧ ∀ i m σ H, W i m σ H →
      ((Itr lo n).stop i H ∧ D.nx σ H) ∨ ((Itr lo n).go i H ∧ ∃ N : St → Hp → Prop, (∀ σ' H', N σ' H' → ∃ m', m' < m ∧ W (i + 1) m' σ' H') ∧ ∀ x H', (Itr lo n).yld i H x H' → g x σ H' fun σ2 H2 => tb { D with nx := N, ct := N, bk := D.nx } σ2 H2) := by
  refine ⟨fun i m σ H => m = n - i ∧ i ≤ n ∧ Pv i σ H, ⟨n, by simp, Nat.zero_le _, h0⟩, ?_⟩
  rintro i m σ H ⟨rfl, hi, p⟩
  by_cases hlt : i < n
  · refine .inr ⟨hlt, Pv (i + 1), fun σ' H' p' => ⟨n - (i + 1), by omega, rfl, hlt, p'⟩, fun x H' y => ?_⟩
    obtain ⟨e, y⟩ := y
    subst e y
    exact hs i σ _ hlt p
  · have e : i = n := by omega
    subst e
    exact .inl ⟨Nat.le_refl _, hd σ H p⟩
end L2
namespace L2
open PySem PySem.Spec PyProof.Rows
noncomputable abbrev R2 := V → V → Hp → VK → Prop
noncomputable def OpR (X : Cx) (f : Value → Value → Sem Value) (r : R2) : Prop :=
  ∀ (pins : List (Addr × Obj)) (s : Shared) (σ : St) (H : Hp) (x y : V) (v u : Value) (Q : VK), Inv X pins σ H s → RelV x v → RelV y u → r x y H Q →
    wpAny (model X.prog X.w) X.A (f v u) (EP X pins σ Q) X.xe s
noncomputable def UnR (X : Cx) (f : Value → Sem Value) (r : V → Hp → VK → Prop) : Prop :=
  ∀ (pins : List (Addr × Obj)) (s : Shared) (σ : St) (H : Hp) (x : V) (v : Value) (Q : VK), Inv X pins σ H s → RelV x v → r x H Q →
    wpAny (model X.prog X.w) X.A (f v) (EP X pins σ Q) X.xe s
noncomputable def CallR (X : Cx) (f : Value) (r : List V → Hp → VK → Prop) : Prop :=
  ∀ (pins : List (Addr × Obj)) (s : Shared) (σ : St) (H : Hp) (xs : List V) (us : List Value) (Q : VK), Inv X pins σ H s → Vals xs us → r xs H Q →
    wpAny (model X.prog X.w) X.A (call f us) (EP X pins σ Q) X.xe s
noncomputable def tOp (r : R2) (ta tb : TE) : TE := fun σ H Q => ta σ H fun x H1 => tb σ H1 fun y H2 => r x y H2 Q
noncomputable def tUn (r : V → Hp → VK → Prop) (ta : TE) : TE := fun σ H Q => ta σ H fun x H1 => r x H1 Q
noncomputable def rI (C : Int → Int → Prop) (g : Int → Int → V) : R2 := fun x y H Q => ∃ i j, x = .int i ∧ y = .int j ∧ C i j ∧ Q (g i j) H
noncomputable def rI0 (g : Int → Int → V) : R2 := fun x y H Q => ∃ i j, x = .int i ∧ y = .int j ∧ Q (g i j) H
noncomputable def rU (g : Int → V) : V → Hp → VK → Prop := fun x H Q => ∃ i, x = .int i ∧ Q (g i) H
section
variable {X : Cx} {a b c : Expr} {ta tb tc : TE} {pos : Pos}
theorem binT (ha : PE X a ta) (hb : PE X b tb) {pins : List (Addr × Obj)} {s : Shared} {σ : St} {H : Hp} {R : V → V → Hp → Prop} (I : Inv X pins σ H s)
    (h : ta σ H fun x H1 => tb σ H1 fun y H2 => R x y H2) {Q : Value → Shared → Prop} {f : Value → Value → Sem Value}
    (hf : ∀ v u s2 x y H2, Inv X pins σ H2 s2 → RelV x v → RelV y u → R x y H2 → wpAny (model X.prog X.w) X.A (f v u) Q X.xe s2) :
    wpAny (model X.prog X.w) X.A (eval a X.env) (fun v s₁ => wpAny (model X.prog X.w) X.A (eval b X.env) (fun u s₂ => wpAny (model X.prog X.w) X.A (f v u) Q X.xe s₂) X.xe s₁) X.xe s := by
  refine thn (ha pins s σ H _ I h) fun v s1 ⟨x, H1, I1, r1, q1⟩ => ?_
  refine thn (hb pins s1 σ H1 _ I1 q1) fun u s2 ⟨y, H2, I2, r2, q2⟩ => ?_
  exact hf v u s2 x y H2 I2 r1 r2 q2
theorem pe_op {op : Operator} {r : R2} (ho : OpR X (binaryOp op) r) (ha : PE X a ta) (hb : PE X b tb) : PE X (.BinOp a op b pos) (tOp r ta tb) := by
  intro pins s σ H Q I h
  exact wpAny_BinOp (binT ha hb I h fun v u s2 x y H2 I2 rx ry q => ho pins s2 σ H2 x y v u Q I2 rx ry q)
theorem pe_un {op : UnaryOp} {r : V → Hp → VK → Prop} (ho : UnR X (unaryOp op) r) (ha : PE X a ta) : PE X (.UnaryOp op a pos) (tUn r ta) := by
  intro pins s σ H Q I h
  exact UnaryOp_ (thn (ha pins s σ H _ I h) fun v s1 ⟨x, H1, I1, r1, q1⟩ => ho pins s1 σ H1 x v Q I1 r1 q1)
theorem opI {f : Value → Value → Sem Value} {C : Int → Int → Prop} {g : Int → Int → Int}
    (rule : ∀ (i j : Int) (t u : Tok) (s : Shared) (Q : Value → Shared → Prop) (E : Value → Shared → Prop), C i j → Q (.int (g i j) s.toks) { s with toks := s.toks + 1 } → wpAny (model X.prog X.w) X.A (f (.int i t) (.int j u)) Q E s) :
    OpR X f (rI C fun i j => .int (g i j)) := by
  intro pins s σ H x y v u Q I rx ry h
  obtain ⟨i, j, rfl, rfl, hc, q⟩ := h
  obtain ⟨t, rfl⟩ := rx
  obtain ⟨t', rfl⟩ := ry
  exact rule i j t t' s _ _ hc ⟨.int (g i j), H, I.tok _, ⟨_, rfl⟩, q⟩
theorem opI0 {f : Value → Value → Sem Value} {g : Int → Int → Int}
    (rule : ∀ (i j : Int) (t u : Tok) (s : Shared) (Q : Value → Shared → Prop) (E : Value → Shared → Prop), Q (.int (g i j) s.toks) { s with toks := s.toks + 1 } → wpAny (model X.prog X.w) X.A (f (.int i t) (.int j u)) Q E s) :
    OpR X f (rI0 fun i j => .int (g i j)) := by
  intro pins s σ H x y v u Q I rx ry h
  obtain ⟨i, j, rfl, rfl, q⟩ := h
  obtain ⟨t, rfl⟩ := rx
  obtain ⟨t', rfl⟩ := ry
  exact rule i j t t' s _ _ ⟨.int (g i j), H, I.tok _, ⟨_, rfl⟩, q⟩
theorem opB0 {f : Value → Value → Sem Value} {g : Int → Int → Bool}
    (rule : ∀ (i j : Int) (t u : Tok) (s : Shared) (Q : Value → Shared → Prop) (E : Value → Shared → Prop), Q (.bool (g i j)) s → wpAny (model X.prog X.w) X.A (f (.int i t) (.int j u)) Q E s) :
    OpR X f (rI0 fun i j => .bl (g i j)) := by
  intro pins s σ H x y v u Q I rx ry h
  obtain ⟨i, j, rfl, rfl, q⟩ := h
  obtain ⟨t, rfl⟩ := rx
  obtain ⟨t', rfl⟩ := ry
  exact rule i j t t' s _ _ ⟨.bl (g i j), H, I, rfl, q⟩
noncomputable def CDiv (i j : Int) : Prop := 0 < j ∧ j < 1073741824
noncomputable def CPow (i j : Int) : Prop := 0 ≤ j ∧ j ≤ 1000000 ∧ i.natAbs < 2 ^ 64
noncomputable def CMul (i j : Int) : Prop := (-(2 ^ 64) < i ∧ i < 2 ^ 64) ∨ (-(2 ^ 64) < j ∧ j < 2 ^ 64)
theorem CMul.ok {i j : Int} (h : CMul i j) : IntMulOk i j := by
  rcases h with ⟨h1, h2⟩ | ⟨h1, h2⟩
  · exact .of_left (intBits_le_64 h1 h2)
  · exact .of_right (intBits_le_64 h1 h2)
theorem op_add : OpR X (binaryOp .Add) (rI0 fun i j => .int (i + j)) := opI0 fun _ _ _ _ _ _ _ q => add_int q
theorem op_sub : OpR X (binaryOp .Sub) (rI0 fun i j => .int (i - j)) := opI0 fun _ _ _ _ _ _ _ q => sub_int q
theorem op_mul : OpR X (binaryOp .Mult) (rI CMul fun i j => .int (i * j)) := opI fun _ _ _ _ _ _ _ hc q => mul_int q hc.ok
theorem op_fdiv : OpR X (binaryOp .FloorDiv) (rI CDiv fun i j => .int (i / j)) := opI fun i j _ _ _ _ _ hc q => by
  have h1 : (0 : Int) < j := hc.1
  have h2 : j < 1073741824 := hc.2
  exact floordiv_int (by omega) (by rw [Int.fdiv_eq_ediv_of_nonneg i (by omega)]; exact q) (.inl (PyProof.noPylong_small (by omega)))
theorem op_mod : OpR X (binaryOp .Mod) (rI (fun _ j => 0 < j) fun i j => .int (i % j)) := opI fun i j _ _ _ _ _ hc q => by
  have h1 : (0 : Int) < j := hc
  exact mod_int' (by omega) (by rw [Int.fmod_eq_emod_of_nonneg i (by omega)]; exact q)
theorem op_pow : OpR X (binaryOp .Pow) (rI CPow fun i j => .int (i ^ j.toNat)) := opI fun _ _ _ _ _ _ _ hc q => pow_int_small hc.1 hc.2.1 hc.2.2 q
theorem unI {f : Value → Sem Value} {g : Int → Int}
    (rule : ∀ (i : Int) (t : Tok) (s : Shared) (Q : Value → Shared → Prop) (E : Value → Shared → Prop), Q (.int (g i) s.toks) { s with toks := s.toks + 1 } → wpAny (model X.prog X.w) X.A (f (.int i t)) Q E s) :
    UnR X f (rU fun i => .int (g i)) := by
  intro pins s σ H x v Q I rx h
  obtain ⟨i, rfl, q⟩ := h
  obtain ⟨t, rfl⟩ := rx
  exact rule i t s _ _ ⟨.int (g i), H, I.tok _, ⟨_, rfl⟩, q⟩
theorem un_neg : UnR X (unaryOp .USub) (rU fun i => .int (-i)) := unI fun _ _ _ _ _ q => neg_int q
end
noncomputable def scal : V → V → Bool
  | .non, .non => true | .non, .int _ => true | .int _, .non => true | .non, .bl _ => true | .bl _, .non => true | .non, .str _ => true | .str _, .non => true
  | .int _, .int _ => true | .bl _, .bl _ => true | .str _, .str _ => true | .byt _, .byt _ => true
  | .int _, .str _ => true | .str _, .int _ => true | .bl _, .str _ => true | .str _, .bl _ => true
  | _, _ => false
noncomputable def rEq : R2 := fun x y H Q => scal x y = true ∧ Q (.bl (decide (x = y))) H
noncomputable def rNe : R2 := fun x y H Q => scal x y = true ∧ Q (.bl (!decide (x = y))) H
theorem dec_int {i j : Int} : decide (V.int i = V.int j) = (i == j) := by
  rw [Bool.eq_iff_iff]
  simp
theorem dec_bl {i j : Bool} : decide (V.bl i = V.bl j) = (i == j) := by
  rw [Bool.eq_iff_iff]
  simp
theorem dec_str {i j : Str} : decide (V.str i = V.str j) = (i == j) := by
  rw [Bool.eq_iff_iff]
  simp
theorem dec_byt {i j : Array UInt8} : decide (V.byt i = V.byt j) = (i.toList == j.toList) := by
  rw [Bool.eq_iff_iff]
  cases i
  cases j
  simp
section
variable {X : Cx} {a b c : Expr} {ta tb tc : TE} {pos : Pos}
theorem fin_bl {pins : List (Addr × Obj)} {σ : St} {H : Hp} {s : Shared} {Q : VK} {k k' : Bool} (I : Inv X pins σ H s) (q : Q (.bl k) H) (e : k = k') : EP X pins σ Q (.bool k') s := by
  subst e
  exact ⟨.bl k, H, I, rfl, q⟩
theorem op_eq : OpR X (compareOp .Eq) rEq := by
  intro pins s σ H x y v u Q I rx ry h
  obtain ⟨hs, q⟩ := h
  cases x with
  | non =>
    cases rx
    cases y with
    | non => cases ry; exact PySem.EqNone.eq_none_none (fin_bl I q (by simp))
    | bl j => cases ry; exact PySem.EqNone.eq_none_bool (fin_bl I q (by simp))
    | int j => obtain ⟨t', rfl⟩ := ry; exact PySem.EqNone.eq_none_int (fin_bl I q (by simp))
    | str j => obtain ⟨t', rfl⟩ := ry; exact PySem.EqNone.eq_none_str (fin_bl I q (by simp))
    | _ => exact absurd (show false = true from hs) Bool.false_ne_true
  | bl i =>
    cases rx
    cases y with
    | non => cases ry; exact PySem.EqNone.eq_bool_none (fin_bl I q (by simp))
    | bl j => cases ry; exact eq_bool (fin_bl I q dec_bl)
    | str j => obtain ⟨t', rfl⟩ := ry; exact PySem.EqMixed.eq_bool_str (fin_bl I q (by simp))
    | _ => exact absurd (show false = true from hs) Bool.false_ne_true
  | int i =>
    obtain ⟨t, rfl⟩ := rx
    cases y with
    | non => cases ry; exact PySem.EqNone.eq_int_none (fin_bl I q (by simp))
    | int j => obtain ⟨t', rfl⟩ := ry; exact eq_int (fin_bl I q dec_int)
    | str j => obtain ⟨t', rfl⟩ := ry; exact PySem.EqMixed.eq_int_str (fin_bl I q (by simp))
    | _ => exact absurd (show false = true from hs) Bool.false_ne_true
  | str i =>
    obtain ⟨t, rfl⟩ := rx
    cases y with
    | non => cases ry; exact PySem.EqNone.eq_str_none (fin_bl I q (by simp))
    | bl j => cases ry; exact PySem.EqMixed.eq_str_bool (fin_bl I q (by simp))
    | int j => obtain ⟨t', rfl⟩ := ry; exact PySem.EqMixed.eq_str_int (fin_bl I q (by simp))
    | str j => obtain ⟨t', rfl⟩ := ry; exact eq_str (fin_bl I q dec_str)
    | _ => exact absurd (show false = true from hs) Bool.false_ne_true
  | byt i =>
    obtain ⟨t, rfl⟩ := rx
    cases y with
    | byt j => obtain ⟨t', rfl⟩ := ry; exact PySem.W.eq_bytes (fin_bl I q dec_byt)
    | _ => exact absurd (show false = true from hs) Bool.false_ne_true
  | _ => cases y <;> exact absurd (show false = true from hs) Bool.false_ne_true
theorem op_ne : OpR X (compareOp .NotEq) rNe := by
  intro pins s σ H x y v u Q I rx ry h
  obtain ⟨hs, q⟩ := h
  cases x with
  | non =>
    cases rx
    cases y with
    | non => cases ry; exact PySem.EqNone.ne_none_none (fin_bl I q (by simp))
    | bl j => cases ry; exact PySem.EqNone.ne_none_bool (fin_bl I q (by simp))
    | int j => obtain ⟨t', rfl⟩ := ry; exact PySem.EqNone.ne_none_int (fin_bl I q (by simp))
    | str j => obtain ⟨t', rfl⟩ := ry; exact PySem.EqNone.ne_none_str (fin_bl I q (by simp))
    | _ => exact absurd (show false = true from hs) Bool.false_ne_true
  | bl i =>
    cases rx
    cases y with
    | non => cases ry; exact PySem.EqNone.ne_bool_none (fin_bl I q (by simp))
    | bl j => cases ry; exact ne_bool (fin_bl I q (congrArg not dec_bl))
    | str j => obtain ⟨t', rfl⟩ := ry; exact PySem.EqMixed.ne_bool_str (fin_bl I q (by simp))
    | _ => exact absurd (show false = true from hs) Bool.false_ne_true
  | int i =>
    obtain ⟨t, rfl⟩ := rx
    cases y with
    | non => cases ry; exact PySem.EqNone.ne_int_none (fin_bl I q (by simp))
    | int j => obtain ⟨t', rfl⟩ := ry; exact ne_int (fin_bl I q (congrArg not dec_int))
    | str j => obtain ⟨t', rfl⟩ := ry; exact PySem.EqMixed.ne_int_str (fin_bl I q (by simp))
    | _ => exact absurd (show false = true from hs) Bool.false_ne_true
  | str i =>
    obtain ⟨t, rfl⟩ := rx
    cases y with
    | non => cases ry; exact PySem.EqNone.ne_str_none (fin_bl I q (by simp))
    | bl j => cases ry; exact PySem.EqMixed.ne_str_bool (fin_bl I q (by simp))
    | int j => obtain ⟨t', rfl⟩ := ry; exact PySem.EqMixed.ne_str_int (fin_bl I q (by simp))
    | str j => obtain ⟨t', rfl⟩ := ry; exact ne_str (fin_bl I q (congrArg not dec_str))
    | _ => exact absurd (show false = true from hs) Bool.false_ne_true
  | byt i =>
    obtain ⟨t, rfl⟩ := rx
    cases y with
    | byt j => obtain ⟨t', rfl⟩ := ry; exact PySem.W.ne_bytes (fin_bl I q (congrArg not dec_byt))
    | _ => exact absurd (show false = true from hs) Bool.false_ne_true
  | _ => cases y <;> exact absurd (show false = true from hs) Bool.false_ne_true
theorem op_lt : OpR X (compareOp .Lt) (rI0 fun i j => .bl (decide (i < j))) := opB0 fun _ _ _ _ _ _ _ q => lt_int q
theorem op_le : OpR X (compareOp .LtE) (rI0 fun i j => .bl (decide (i ≤ j))) := opB0 fun _ _ _ _ _ _ _ q => le_int q
theorem op_gt : OpR X (compareOp .Gt) (rI0 fun i j => .bl (decide (j < i))) := opB0 fun _ _ _ _ _ _ _ q => gt_int q
theorem op_ge : OpR X (compareOp .GtE) (rI0 fun i j => .bl (decide (j ≤ i))) := opB0 fun _ _ _ _ _ _ _ q => ge_int q
theorem nomark (b : Expr) {op : CmpOp} (h : op ≠ .In := by decide) (h2 : op ≠ .NotIn := by decide) : behindInMarks op b = false := by
  have e1 : (op == CmpOp.In) = false := by cases op <;> first | rfl | exact absurd rfl h
  have e2 : (op == CmpOp.NotIn) = false := by cases op <;> first | rfl | exact absurd rfl h2
  cases b <;> simp [behindInMarks, e1, e2]
theorem pe_cmpR {op : CmpOp} {r : R2} (ho : OpR X (compareOp op) r) (ha : PE X a ta) (hb : PE X b tb) (hm : behindInMarks op b = false) : PE X (.Compare a [op] [b] pos) (tOp r ta tb) := by
  intro pins s σ H Q I h
  exact wpAny_Compare1 (binT ha hb I h fun v u s2 x y H2 I2 rx ry q => ho pins s2 σ H2 x y v u Q I2 rx ry q) hm
noncomputable def tTest (t : TE) : TT := fun σ H Q => t σ H fun x H' => ∃ k, x = .bl k ∧ Q k H'
theorem pt_cmpR {op : CmpOp} {r : R2} (ho : OpR X (compareOp op) r) (ha : PE X a ta) (hb : PE X b tb) (hm : behindInMarks op b = false) : PT X (.Compare a [op] [b] pos) (tTest (tOp r ta tb)) := by
  intro pins s σ H Q I h
  refine wpAny_isTrue_Compare1 (thn (ha pins s σ H _ I h) fun v s1 ⟨x, H1, I1, r1, q1⟩ => thn (hb pins s1 σ H1 _ I1 q1) fun u s2 ⟨y, H2, I2, r2, q2⟩ =>
    thn (ho pins s2 σ H2 x y v u _ I2 r1 r2 q2) fun c s3 ⟨z, H3, I3, r3, k, e, q3⟩ => ?_) hm
  subst e
  cases r3
  exact wpAny_truthy_bool ⟨H3, I3, q3⟩
theorem line63 : (sizeLine : Nat) < 2 ^ 63 := by rw [sizeLine_eq]; decide
theorem vals1 {x : V} {us : List Value} (r : Vals [x] us) : ∃ u, us = [u] ∧ RelV x u := by
  cases r with
  | cons r1 r2 => cases r2; exact ⟨_, rfl, r1⟩
theorem vals2 {x y : V} {us : List Value} (r : Vals [x, y] us) : ∃ u w', us = [u, w'] ∧ RelV x u ∧ RelV y w' := by
  cases r with
  | cons r1 r2 =>
    cases r2 with
    | cons r3 r4 => cases r4; exact ⟨_, _, rfl, r1, r3⟩
end
end L2
namespace L2
open PySem PySem.Spec PyProof.Rows
structure ObjM (h : Heap) (x dx C : Addr) (mA : Str → Option Value) : Prop where
  obj : h.get? x = some (PySem.W.instObj C dx)
  ns : h.Ns1 dx mA
  ne : dx ≠ x
theorem lookIn_ns {h : Heap} {dx : Addr} {mA : Str → Option Value} (n : h.Ns1 dx mA) : ∃ od, h.get? dx = some od ∧ ∀ name, PySem.W.lookIn name od = some (mA name) := by
  obtain ⟨o, es, ep, ho, hd, hk, _, hm⟩ := n
  refine ⟨o, ho, fun name => ?_⟩
  have e := hm name
  unfold nsFind findBy at e
  rw [← Array.find?_toList] at e
  unfold PySem.W.lookIn
  rw [hd]
  dsimp only
  split
  · rename_i y q
    rw [q] at e
    exact congrArg some e
  · rename_i q
    rw [q] at e
    have a : es.toList.any (·.refKey) = false := by
      rw [List.any_eq_false]
      intro y hy
      obtain ⟨z, t, hkey⟩ := hk y (Array.mem_toList_iff.mp hy)
      simp [DictEntry.refKey, hkey]
    have a' : ¬ es.toList.any (·.refKey) = true := by rw [a]; exact Bool.false_ne_true
    rw [if_neg a']
    exact congrArg some e
theorem ObjM.look {h : Heap} {x dx C : Addr} {mA : Str → Option Value} (I : ObjM h x dx C mA) : ∃ od, PySem.W.InstAt h x (PySem.W.instObj C dx) C (some od) ∧ ∀ name, PySem.W.lookIn name od = some (mA name) :=
  let ⟨od, ho, hl⟩ := lookIn_ns I.ns
  ⟨od, ⟨I.obj, rfl, rfl, ho⟩, hl⟩
section
variable {prog : Program} {w : World} {A : Around} {E : Value → Shared → Prop} {s : Shared} {K : PySem.W.Frag} {x dx C f : Addr} {mA : Str → Option Value} {name : Str} {v : Value}
end
section
variable {P : Program} {w : World} {H H' : Hp} {h h' : Heap} {a C dx : Addr} {fs fs' : List (Str × V)}
theorem ins_get (hok : HOk P w H h) (e : H a = some (.ins C dx fs)) : ∃ mA, ObjM h a dx C mA ∧ (∀ f, RelO (fs.lookup f) (mA f)) ∧ PySem.Within mA (fs.map (·.1)) ∧ fs.length ≤ 1000 ∧ H dx = some (.own a) := by
  obtain ⟨d, z, ne, ob, mA, n, r, q⟩ := (show ObjOk P w H h a (.ins C dx fs) from hok a _ e)
  exact ⟨mA, ⟨ob, n, ne⟩, r, q, z, d⟩
end
structure Cls (K : PySem.W.Frag) (C : Addr) : Prop where
  pg : PySem.W.plainGet K C Str.empty = true
  hd : PySem.W.hasDictIn K C = true
  po : PySem.W.plainOver K C = true
  sa : PySem.W.findIn K (.ref C) "__setattr__" = some (some (.builtin "object.__setattr__"))
theorem Cls.get {K : PySem.W.Frag} {C : Addr} (c : Cls K C) (f : Str) : PySem.W.plainGet K C f = true := c.pg
section
variable {X : Cx} {pins : List (Addr × Obj)} {σ : St} {H : Hp} {s : Shared} {a C dx : Addr} {fs : List (Str × V)} {f : Str} {v : V} {A : Around} {E : Value → Shared → Prop}
end
section
variable {X : Cx} {pins : List (Addr × Obj)} {σ : St} {H : Hp} {s : Shared} {A : Around} {E : Value → Shared → Prop} {Q : Value → Shared → Prop} {c : Value} {b : Bool}
inductive TyOf (K : PySem.W.Frag) (H : Hp) : V → Value → Prop where
  | non : TyOf K H .non (.type "NoneType")
  | bl (x : Bool) : TyOf K H (.bl x) (.type "bool")
  | int (i : Int) : TyOf K H (.int i) (.type "int")
  | str (x : Str) : TyOf K H (.str x) (.type "str")
  | flt (x : UInt64) : TyOf K H (.flt x) (.type "float")
  | lst {a : Addr} {xs : List V} (e : H a = some (.lst xs)) : TyOf K H (.ref a) (.type "list")
  | frz {a : Addr} {o : Obj} {xs : List V} (e : H a = some (.frz o (.lst xs))) : TyOf K H (.ref a) (.type "list")
  | tup {a : Addr} {xs : List V} (e : H a = some (.tup xs)) : TyOf K H (.ref a) (.type "tuple")
  | dK {a : Addr} {kvs : List (Key × V)} (e : H a = some (.dK kvs)) : TyOf K H (.ref a) (.type "dict")
  | dT {a : Addr} {kvs : List (List Key × V)} (e : H a = some (.dT kvs)) : TyOf K H (.ref a) (.type "dict")
  | ins {a C dx : Addr} {fs : List (Str × V)} (e : H a = some (.ins C dx fs)) (cl : Cls K C) (ha : PySem.W.findIn K (.ref C) "__class__" = some (some (.builtin "object.__class__")))
      (hn : PySem.W.specialIn K (.builtin "object.__class__") "__get__" = some (some (.builtin "getset_descriptor.__get__"))) (htk : PySem.W.takesIn K (.builtin "object.__class__") = some true)
      (hm : PySem.W.mroIn K C (.type "object") = some true) : TyOf K H (.ref a) (.ref C)
theorem isinst_ok {x : V} {u t : Value} (I : Inv X pins σ H s) (rx : RelV x u) (ty : TyOf X.K H x t) (e : PySem.W.kitOne X.K t c = some b) (h : ∀ tk, Q (.bool b) { s with toks := tk }) :
    wpAny (model X.prog X.w) A (call (.builtin "isinstance") [u, c]) Q E s := by
  cases ty with
  | non => cases (show u = Value.none from rx); exact PySem.W.kia_one PySem.W.kitx_none I.kIn True.intro e (fun z => nomatch z) h
  | bl y => cases (show u = Value.bool y from rx); exact PySem.W.kia_one PySem.W.kitx_bool I.kIn True.intro e (fun z => nomatch z) h
  | int i => obtain ⟨t, q⟩ := (show ∃ t, u = Value.int i t from rx); cases q; exact PySem.W.kia_one PySem.W.kitx_int I.kIn True.intro e (fun z => nomatch z) h
  | str y => obtain ⟨t, q⟩ := (show ∃ t, u = Value.str y t from rx); cases q; exact PySem.W.kia_one PySem.W.kitx_str I.kIn True.intro e (fun z => nomatch z) h
  | flt y => obtain ⟨t, q⟩ := (show ∃ t, u = Value.float y t from rx); cases q; exact PySem.W.kia_one PySem.W.kitx_float I.kIn True.intro e (fun z => nomatch z) h
  | @lst a xs ea =>
    cases (show u = Value.ref a from rx)
    obtain ⟨_, _, n, _, h1⟩ := (show ObjOk X.prog X.w H s.heap a (.lst xs) from I.hok a _ ea)
    exact PySem.W.kia_one PySem.W.kitx_list I.kIn ⟨_, h1, rfl⟩ e (fun z => nomatch z) h
  | @frz a ob xs ea =>
    cases (show u = Value.ref a from rx)
    obtain ⟨_, _, _, n, _, h1⟩ := (show ObjOk X.prog X.w H s.heap a (.frz ob (.lst xs)) from I.hok a _ ea)
    exact PySem.W.kia_one PySem.W.kitx_list I.kIn ⟨_, h1, rfl⟩ e (fun z => nomatch z) h
  | @tup a xs ea =>
    cases (show u = Value.ref a from rx)
    obtain ⟨_, _, _, p⟩ := (show ObjOk X.prog X.w H s.heap a (.tup xs) from I.hok a _ ea)
    obtain ⟨o, h1, h2, _⟩ := p
    exact PySem.W.kia_one PySem.W.kitx_tuple I.kIn ⟨o, h1, h2⟩ e (fun z => nomatch z) h
  | @dK a kvs ea =>
    cases (show u = Value.ref a from rx)
    obtain ⟨_, _, vs, _, p⟩ := (show ObjOk X.prog X.w H s.heap a (.dK kvs) from I.hok a _ ea)
    obtain ⟨o, es, ep, h1, h2, _⟩ := p
    exact PySem.W.kia_one PySem.W.kitx_dict I.kIn ⟨o, h1, h2.1⟩ e (fun z => nomatch z) h
  | @dT a kvs ea =>
    cases (show u = Value.ref a from rx)
    obtain ⟨_, _, xs, _, o, es, ep, h1, h2, _⟩ := (show ObjOk X.prog X.w H s.heap a (.dT kvs) from I.hok a _ ea)
    exact PySem.W.kia_one PySem.W.kitx_dict I.kIn ⟨o, h1, h2.1⟩ e (fun z => nomatch z) h
  | @ins a C dx fs ea cl ha hn htk hm =>
    cases (show u = Value.ref a from rx)
    obtain ⟨mA, O, _⟩ := ins_get I.hok ea
    obtain ⟨od, J, _⟩ := O.look
    exact PySem.W.kia_one (PySem.W.kitx_own (cl.get _) cl.hd ha hn htk hm) I.kIn J e (fun z => nomatch z) h
end
end L2
namespace L2
open PySem PySem.Spec PyProof.Rows
structure Room (k : Nat) (A : Around) : Prop where
  hd : A.handled = none
  dp : A.depth + 3 * k + 5 < recursionLimit
  un : A.units + 16 * k + 200 < cLine
theorem Room.mono {j k : Nat} {A : Around} (r : Room k A) (h : j ≤ k) : Room j A := ⟨r.hd, by have := r.dp; omega, by have := r.un; omega⟩
theorem Room.deeper {k : Nat} {A : Around} (r : Room (k + 1) A) (env : Env) : Room k (A.deeper env) :=
  ⟨r.hd, by have := r.dp; show A.depth + 1 + 3 * k + 5 < _; omega, by have := r.un; show A.units + 3 + 16 * k + 200 < _; omega⟩
theorem Room.depth {k : Nat} {A : Around} (r : Room k A) : A.depth < recursionLimit := by have := r.dp; omega
theorem Room.units {k : Nat} {A : Around} (r : Room k A) : A.units + 64 < cLine := by have := r.un; omega
noncomputable def tNil : TA := fun _ H Q => Q [] H
noncomputable def tCons (ta : TE) (tr : TA) : TA := fun σ H Q => ta σ H fun x H1 => tr σ H1 fun xs H2 => Q (x :: xs) H2
section
variable {X : Cx} {e : Expr} {es : List Expr} {te : TE} {t : TA} {pos : Pos}
theorem pa_nil : PA X [] tNil := fun _ _ _ _ H Q I h => Calls.spliced_nil ⟨[], H, I, .nil, h⟩
theorem pa_cons (ha : PE X e te) (hr : PA X es t) (hs : starEach (e :: es) X.env = (false, eval e X.env) :: starEach es X.env := by rfl) : PA X (e :: es) (tCons te t) := by
  intro pos pins s σ H Q I h
  rw [hs]
  show wpAny _ _ (spliced ((false, eval e X.env) :: backTo pos (starEach es X.env))) _ _ s
  refine Calls.spliced_cons (thn (ha pins s σ H _ I h) fun u s1 ⟨x, H1, I1, r1, q1⟩ => ?_)
  exact thn (hr pos pins s1 σ H1 _ I1 q1) fun us s2 ⟨xs, H2, I2, r2, q2⟩ => ⟨x :: xs, H2, I2, .cons r1 r2, q2⟩
noncomputable def tTup (t : TA) : TE := fun σ H Q => t σ H fun xs H1 => xs.length ≤ sizeLine ∧ ∀ p, H1 p = none → Q (.ref p) (upd H1 p (.tup xs))
noncomputable def tLst (t : TA) : TE := fun σ H Q => t σ H fun xs H1 => xs.length ≤ sizeLine ∧ ∀ p, H1 p = none → Q (.ref p) (upd H1 p (.lst xs))
theorem pe_tup {x1} (h : PA X es t) : PE X (.Tuple es x1 pos) (tTup t) := by
  intro pins s σ H Q I hq
  refine wpAny_Tuple_spliced (thn (h pos pins s σ H _ I hq) fun us s1 ⟨xs, H1, I1, r, z, q⟩ => ⟨by rw [← r.length]; exact z, ?_⟩)
  have hf : H1 s1.heap.objs.size = none := I1.hok.fresh (Nat.le_refl _)
  refine ⟨.ref s1.heap.objs.size, upd H1 s1.heap.objs.size (.tup xs), I1.laid (t' := s1.toks) (fun b u e => Heap.get?_push_of_some _ e) (Nat.le_refl _) ?_, rfl, q _ hf⟩
  exact ⟨z, us, r, ⟨_, Heap.get?_push_size _ rfl, rfl, _, rfl⟩⟩
theorem pe_lst (h : PA X es t) : PE X (.List es pos) (tLst t) := by
  intro pins s σ H Q I hq
  refine wpAny_List_spliced (thn (h pos pins s σ H _ I hq) fun us s1 ⟨xs, H1, I1, r, z, q⟩ => ⟨by rw [← r.length]; exact z, ?_⟩)
  have hf : H1 s1.heap.objs.size = none := I1.hok.fresh (Nat.le_refl _)
  refine ⟨.ref s1.heap.objs.size, upd H1 s1.heap.objs.size (.lst xs), I1.laid (t' := s1.toks) (fun b u e => Heap.get?_push_of_some _ e) (Nat.le_refl _) ?_, rfl, q _ hf⟩
  exact ⟨z, us, 0, r, Heap.get?_push_size _ rfl⟩
end
noncomputable abbrev Sp := List V → Hp → VK → XK → Prop
noncomputable abbrev CXT := List Env → Hp → Shared → XK → Value → Shared → Prop
structure Env0 (P : Program) (w : World) (K : PySem.W.Frag) (mg : Str → Option Value) (base : Heap) (A : Around) (outer : List Env) (s : Shared) (H : Hp) : Prop where
  frames : A.frames = some outer
  mod : Mod K mg base
  bs : ∀ b o, base.get? b = some o → s.heap.get? b = some o ∧ H b = none
  bsz : base.objs.size ≤ s.heap.objs.size
  funs : s.heap.FunFrames base outer
  frf : ∀ b ∈ frs outer, H b = none
  hok : HOk P w H s.heap
  bare : AllBare s.gens
noncomputable def CE (outer : List Env) (P : Program) (w : World) (H : Hp) (s : Shared) (Q : VK) (u : Value) (s' : Shared) : Prop :=
  ∃ v H', s'.os = s.os ∧ AllBare s'.gens ∧ Un (frs outer) [] H H' s.heap s'.heap ∧ HOk P w H' s'.heap ∧ RelV v u ∧ Q v H'
noncomputable def CR (CX : CXT) (outer : List Env) (P : Program) (w : World) (H : Hp) (s : Shared) (Q : VK) (E : XK) (r : Result) (s' : Shared) : Prop :=
  match r with
  | .ok (.ret u) => CE outer P w H s Q u s'
  | .ok _ => False
  | .error e => CX outer H s E e s'
structure FnOk (P : Program) (w : World) (K : PySem.W.Frag) (mg : Str → Option Value) (base : Heap) (CX : CXT) (k : Nat) (f : Addr) (fd : FuncData) (ps : List Str) (sp : Sp) : Prop where
  len : ∀ vs H Q E, sp vs H Q E → vs.length = ps.length
  run : ∀ (A : Around) (outer : List Env) (s : Shared) (H : Hp) (args : Args) (us : List Value) (vs : List V) (Q : VK) (E : XK), Room k A → Env0 P w K mg base A outer s H → BindsTo s fd args (ps.zip us) → Vals vs us → sp vs H Q E →
    codeAny (model P w) A (.call (.ref f) args) (CR CX outer P w H s Q E) s
theorem FnOk.mono {P : Program} {w : World} {K : PySem.W.Frag} {mg : Str → Option Value} {base : Heap} {CX : CXT} {j k : Nat} {f : Addr} {fd : FuncData} {ps : List Str} {sp : Sp} (F : FnOk P w K mg base CX j f fd ps sp) (h : j ≤ k) :
    FnOk P w K mg base CX k f fd ps sp := ⟨F.len, fun A outer s H args us vs Q E hr => F.run A outer s H args us vs Q E (hr.mono h)⟩
theorem FnOk.imp {P : Program} {w : World} {K : PySem.W.Frag} {mg : Str → Option Value} {base : Heap} {CX : CXT} {k : Nat} {f : Addr} {fd : FuncData} {ps : List Str} {sp sp' : Sp} (F : FnOk P w K mg base CX k f fd ps sp)
    (h : ∀ vs H Q E, sp' vs H Q E → sp vs H Q E) : FnOk P w K mg base CX k f fd ps sp' :=
  ⟨fun vs H Q E q => F.len vs H Q E (h _ _ _ _ q), fun A outer s H args us vs Q E hr he hb hv hs => F.run A outer s H args us vs Q E hr he hb hv (h _ _ _ _ hs)⟩
section
variable {X : Cx} {pins : List (Addr × Obj)} {σ : St} {H : Hp} {s s' : Shared}
theorem Inv.env0 (I : Inv X pins σ H s) : Env0 X.prog X.w X.K X.mg X.base X.A X.stack s H :=
  ⟨I.ok.frames, I.ok.mod, I.bs, Nat.le_trans I.ok.bsz I.sz, I.stack, I.stkFree, I.hok, I.bare⟩
theorem Inv.after {Q : VK} {u : Value} (I : Inv X pins σ H s) (h : CE X.stack X.prog X.w H s Q u s') : EP X pins σ Q u s' := by
  obtain ⟨v, H', os, bare, un, hok, r, q⟩ := h
  obtain ⟨hh, g, d, t, os'⟩ := s'
  obtain rfl : os' = s.os := os
  exact ⟨v, H', I.call (h' := hh) (g' := g) (d' := d) (t' := t) (ch := []) un hok bare (fun b z => absurd z (by simp)), r, q⟩
end
noncomputable def tCall (sp : Sp) (dvs : List V) (E : XK) (t : TA) : TE := fun σ H Q => t σ H fun vs H1 => sp (vs ++ dvs) H1 Q E
noncomputable def Binds (K : PySem.W.Frag) (fd : FuncData) (ps : List Str) (ds : List Value) : Prop :=
  ∀ (s : Shared) (us : List Value), K.In s.heap → (us ++ ds).length = ps.length → BindsTo s fd ⟨us, []⟩ (ps.zip (us ++ ds))
theorem Binds.all {K : PySem.W.Frag} {fd : FuncData} {ps : List Str} (h : ∀ us : List Value, us.length = ps.length → bindArgs fd ⟨us, []⟩ = pure (ps.zip us)) : Binds K fd ps [] := fun s us _ hl => by
  rw [List.append_nil] at hl ⊢
  exact .of_eq (h us hl)
noncomputable def Passes (CX : CXT) (X : Cx) (E : XK) : Prop := ∀ (pins : List (Addr × Obj)) (σ : St) (H : Hp) (s : Shared) (e : Value) (s' : Shared), Inv X pins σ H s → CX X.stack H s E e s' → X.xe e s'
section
variable {X : Cx} {CX : CXT} {k : Nat} {f C : Addr} {fd : FuncData} {ps : List Str} {sp : Sp} {dvs : List V} {ds : List Value} {E : XK} {x m : Str} {p pos apos : Pos} {e o : Expr} {es : List Expr} {ta : TE} {t : TA}
theorem run_fn {pins : List (Addr × Obj)} {σ : St} {H : Hp} {s : Shared} {Q : VK} {us : List Value} {vs : List V} (F : FnOk X.prog X.w X.K X.mg X.base CX k f fd ps sp) (hr : Room k X.A) (hb : Binds X.K fd ps ds) (hd : Vals dvs ds) (hx : Passes CX X E)
    (I : Inv X pins σ H s) (r : Vals vs us) (h : sp (vs ++ dvs) H Q E) : wpAny (model X.prog X.w) X.A (call (.ref f) us) (EP X pins σ Q) X.xe s := by
  have r2 : Vals (vs ++ dvs) (us ++ ds) := r.append hd
  have hl : (us ++ ds).length = ps.length := by rw [← r2.length]; exact F.len _ _ _ _ h
  refine wpAny_call (codeAny_mono (F.run X.A X.stack s H ⟨us, []⟩ (us ++ ds) (vs ++ dvs) Q E hr I.env0 (hb s us I.kIn hl) r2 h) fun r s' hq => ?_)
  cases r with
  | error e => exact hx pins σ H s e s' I hq
  | ok fl =>
    cases fl with
    | ret u => exact I.after hq
    | next => exact False.elim hq
    | brk => exact False.elim hq
    | cont => exact False.elim hq
theorem pe_call (F : FnOk X.prog X.w X.K X.mg X.base CX k f fd ps sp) (hr : Room k X.A) (hg : Gl X x) (hm : X.mg x = some (.ref f)) (hk : PySem.W.keepIn X.K (.ref f) = true) (hb : Binds X.K fd ps ds) (hd : Vals dvs ds) (hx : Passes CX X E)
    (ha : PA X (e :: es) t) (hdb : (x == ("__debug__" : Str)) = false := by decide) (he : starEach (e :: es) X.env = (false, eval e X.env) :: starEach es X.env := by rfl) (hpl : (backTo pos (starEach es X.env)).any (·.1) = false := by rfl) :
    PE X (.Call (.Name x p) (e :: es) [] pos) (tCall sp dvs E t) := by
  intro pins s σ H Q I h
  refine wpAny_Call_Name_kw (ld_glob I hg hm ?_ hdb)
  refine PySem.W.callWith_K (h₀ := X.base) I.ok.mod.kin hk (thn (ha pos pins s σ H _ I h) fun us s1 ⟨vs, H1, I1, r, q⟩ => ⟨I1.kIn, ?_⟩) he hpl
  exact run_fn F hr hb hd hx I1 r q
end
structure FnScope (N P : List Str) (sc : Scope) : Prop where
  kind : sc.kind = .function
  co : sc.isCoroutine = false
  gen : sc.isGenerator = false
  nd : N.Nodup
  pre : N.take P.length = P
  par : ∀ x ∈ P, sc.names.lookup x = some .local ∨ sc.names.lookup x = some .cell
  nofree : ∀ y ∈ sc.names, y.2 ≠ .free
theorem bindL_out {kindOf : Str → Option NameKind} {x : Str} : ∀ {binds : List (Str × Value)} {m : Str → Option Value}, (∀ v, (x, v) ∉ binds) → bindL kindOf binds m x = m x
  | [], _, _ => rfl
  | (n, v) :: r, m, h => by
    unfold bindL
    rw [bindL_out fun w hw => h w (List.mem_cons_of_mem _ hw)]
    split
    · have : x ≠ n := by rintro rfl; exact h v List.mem_cons_self
      simp [this]
    · rfl
theorem bindC_out {kindOf : Str → Option NameKind} {x : Str} : ∀ {binds : List (Str × Value)} {m : Str → Option Value}, (∀ v, (x, v) ∉ binds) → bindC kindOf binds m x = m x
  | [], _, _ => rfl
  | (n, v) :: r, m, h => by
    unfold bindC
    rw [bindC_out fun w hw => h w (List.mem_cons_of_mem _ hw)]
    split
    · rfl
    · have : x ≠ n := by rintro rfl; exact h v List.mem_cons_self
      simp [this]
theorem bindL_get {kindOf : Str → Option NameKind} {x : Str} {v : Value} : ∀ {P : List Str} {vs : List Value} {i : Nat} {m : Str → Option Value}, P.Nodup → P[i]? = some x → vs[i]? = some v → kindOf x = some .local →
    bindL kindOf (P.zip vs) m x = some v
  | [], _, _, _, _, h, _, _ => by simp at h
  | _ :: _, [], _, _, _, _, h, _ => by simp at h
  | p :: P, w :: vs, 0, m, nd, h1, h2, hk => by
    simp at h1 h2; subst h1; subst h2
    show bindL kindOf ((p, w) :: P.zip vs) m p = _
    unfold bindL
    rw [bindL_out fun v hv => (List.nodup_cons.mp nd).1 (List.of_mem_zip hv).1, if_pos hk]
    simp
  | p :: P, w :: vs, i + 1, m, nd, h1, h2, hk => by
    show bindL kindOf ((p, w) :: P.zip vs) m x = _
    unfold bindL
    exact bindL_get (i := i) (List.nodup_cons.mp nd).2 (by simpa using h1) (by simpa using h2) hk
theorem bindC_get {kindOf : Str → Option NameKind} {x : Str} {v : Value} : ∀ {P : List Str} {vs : List Value} {i : Nat} {m : Str → Option Value}, P.Nodup → P[i]? = some x → vs[i]? = some v → kindOf x ≠ some .local →
    bindC kindOf (P.zip vs) m x = some v
  | [], _, _, _, _, h, _, _ => by simp at h
  | _ :: _, [], _, _, _, _, h, _ => by simp at h
  | p :: P, w :: vs, 0, m, nd, h1, h2, hk => by
    simp at h1 h2; subst h1; subst h2
    show bindC kindOf ((p, w) :: P.zip vs) m p = _
    unfold bindC
    rw [bindC_out fun v hv => (List.nodup_cons.mp nd).1 (List.of_mem_zip hv).1, if_neg hk]
    simp
  | p :: P, w :: vs, i + 1, m, nd, h1, h2, hk => by
    show bindC kindOf ((p, w) :: P.zip vs) m x = _
    unfold bindC
    exact bindC_get (i := i) (List.nodup_cons.mp nd).2 (by simpa using h1) (by simpa using h2) hk
noncomputable def start (N : List Str) (vs : List V) : St := vs.map some ++ List.replicate (N.length - vs.length) none
noncomputable def cxOf (CX : CXT) (P : Program) (w : World) (K : PySem.W.Frag) (mg : Str → Option Value) (base : Heap) (N : List Str) (qual : Str) (scope : Scope) (f : Addr) (cd : Value) (A : Around) (outer : List Env) (s : Shared) (H : Hp) (E : XK) : Cx where
  prog := P
  w := w
  K := K
  mg := mg
  base := base
  A := A.deeper (envOfC qual scope s.heap.objs.size f cd)
  N := N
  s₀ := s
  H₀ := H
  env := envOfC qual scope s.heap.objs.size f cd
  outer := outer
  stack := envOfC qual scope s.heap.objs.size f cd :: outer
  ex := []
  calm := true
  fn := fun _ => true
  pn := []
  xe := fun e s' => wpAny (model P w) (A.deeper (envOfC qual scope s.heap.objs.size f cd)) («leaving» (envOfC qual scope s.heap.objs.size f cd) e) (fun _ s'' => CX outer H s E e s'') (fun e' s'' => CX outer H s E e' s'') s'
theorem cell_has {sc : Scope} {n : Nat} {x : Str} (h : sc.names.lookup x = some .cell) : ∃ c, (cellsFrom n sc.names []).lookup x = some c := by
  have q := PySem.W.cellsFrom_some sc.names n [] (.inl h)
  exact Option.isSome_iff_exists.mp q
theorem inv_start {CX : CXT} {P : Program} {w : World} {K : PySem.W.Frag} {mg : Str → Option Value} {base : Heap} {N ps : List Str} {qual : Str} {scope : Scope} {f : Addr} {cd : Value} {A : Around} {outer : List Env} {s s1 : Shared} {H : Hp} {E : XK} {us : List Value} {vs : List V}
    (S : FnScope N ps scope) (hd : A.handled = none) (e0 : Env0 P w K mg base A outer s H) (hl : vs.length = ps.length) (r : Vals vs us)
    (x : InCallC s s.heap.objs.size (bindL (envOfC qual scope s.heap.objs.size f cd).kindOf (ps.zip us) fun _ => none) (cellsFrom (s.heap.objs.size + 1) scope.names []) (bindC (envOfC qual scope s.heap.objs.size f cd).kindOf (ps.zip us) fun _ => none) s1) :
    Inv (cxOf CX P w K mg base N qual scope f cd A outer s H E) [] (start N vs) H s1 := by
  have hpl : ps.length ≤ N.length := by have := congrArg List.length S.pre; rw [List.length_take] at this; omega
  obtain ⟨h1, tk, rfl, hk⟩ := x.done
  have noA : ∀ b : Addr, b ∉ (cxOf CX P w K mg base N qual scope f cd A outer s H E).ex := fun b z => absurd (show b ∈ ([] : List Addr) from z) (by simp)
  refine ⟨⟨e0.mod, S.kind, rfl, rfl, Nat.le_refl _, fun y z c h1 h2 => ?_, fun y hy => ?_, fun y c _ h => ?_, fun _ => hd, Around.frames_deeper e0.frames, .inr ⟨rfl, rfl⟩, fun b z => absurd z (noA b), e0.bs, e0.bsz, fun b _ _ => noA b, fun b z => absurd z (noA b), e0.funs, e0.frf⟩,
    rfl, e0.bare, Un.kept hk, ⟨_, x.toInCall.ns, fun i y v h1 h2 h3 => ?_⟩, fun y c h => ⟨_, x.cell y c h⟩, e0.hok.fresh (Nat.le_refl _), fun y c h => ?_, fun p hp => absurd (show p ∈ ([] : List (Addr × Obj)) from hp) (by simp), e0.hok.kept hk, ?_⟩
  · exact name_of_addr x.apart (PySem.mem_of_lookup h1) (PySem.mem_of_lookup h2)
  · have hy : scope.names.lookup y = some .cell ∨ scope.names.lookup y = some .free := hy
    rcases hy with hy | hy
    · exact cell_has hy
    · exact absurd rfl (S.nofree _ (PySem.mem_of_lookup hy))
  · exact Nat.le_of_lt (x.above y c (PySem.mem_of_lookup h))
  · have hi : i < vs.length := by
      unfold start at h2
      by_cases hi : i < vs.length
      · exact hi
      · rw [List.getElem?_append_right (by simpa using hi)] at h2
        rw [List.getElem?_replicate] at h2
        split at h2 <;> cases h2
    have ha : vs[i]? = some v := by
      unfold start at h2
      rw [List.getElem?_append_left (by simpa using hi), List.getElem?_map] at h2
      cases e : vs[i]? with
      | none => rw [e] at h2; cases h2
      | some a => rw [e] at h2; cases h2; rfl
    obtain ⟨u, hu, rv⟩ := r.get ha
    have hp : ps[i]? = some y := by
      rw [← S.pre, List.getElem?_take_of_lt (by omega)]; exact h1
    have ndP : ps.Nodup := by rw [← S.pre]; exact S.nd.sublist (List.take_sublist _ _)
    refine ⟨u, rv, ?_⟩
    rcases S.par y (List.mem_of_getElem? hp) with k | k
    · exact .inl ⟨k, bindL_get ndP hp hu k⟩
    · obtain ⟨c, e⟩ := cell_has (n := s.heap.objs.size + 1) k
      refine .inr ⟨.inl k, c, e, ?_⟩
      have q := x.cell y c e
      rw [bindC_get ndP hp hu (by show scope.names.lookup y ≠ _; rw [k]; decide)] at q
      exact q
  · exact e0.hok.fresh (Nat.le_of_lt (x.above y c (PySem.mem_of_lookup h)))
  · unfold start
    show _ = N.length
    rw [List.length_append, List.length_map, List.length_replicate]
    omega
theorem fn_of {CX : CXT} {P : Program} {w : World} {K : PySem.W.Frag} {mg : Str → Option Value} {base : Heap} {k : Nat} {f : Addr} {name qual : Str} {params : Arguments} {body : List Stmt} {scope : Scope} {dV kV doc pm cdv ct oc : Value} {an od : Option Addr}
    {osl : Array (Option Value)} {N ps : List Str} {sp : Sp} (lk : K.lookup f = some ⟨oc, od, .func (PySem.W.fnOf name qual params body scope dV kV doc pm an cdv ct), osl⟩) (hcd : PySem.W.codeIn K cdv qual = true) (S : FnScope N ps scope)
    (len : ∀ vs H Q E, sp vs H Q E → vs.length = ps.length)
    (hbody : ∀ (A : Around) (outer : List Env) (s : Shared) (H : Hp) (vs : List V) (Q : VK) (E : XK), Room k (A.deeper (envOfC qual scope s.heap.objs.size f cdv)) → sp vs H Q E →
      ∃ t, PSs (cxOf CX P w K mg base N qual scope f cdv A outer s H E) body t ∧ t { nx := fun _ H' => Q .non H', rt := Q } (start N vs) H) :
    FnOk P w K mg base CX (k + 1) f (PySem.W.fnOf name qual params body scope dV kV doc pm an cdv ct) ps sp := by
  refine ⟨len, fun A outer s H args us vs Q E hr e0 hb r hsp => ?_⟩
  have hl := len _ _ _ _ hsp
  have KX : K.In s.heap := e0.mod.kin.keeps fun b o e => (e0.bs b o e).1
  have lim : s.heap.NoLimit := e0.mod.nolimit.keeps fun b o e => (e0.bs b o e).1
  have hkind : ∀ y ∈ ps.zip us, scope.names.lookup y.1 = some .local ∨ (scope.names.lookup y.1 = some .cell ∧ ((cellsFrom (s.heap.objs.size + 1) scope.names []).lookup y.1).isSome = true) := fun ⟨n, v⟩ hy => by
    rcases S.par n (List.of_mem_zip hy).1 with q | q
    · exact .inl q
    · exact .inr ⟨q, PySem.W.cellsFrom_some _ _ _ (.inl q)⟩
  refine codeAny_call_function hr.depth (KX _ _ lk) rfl S.co S.gen rfl (PySem.W.codeRec_of KX hcd) (hb _ _ _ _ ?_)
  refine wpAny_newFunctionEnv_cells S.kind hkind fun env he s1 x => ?_
  subst he
  refine ⟨lim.keeps x.toInCall.keep, codeAny_func ?_⟩
  obtain ⟨t, ht, hq⟩ := hbody A outer s H vs Q E (hr.deeper _) hsp
  have I : Inv (cxOf CX P w K mg base N qual scope f cdv A outer s H E) [] (start N vs) H s1 := inv_start S hr.hd e0 hl r x
  refine wpAny_mono (ht [] s1 (start N vs) H _ I hq) (fun fl s' hs => ?_) fun e s' hs => hs
  have fin : ∀ {σ' : St} {H' : Hp} {v : V} {u : Value}, Inv (cxOf CX P w K mg base N qual scope f cdv A outer s H E) [] σ' H' s' → RelV v u → Q v H' → CE outer P w H s Q u s' :=
    fun {σ' H' v u} J rv q => ⟨v, H', J.os, J.bare, J.base, J.hok, rv, q⟩
  cases fl with
  | ret u =>
    obtain ⟨v, σ', H', J, rv, q⟩ := hs
    exact fin J rv q
  | next =>
    obtain ⟨σ', H', J, q⟩ := hs
    exact fin (v := V.non) (u := Value.none) J rfl q
  | brk =>
    obtain ⟨_, _, _, q⟩ := hs
    exact False.elim q
  | cont =>
    obtain ⟨_, _, _, q⟩ := hs
    exact False.elim q
end L2
namespace L2
open PySem PySem.Spec PyProof.Rows
section
variable {X : Cx} {x : Str} {p pos : Pos} {e : Expr} {es : List Expr} {t : TA} {id T : String} {r : List V → Hp → VK → Prop}
noncomputable def tCB (r : List V → Hp → VK → Prop) (t : TA) : TE := fun σ H Q => t σ H fun vs H1 => r vs H1 Q
theorem pe_callB (hc : CallR X (.builtin id) r) (hg : Gl X x) (hm : X.mg x = none) (hv : bootBuiltins x = some (.builtin id)) (ha : PA X (e :: es) t) (hn : x ≠ "__name__" := by decide) (hdb : (x == ("__debug__" : Str)) = false := by decide)
    (he : starEach (e :: es) X.env = (false, eval e X.env) :: starEach es X.env := by rfl) (hpl : (backTo pos (starEach es X.env)).any (·.1) = false := by rfl) : PE X (.Call (.Name x p) (e :: es) [] pos) (tCB r t) := by
  intro pins s σ H Q I h
  refine wpAny_Call_Name_kw (ld_blt I hg hm hv ?_ hn hdb)
  exact PyProof.Rows.callWith_builtin1 (thn (ha pos pins s σ H _ I h) fun us s1 ⟨vs, H1, I1, r1, q1⟩ => hc pins s1 σ H1 vs us Q I1 r1 q1) he hpl
theorem pe_callTy (hc : CallR X (.type T) r) (hg : Gl X x) (hm : X.mg x = none) (hv : bootBuiltins x = some (.type T)) (ha : PA X (e :: es) t) (hn : x ≠ "__name__" := by decide) (hdb : (x == ("__debug__" : Str)) = false := by decide)
    (he : starEach (e :: es) X.env = (false, eval e X.env) :: starEach es X.env := by rfl) (hpl : (backTo pos (starEach es X.env)).any (·.1) = false := by rfl) : PE X (.Call (.Name x p) (e :: es) [] pos) (tCB r t) := by
  intro pins s σ H Q I h
  refine wpAny_Call_Name_kw (ld_blt I hg hm hv ?_ hn hdb)
  exact PyProof.Rows.callWith_type1 (thn (ha pos pins s σ H _ I h) fun us s1 ⟨vs, H1, I1, r1, q1⟩ => hc pins s1 σ H1 vs us Q I1 r1 q1) he hpl
end
end L2
namespace HT
open PySem PyProof.Rows
section
open PySem.SeqAt
open PySem.AutoSeq1 (wpAny_loadPart')
open PySem.MeetsSeq PySem.MeetsSeq2 PySem.MeetsSeq3
end
section
variable {prog : Program} {w : World} {A : Around} {E : Value → Shared → Prop} {s : Shared}
noncomputable def sIx (n d : Nat) : Option Int → Nat
  | none => d
  | some v => if v < 0 then (v + (n : Int)).toNat else min v.toNat n
end
end HT
namespace L2
open PySem PySem.Spec PyProof.Rows
noncomputable abbrev TO := St → Hp → (Option Int → Hp → Prop) → Prop
noncomputable def PO (X : Cx) (e : Option Expr) (t : TO) : Prop :=
  ∀ (pins : List (Addr × Obj)) (s : Shared) (σ : St) (H : Hp) (Q : Option Int → Hp → Prop), Inv X pins σ H s → t σ H Q →
    wpAny (model X.prog X.w) X.A (evalPart e X.env) (fun u s' => ∃ o H', Inv X pins σ H' s' ∧ IsPart u o ∧ Q o H') X.xe s
noncomputable def tPart (t : TE) : TO := fun σ H Q => t σ H fun x H1 => ∃ i, x = .int i ∧ Q (some i) H1
section
variable {X : Cx} {e : Expr} {te : TE} {lo hi : Option Expr} {tl th : TO} {pos p2 : Pos}
theorem po_some (h : PE X e te) : PO X (some e) (tPart te) := by
  intro pins s σ H Q I hw
  rw [evalPart_some]
  refine thn (h pins s σ H _ I hw) fun u s1 ⟨x, H1, I1, r1, q1⟩ => ?_
  obtain ⟨i, rfl, q⟩ := q1
  obtain ⟨t, rfl⟩ := r1
  exact ⟨some i, H1, I1, .int i t, q⟩
noncomputable def SlR (X : Cx) (r : V → Option Int → Option Int → Hp → VK → Prop) : Prop :=
  ∀ (pins : List (Addr × Obj)) (s : Shared) (σ : St) (H : Hp) (x : V) (v vl vu : Value) (lo hi : Option Int) (sl : Addr) (Q : VK), Inv X pins σ H s → RelV x v → s.heap.IsSliceOf sl vl vu .none → IsPart vl lo → IsPart vu hi → r x lo hi H Q →
    ∃ T id, typeLookup (.type T) "__getitem__" = pure (some (.builtin id)) ∧ s.TypeIs v T ∧ wpAny (model X.prog X.w) X.A (getItem v (.ref sl)) (EP X pins σ Q) X.xe s
noncomputable def tSl (r : V → Option Int → Option Int → Hp → VK → Prop) (te : TE) (tl th : TO) : TE := fun σ H Q => te σ H fun x H1 => tl σ H1 fun l H2 => th σ H2 fun u H3 => r x l u H3 Q
theorem pe_slice {r : V → Option Int → Option Int → Hp → VK → Prop} (hr : SlR X r) (he : PE X e te) (hl : PO X lo tl) (hu : PO X hi th) : PE X (.Subscript e (.Slice lo hi none p2) pos) (tSl r te tl th) := by
  intro pins s σ H Q I h
  refine Subscript_ (thn (he pins s σ H _ I h) fun v s1 ⟨x, H1, I1, r1, q1⟩ => ?_)
  refine wpAny_Slice (thn (hl pins s1 σ H1 _ I1 q1) fun vl s2 ⟨l, H2, I2, pl, q2⟩ => thn (hu pins s2 σ H2 _ I2 q2) fun vu s3 ⟨u, H3, I3, pu, q3⟩ => ?_)
  rw [evalPart_none]
  refine wpAny_pure ?_
  have I4 : Inv X pins σ H3 { s3 with heap := s3.heap.push { cls := .type "slice", data := .fields #[vl, vu, .none] } } := I3.kept (t' := s3.toks) fun b ob q => Heap.get?_push_of_some _ q
  obtain ⟨T, id, hT, ht, hg⟩ := hr pins { s3 with heap := s3.heap.push { cls := .type "slice", data := .fields #[vl, vu, .none] } } σ H3 x v vl vu l u s3.heap.objs.size Q I4 r1 (Heap.IsSliceOf.new ..) pl pu q3
  show wpAny (model X.prog X.w) X.A (subscriptTail e (.Slice lo hi none p2) v (.ref s3.heap.objs.size)) (EP X pins σ Q) X.xe { s3 with heap := s3.heap.push { cls := .type "slice", data := .fields #[vl, vu, .none] } }
  exact tail_any (ops := [.ref s3.heap.objs.size, v]) ht hT hg (by with_unfolding_all rfl)
noncomputable def cutV (xs : List V) (lo hi : Option Int) : List V := (xs.drop (HT.sIx xs.length 0 lo)).take (HT.sIx xs.length xs.length hi - HT.sIx xs.length 0 lo)
theorem cutV_length (xs : List V) (lo hi : Option Int) : (cutV xs lo hi).length ≤ xs.length := by
  unfold cutV
  rw [List.length_take, List.length_drop]
  omega
end
end L2
namespace L2
open PySem PySem.Spec PyProof.Rows
noncomputable def ixN (n : Nat) (i : Int) : Option Nat := if 0 ≤ i then (if i < n then some i.toNat else none) else if -(n : Int) ≤ i then some (i + n).toNat else none
noncomputable def atI {α : Type} (xs : List α) (i : Int) : Option α := (ixN xs.length i).bind fun j => xs[j]?
theorem ixN_seq {n : Nat} {i : Int} {j : Nat} (h : ixN n i = some j) : seqIndex? i n = some j ∧ j < n ∧ -(n : Int) ≤ i ∧ i < n := by
  unfold ixN at h
  by_cases h0 : 0 ≤ i
  · rw [if_pos h0] at h
    by_cases h1 : i < n
    · rw [if_pos h1] at h
      have e : i.toNat = j := Option.some.inj h
      exact ⟨by rw [seqIndex_of h0 h1, e], by omega, by omega, h1⟩
    · rw [if_neg h1] at h; cases h
  · rw [if_neg h0] at h
    by_cases h1 : -(n : Int) ≤ i
    · rw [if_pos h1] at h
      have e : (i + n).toNat = j := Option.some.inj h
      exact ⟨by rw [seqIndex_neg (by omega) h1, e], by omega, h1, by omega⟩
    · rw [if_neg h1] at h; cases h
theorem atI_get {α : Type} {xs : List α} {i : Int} {v : α} (h : atI xs i = some v) : ∃ j, seqIndex? i xs.length = some j ∧ xs[j]? = some v ∧ j < xs.length ∧ -(xs.length : Int) ≤ i ∧ i < xs.length := by
  unfold atI at h
  cases e : ixN xs.length i with
  | none => rw [e] at h; cases h
  | some j =>
    rw [e] at h
    obtain ⟨h1, h2, h3, h4⟩ := ixN_seq e
    exact ⟨j, h1, h, h2, h3, h4⟩
theorem atI_nat {α : Type} {xs : List α} {j : Nat} {v : α} (h : xs[j]? = some v) : atI xs (j : Int) = some v := by
  have hj : j < xs.length := (List.getElem?_eq_some_iff.mp h).1
  have e : ixN xs.length (j : Int) = some j := by
    unfold ixN
    rw [if_pos (by omega), if_pos (by omega)]; simp
  unfold atI; rw [e]; exact h
noncomputable def PlainIx (b : Expr) : Prop := ∀ o i, subscripted b false o i = operate [o, i] (getItem o i)
noncomputable def IxR (X : Cx) (r : R2) : Prop :=
  ∀ (value slice : Expr) (pins : List (Addr × Obj)) (s : Shared) (σ : St) (H : Hp) (x y : V) (v u : Value) (Q : VK), Inv X pins σ H s → RelV x v → RelV y u → r x y H Q →
    subscripted slice false v u = operate [v, u] (getItem v u) → wpAny (model X.prog X.w) X.A (subscriptTail value slice v u) (EP X pins σ Q) X.xe s
noncomputable def MtR (X : Cx) (id : String) (r : V → List V → Hp → VK → Prop) : Prop :=
  ∀ (pins : List (Addr × Obj)) (s : Shared) (σ : St) (H : Hp) (x : V) (xs : List V) (v : Value) (us : List Value) (Q : VK), Inv X pins σ H s → RelV x v → Vals xs us → r x xs H Q →
    wpAny (model X.prog X.w) X.A (call (.builtin id) (v :: us)) (EP X pins σ Q) X.xe s
section
variable {X : Cx} {a b : Expr} {ta tb : TE} {pos : Pos}
theorem pe_ix {r : R2} (hr : IxR X r) (ha : PE X a ta) (hb : PE X b tb) (hs : PlainIx b) : PE X (.Subscript a b pos) (tOp r ta tb) := by
  intro pins s σ H Q I h
  exact Subscript_ (binT ha hb I h fun v u s2 x y H2 I2 rx ry q => hr a b pins s2 σ H2 x y v u Q I2 rx ry q (hs _ _))
noncomputable def rIxL (K : PySem.W.Frag) : R2 := fun x y H Q => ∃ p xs i v, x = .ref p ∧ y = .int i ∧ SqL K H p xs ∧ atI xs i = some v ∧ Q v H
noncomputable def rIxT (K : PySem.W.Frag) : R2 := fun x y H Q => ∃ p xs i v, x = .ref p ∧ y = .int i ∧ SqT K H p xs ∧ atI xs i = some v ∧ Q v H
theorem ix_list : IxR X (rIxL X.K) := by
  intro value slice pins s σ H x y v u Q I rx ry h hs
  obtain ⟨p, xs, i, z, rfl, rfl, hq, he, q⟩ := h
  cases rx
  obtain ⟨t, rfl⟩ := ry
  obtain ⟨its, r, pl, hz⟩ := I.list hq
  obtain ⟨j, h1, h2, h3, h4, h5⟩ := atI_get he
  obtain ⟨w, ew, rw'⟩ := r.get h2
  have hl := r.length
  have hn := line63
  have fin : EP X pins σ Q w s := ⟨z, H, I, rw', q⟩
  by_cases h0 : 0 ≤ i
  · have hj : i.toNat = j := by
      rw [seqIndex_of h0 h5] at h1
      exact Option.some.inj h1
    exact item_listR pl.isList h0 (by omega) (by rw [hj]; simpa using ew) fin hs
  · have hj : (i + (its.toArray.size : Int)).toNat = j := by
      rw [seqIndex_neg (by omega) h4] at h1
      rw [List.size_toArray, ← hl]
      exact Option.some.inj h1
    exact subscriptTail_builtinR (x := w) pl.isList.typeIs slot_list_getitem.lookup
      (wpAny_getItem_list_neg (Q := fun r s' => r = w ∧ EP X pins σ Q r s') pl.isList (by omega) (by rw [List.size_toArray] <;> omega) (by omega) (by rw [hj]; simpa using ew) ⟨rfl, fin⟩) hs
theorem ix_tup : IxR X (rIxT X.K) := by
  intro value slice pins s σ H x y v u Q I rx ry h hs
  obtain ⟨p, xs, i, z, rfl, rfl, hq, he, q⟩ := h
  cases rx
  obtain ⟨t, rfl⟩ := ry
  obtain ⟨its, r, pl, hz⟩ := I.tuple hq
  obtain ⟨j, h1, h2, h3, h4, h5⟩ := atI_get he
  obtain ⟨w, ew, rw'⟩ := r.get h2
  have hl := r.length
  have hn := line63
  have fin : EP X pins σ Q w s := ⟨z, H, I, rw', q⟩
  exact subscriptTail_builtinR (x := w) pl.typeIs slot_tuple_getitem.lookup
    (getItem_tuple (j := j) (Q := fun r s' => r = w ∧ EP X pins σ Q r s') pl (by omega) (by omega) (by rw [List.size_toArray, ← hl]; exact h1) (by simpa using ew) ⟨rfl, fin⟩) hs
theorem mapSeq_set (its : List Value) (n j : Nat) (u : Value) : Obj.mapSeq (·.setIfInBounds j u) { cls := .type "list", data := .seq its.toArray n } = { cls := .type "list", data := .seq (its.set j u).toArray n } := by
  simp [Obj.mapSeq]
theorem Inv.lst {pins : List (Addr × Obj)} {σ : St} {H : Hp} {s : Shared} {p : Addr} {xs : List V} (I : Inv X pins σ H s) (h : H p = some (.lst xs)) :
    ∃ (its : List Value) (n : Nat), Vals xs its ∧ s.heap.get? p = some { cls := .type "list", data := .seq its.toArray n } ∧ xs.length ≤ sizeLine := by
  obtain ⟨z, its, n, r, e⟩ := I.hok p _ h
  exact ⟨its, n, r, e, z⟩
theorem Inv.lstUpd {pins : List (Addr × Obj)} {σ : St} {H : Hp} {s : Shared} {p : Addr} {xs ys : List V} {its its' : List Value} {n n' : Nat} {f : Obj → Obj} (I : Inv X pins σ H s) (h : H p = some (.lst xs))
    (ho : s.heap.get? p = some { cls := .type "list", data := .seq its.toArray n }) (hf : f { cls := .type "list", data := .seq its.toArray n } = { cls := .type "list", data := .seq its'.toArray n' }) (r : Vals ys its') (hz : ys.length ≤ sizeLine) (t : Nat) :
    Inv X pins σ (upd H p (.lst ys)) { s with heap := s.heap.update p f, toks := t } := by
  have e : (s.heap.update p f).get? p = some { cls := .type "list", data := .seq its'.toArray n' } := by
    rw [Heap.get?_update_self f ho (by rw [hf] <;> rfl), hf]
  refine I.write (x := p) (e := p) (by rw [h]; trivial) (.inl rfl) (fun b u hb q => (Heap.get?_update_other _ _ (Ne.symm hb)).trans q) ⟨_, e⟩ ?_
  exact ⟨hz, its', n', r, e⟩
noncomputable def rSetL : V → V → V → Hp → (Hp → Prop) → Prop := fun o i v H Q => ∃ p xs k j, o = .ref p ∧ i = .int k ∧ H p = some (.lst xs) ∧ ixN xs.length k = some j ∧ Q (upd H p (.lst (xs.set j v)))
theorem set_list : PSet X rSetL := by
  intro pins s σ H o i v ov iv u Q I ro ri rv h
  obtain ⟨p, xs, k, j, rfl, rfl, hp, hj, q⟩ := h
  cases ro
  obtain ⟨t, rfl⟩ := ri
  obtain ⟨its, n, r, ho, hz⟩ := I.lst hp
  obtain ⟨h1, h2, h3, h4⟩ := ixN_seq hj
  have hl := r.length
  have hn := line63
  have I' : Inv X pins σ (upd H p (.lst (xs.set j v))) { s with heap := s.heap.update p (Obj.mapSeq (·.setIfInBounds j u)) } :=
    I.lstUpd hp ho (mapSeq_set its n j u) (r.set rv j) (by rw [List.length_set]; exact hz) s.toks
  by_cases h0 : 0 ≤ k
  · have hk : k.toNat = j := by
      rw [seqIndex_of h0 h4] at h1
      exact Option.some.inj h1
    exact PySem.W.ki_setAt ho h0 (by omega) (by rw [List.size_toArray, ← hl]; exact h4) (by rw [hk]; exact ⟨_, I', q⟩)
  · have hk : (k + (its.toArray.size : Int)).toNat = j := by
      rw [seqIndex_neg (by omega) h3] at h1
      rw [List.size_toArray, ← hl]
      exact Option.some.inj h1
    exact PySem.W.ki_setBack ho (by omega) (by rw [List.size_toArray, ← hl]; exact h3) (by omega) (by rw [hk]; exact ⟨_, I', q⟩)
theorem slice_bounds (lo hi : Option Int) (n : Nat) : (sliceBounds lo hi none n).1 = ((HT.sIx n 0 lo : Nat) : Int) ∧ (sliceBounds lo hi none n).2.1 = ((HT.sIx n n hi : Nat) : Int) ∧ (sliceBounds lo hi none n).2.2 = 1 := by
  refine ⟨?_, ?_, rfl⟩
  · cases lo with
    | none => simp [sliceBounds, HT.sIx]
    | some i =>
      simp only [sliceBounds, HT.sIx, Option.getD_none, show (1 : Int) > 0 by decide, if_true]
      by_cases h : i < 0
      · simp only [h, if_true] <;> omega
      · simp only [h, if_false] <;> omega
  · cases hi with
    | none => simp [sliceBounds, HT.sIx]
    | some i =>
      simp only [sliceBounds, HT.sIx, Option.getD_none, show (1 : Int) > 0 by decide, if_true]
      by_cases h : i < 0
      · simp only [h, if_true] <;> omega
      · simp only [h, if_false] <;> omega
theorem slicePick_cut (its : List Value) (lo hi : Option Int) : slicePick its.toArray lo hi none = ((its.drop (HT.sIx its.length 0 lo)).take (HT.sIx its.length its.length hi - HT.sIx its.length 0 lo)).toArray := by
  obtain ⟨h1, h2, h3⟩ := slice_bounds lo hi its.toArray.size
  unfold slicePick
  rw [h1, h2, h3]
  simp only [sliceRange_one, pick_run, List.size_toArray] <;> rfl
noncomputable def rSlL (K : PySem.W.Frag) : V → Option Int → Option Int → Hp → VK → Prop := fun x lo hi H Q => ∃ a xs, x = .ref a ∧ SqL K H a xs ∧ ∀ p, H p = none → Q (.ref p) (upd H p (.lst (cutV xs lo hi)))
theorem sl_list : SlR X (rSlL X.K) := by
  intro pins s σ H x v vl vu lo hi sl Q I rx hs pl pu h
  obtain ⟨a, xs, rfl, hx, q⟩ := h
  cases rx
  obtain ⟨its, r, ht, hz⟩ := I.list hx
  have hlen := r.length
  refine ⟨"list", _, slot_list_getitem.lookup, ht.isList.typeIs, ?_⟩
  refine wpAny_getItem_list_slice ht.isList hs pl pu .none (by simp) ?_ (by rw [List.size_toArray] <;> omega)
  rw [slicePick_cut, ← hlen]
  refine ⟨.ref s.heap.objs.size, _, I.laid (t' := s.toks) (o := .lst (cutV xs lo hi)) (fun b ob q => Heap.get?_push_of_some _ q) (Nat.le_refl _) ?_, rfl, q _ (I.hok.fresh (Nat.le_refl _))⟩
  exact ⟨Nat.le_trans (cutV_length xs lo hi) hz, _, 0, (r.drop (HT.sIx xs.length 0 lo)).take (HT.sIx xs.length xs.length hi - HT.sIx xs.length 0 lo), Heap.get?_push_size _ rfl⟩
noncomputable def flatV : V → Bool
  | .non => true
  | .bl _ => true
  | .int _ => true
  | .str _ => true
  | _ => false
noncomputable def eqV : V → V → Bool
  | .non, .non => true
  | .bl a, .bl b => a == b
  | .bl a, .int b => (if a then 1 else 0) == b
  | .int a, .bl b => a == (if b then 1 else 0)
  | .int a, .int b => a == b
  | .str a, .str b => a == b
  | _, _ => false
theorem eqAt_V {A : Around} {s : Shared} {y x : V} {u v : Value} (ry : RelV y u) (rx : RelV x v) (fy : flatV y = true) (fx : flatV x = true) : SeqAt.EqAt A s u v (eqV y x) := by
  cases y with
  | non =>
    cases ry
    cases x with
    | non => cases rx; exact SeqAt.EqAt.same _
    | bl b => cases rx; exact SeqAt.EqAt.none_bool b
    | int b => obtain ⟨t, rfl⟩ := rx; exact SeqAt.EqAt.none_int b t
    | str b => obtain ⟨t, rfl⟩ := rx; exact SeqAt.EqAt.none_str b t
    | _ => exact absurd (show false = true from fx) Bool.false_ne_true
  | bl a =>
    cases ry
    cases x with
    | non => cases rx; exact SeqAt.EqAt.bool_none a
    | bl b => cases rx; exact SeqAt.EqAt.bool_bool a b
    | int b => obtain ⟨t, rfl⟩ := rx; exact SeqAt.EqAt.bool_int a b t
    | str b => obtain ⟨t, rfl⟩ := rx; exact SeqAt.EqAt.bool_str a b t
    | _ => exact absurd (show false = true from fx) Bool.false_ne_true
  | int a =>
    obtain ⟨t', rfl⟩ := ry
    cases x with
    | non => cases rx; exact SeqAt.EqAt.int_none a t'
    | bl b => cases rx; exact SeqAt.EqAt.int_bool a t' b
    | int b => obtain ⟨t, rfl⟩ := rx; exact SeqAt.EqAt.int_int a t' b t
    | str b => obtain ⟨t, rfl⟩ := rx; exact SeqAt.EqAt.int_str a t' b t
    | _ => exact absurd (show false = true from fx) Bool.false_ne_true
  | str a =>
    obtain ⟨t', rfl⟩ := ry
    cases x with
    | non => cases rx; exact SeqAt.EqAt.str_none a t'
    | bl b => cases rx; exact SeqAt.EqAt.str_bool a t' b
    | int b => obtain ⟨t, rfl⟩ := rx; exact SeqAt.EqAt.str_int a t' b t
    | str b => obtain ⟨t, rfl⟩ := rx; exact SeqAt.EqAt.str_str a t' b t
    | _ => exact absurd (show false = true from fx) Bool.false_ne_true
  | _ => exact absurd (show false = true from fy) Bool.false_ne_true
theorem call_len_seq : CallR X (.builtin "len") (fun xs H Q => ∃ p ys, xs = [.ref p] ∧ (SqL X.K H p ys ∨ SqT X.K H p ys) ∧ Q (.int ys.length) H) := by
  intro pins s σ H xs us Q I r h
  obtain ⟨p, ys, rfl, hq, q⟩ := h
  obtain ⟨u, rfl, rx⟩ := vals1 r
  cases rx
  have hn := line63
  rcases hq with hq | hq
  · obtain ⟨its, r', pl, hz⟩ := I.list hq
    have hlen := r'.length
    exact Calls.call_len_list pl.isList (by simp only [List.size_toArray] <;> omega) ⟨.int ys.length, H, I.tok _, ⟨s.toks + 1, by rw [List.size_toArray, hlen]⟩, q⟩
  · obtain ⟨its, r', pl, hz⟩ := I.tuple hq
    have hlen := r'.length
    exact len_tuple pl (by simp only [List.size_toArray] <;> omega) ⟨.int ys.length, H, I.tok _, ⟨s.toks + 1, by rw [List.size_toArray, hlen]⟩, q⟩
theorem call_list_of : CallR X (.type "list") (fun xs H Q => ∃ p ys, xs = [.ref p] ∧ (SqL X.K H p ys ∨ SqT X.K H p ys) ∧ ∀ l, H l = none → Q (.ref l) (upd H l (.lst ys))) := by
  intro pins s σ H xs us Q I r h
  obtain ⟨p, ys, rfl, hq, q⟩ := h
  obtain ⟨u, rfl, rx⟩ := vals1 r
  cases rx
  have fin : ∀ (its : List Value), Vals ys its → ys.length ≤ sizeLine → ∀ (h' : Heap) (c' : Nat), (∀ b o', s.heap.get? b = some o' → h'.get? b = some o') →
      h'.get? s.heap.objs.size = some { cls := .type "list", dict := none, data := .seq its.toArray c', slots := #[] } → EP X pins σ Q (.ref s.heap.objs.size) { s with heap := h' } := fun its r' hz h' c' kp e =>
    ⟨.ref s.heap.objs.size, _, I.laid (t' := s.toks) kp (Nat.le_refl _) (show ObjOk X.prog X.w _ h' _ (.lst ys) from ⟨hz, its, c', r', e⟩), rfl, q _ (I.hok.fresh (Nat.le_refl _))⟩
  rcases hq with hq | hq
  · obtain ⟨its, r', pl, hz⟩ := I.list hq
    have hlen := r'.length
    obtain ⟨o, ho, hc, n, hd⟩ := pl.isList
    exact call_list_seq p (.inl rfl) ho hc hd (fun h' c' kp e => fin its r' hz h' c' kp e) (by simp only [List.size_toArray] <;> omega)
  · obtain ⟨its, r', pl, hz⟩ := I.tuple hq
    have hlen := r'.length
    obtain ⟨o, ho, hc, n, hd⟩ := pl
    exact call_list_seq p (.inr rfl) ho hc hd (fun h' c' kp e => fin its r' hz h' c' kp e) (by simp only [List.size_toArray] <;> omega)
noncomputable def tyV (K : PySem.W.Frag) (T : String) (x : V) (H : Hp) : Prop := match x with
  | .str _ => T = "str"
  | .int _ => T = "int"
  | .ref p => (T = "list" ∧ ∃ xs, SqL K H p xs) ∨ (T = "tuple" ∧ ∃ o, K.lookup p = some o ∧ o.cls = .type "tuple" ∧ o.dict = none) ∨
      (T = "dict" ∧ ((∃ kvs, H p = some (.dK kvs)) ∨ ∃ kvs, H p = some (.dT kvs))) ∨ (T = "set" ∧ ∃ S n, H p = some (.set S n))
  | _ => False
theorem tyV_is {pins : List (Addr × Obj)} {σ : St} {H : Hp} {s : Shared} {T : String} {x : V} {v : Value} (I : Inv X pins σ H s) (r : RelV x v) (ty : tyV X.K T x H) :
    s.TypeIs v T ∧ ∀ a, v = .ref a → ∃ ob, s.heap.get? a = some ob ∧ ob.dict = none := by
  cases x with
  | str z =>
    obtain ⟨t, rfl⟩ := r
    cases (show T = "str" from ty)
    exact ⟨typeIs_str s z t, fun _ e => nomatch e⟩
  | int i =>
    obtain ⟨t, rfl⟩ := r
    cases (show T = "int" from ty)
    exact ⟨typeIs_int s i t, fun _ e => nomatch e⟩
  | ref p =>
    cases r
    rcases ty with ⟨rfl, xs, hq⟩ | ⟨rfl, o, hk, hc, hd⟩ | ⟨rfl, hk⟩ | ⟨rfl, S, n, hk⟩
    · obtain ⟨its, _, pl, _⟩ := I.list hq
      refine ⟨pl.isList.typeIs, fun a e => ?_⟩
      cases e
      obtain ⟨o, n, e, c, hd, _⟩ := pl
      exact ⟨o, e, hd⟩
    · refine ⟨⟨o, I.kIn p o hk, hc⟩, fun a e => ?_⟩
      cases e
      exact ⟨o, I.kIn _ o hk, hd⟩
    · have z : ∃ o, s.heap.get? p = some o ∧ o.ExactDict := by
        rcases hk with ⟨kvs, hk⟩ | ⟨kvs, hk⟩
        · obtain ⟨_, _, _, _, o, _, _, e, ex, _⟩ := I.hok p _ hk
          exact ⟨o, e, ex⟩
        · obtain ⟨_, _, _, _, o, _, _, e, ex, _⟩ := I.hok p _ hk
          exact ⟨o, e, ex⟩
      obtain ⟨o, e, ex⟩ := z
      refine ⟨⟨o, e, ex.1⟩, fun a e2 => ?_⟩
      cases e2
      exact ⟨o, e, ex.2.1⟩
    · obtain ⟨o, _, _, _, e, ex, _⟩ := I.hok p _ hk
      refine ⟨⟨o, e, ex.1⟩, fun a e2 => ?_⟩
      cases e2
      exact ⟨o, e, ex.2.1⟩
  | _ => exact False.elim ty
noncomputable def tBM0 (K : PySem.W.Frag) (T : String) (r : V → List V → Hp → VK → Prop) (to : TE) : TE := fun σ H Q => to σ H fun x H1 => tyV K T x H1 ∧ r x [] H1 Q
noncomputable def tBM (K : PySem.W.Frag) (T : String) (r : V → List V → Hp → VK → Prop) (to : TE) (t : TA) : TE := fun σ H Q => to σ H fun x H1 => tyV K T x H1 ∧ t σ H1 fun xs H2 => r x xs H2 Q
variable {o e : Expr} {es : List Expr} {to : TE} {t : TA} {name : Str} {apos cpos : Pos} {T id : String} {r : V → List V → Hp → VK → Prop}
theorem pe_bm0 (pa : PlainAttrs T) (slot : Slot T name id) (hty : typeOf (.builtin id) = pure (.type "method_descriptor")) (hm : MtR X id r) (ho : PE X o to)
    (hbase : attributeBase o name X.env (eval o X.env) = eval o X.env := by rfl) (hline : (apos.endLine == cpos.line) = true := by rfl) : PE X (.Call (.Attribute o name apos) [] [] cpos) (tBM0 X.K T r to) := by
  intro pins s σ H Q I h
  refine wpAny_Call_method0_late hbase hline (thn (ho pins s σ H _ I h) fun v s1 ⟨x, H1, I1, r1, ty, q1⟩ => ?_)
  obtain ⟨h1, h2⟩ := tyV_is I1 r1 ty
  exact ⟨T, id, pa, slot, hty, h1, h2, Calls.callWith_builtin rfl (PySem.evalArgs_none (hm pins s1 σ H1 x [] v [] Q I1 r1 .nil q1))⟩
theorem pe_bm (pa : PlainAttrs T) (slot : Slot T name id) (hty : typeOf (.builtin id) = pure (.type "method_descriptor")) (hm : MtR X id r) (ho : PE X o to) (ha : PA X (e :: es) t)
    (hbase : attributeBase o name X.env (eval o X.env) = eval o X.env := by rfl)
    (hfew : ((backTo cpos (starEach (e :: es) X.env)).all (fun x => !x.1) && (backToKw cpos (keywordEach [] X.env)).all (fun x => x.1.isSome)
      && decide ((e :: es).length + ([] : List Keyword).length + (if ([] : List Keyword).isEmpty then 0 else 1) < 30)) = true := by rfl)
    (hline : (apos.endLine == cpos.line) = true := by rfl) (hs : starEach (e :: es) X.env = (false, eval e X.env) :: starEach es X.env := by rfl) (hplain : (backTo cpos (starEach es X.env)).any (·.1) = false := by rfl) :
    PE X (.Call (.Attribute o name apos) (e :: es) [] cpos) (tBM X.K T r to t) := by
  intro pins s σ H Q I h
  refine wpAny_Call_method_late hbase hfew hline rfl (thn (ho pins s σ H _ I h) fun v s1 ⟨x, H1, I1, r1, ty, q1⟩ => ?_)
  obtain ⟨h1, h2⟩ := tyV_is I1 r1 ty
  refine ⟨T, id, pa, slot, hty, h1, h2, ?_⟩
  have hA := ha cpos pins s1 σ H1 _ I1 q1
  rw [hs] at hA ⊢
  refine Calls.callWith_builtin (by show (false || (backTo cpos (starEach es X.env)).any (·.1)) = false; rw [hplain] <;> rfl) (Calls.evalArgs_plain ?_)
  exact thn hA fun us s2 ⟨vs, H2, I2, r2, q2⟩ => hm pins s2 σ H2 x vs v us Q I2 r1 r2 q2
end
end L2
namespace L2
open PySem PySem.Spec PyProof.Rows
noncomputable def MtM (X : Cx) (id : String) (r : V → List V → Hp → VK → Prop) : Prop :=
  ∀ (pins : List (Addr × Obj)) (s : Shared) (σ : St) (H : Hp) (x : V) (xs : List V) (v : Value) (us : List Value) (Q : VK), Inv X pins σ H s → RelV x v → Vals xs us → r x xs H Q →
    wpAny (model X.prog X.w) X.A (call (.builtin id) (v :: us)) (EP X pins σ Q) X.xe s
theorem Vals.one : ∀ {x : V} {us : List Value}, Vals [x] us → ∃ u, us = [u] ∧ RelV x u
  | _, _, .cons r .nil => ⟨_, rfl, r⟩
theorem Vals.zero : ∀ {us : List Value}, Vals [] us → us = []
  | _, .nil => rfl
theorem Vals.dropLast {xs : List V} {us : List Value} (h : Vals xs us) : Vals xs.dropLast us.dropLast := by
  induction h with
  | nil => exact .nil
  | cons r t ih =>
    cases t with
    | nil => exact .nil
    | cons q t' => exact .cons r ih
theorem erase_last {α : Type} (l : List α) : l.eraseIdx (l.length - 1) = l.dropLast := by
  induction l with
  | nil => rfl
  | cons a r ih =>
    cases r with
    | nil => rfl
    | cons b r =>
      have e : (a :: b :: r).length - 1 = ((b :: r).length - 1) + 1 := by
        have h1 : (a :: b :: r).length = r.length + 2 := rfl
        have h2 : (b :: r).length = r.length + 1 := rfl
        omega
      rw [e, List.eraseIdx_cons_succ, ih]
      all_goals rfl
section
variable {X : Cx} {pins : List (Addr × Obj)} {σ : St} {H : Hp} {s : Shared} {l b : Addr} {xs ys zs : List V}
theorem Inv.lset {its its' : List Value} {n : Nat} {f : Array Value → Array Value} {t' : Nat} (I : Inv X pins σ H s) (hH : H l = some (.lst xs))
    (e : s.heap.get? l = some { cls := .type "list", data := .seq its.toArray n }) (hf : f its.toArray = its'.toArray) (hv : Vals ys its') (hz : ys.length ≤ sizeLine) :
    Inv X pins σ (upd H l (.lst ys)) { s with heap := s.heap.update l (Obj.mapSeq f), toks := t' } := by
  have q := PySem.IsL.update e f
  rw [hf] at q
  refine I.write (x := l) (e := l) (by rw [hH]; exact trivial) (.inl rfl) (fun b' u hb hu => (Heap.get?_update_other s.heap (Obj.mapSeq f) (Ne.symm hb)).trans hu) ⟨_, q⟩ ?_
  exact ⟨hz, its', _, hv, q⟩
theorem Inv.lnew {its : List Value} {t' : Nat} (I : Inv X pins σ H s) (hv : Vals ys its) (hz : ys.length ≤ sizeLine) :
    Inv X pins σ (upd H s.heap.objs.size (.lst ys)) { s with heap := s.heap.push { cls := .type "list", data := .seq its.toArray }, toks := t' } :=
  I.laid (fun _ _ q => Heap.get?_push_of_some _ q) (Nat.le_refl _) ⟨hz, its, 0, hv, Heap.get?_push_size _ rfl⟩
theorem Inv.fresh (I : Inv X pins σ H s) : H s.heap.objs.size = none := I.hok.fresh (Nat.le_refl _)
theorem Inv.lstM (I : Inv X pins σ H s) (hH : H l = some (.lst xs)) : xs.length ≤ sizeLine ∧ ∃ (its : List Value) (n : Nat), Vals xs its ∧ xs.length = its.length ∧ s.heap.get? l = some { cls := .type "list", data := .seq its.toArray n } := by
  obtain ⟨z, its, n, r, e⟩ := I.hok l _ hH
  exact ⟨z, its, n, r, r.length, e⟩
end
section
variable {X : Cx}
noncomputable def rAppend : V → List V → Hp → VK → Prop := fun x vs H Q => ∃ l xs y, x = .ref l ∧ vs = [y] ∧ H l = some (.lst xs) ∧ xs.length < sizeLine ∧ Q .non (upd H l (.lst (xs ++ [y])))
theorem mt_append : MtM X "list.append" rAppend := by
  intro pins s σ H x vs v us Q I rx rv h
  obtain ⟨l, xs, y, rfl, rfl, hH, hz, q⟩ := h
  cases rx
  obtain ⟨u, rfl, ru⟩ := rv.one
  obtain ⟨z, its, n, r, hl, e⟩ := I.lstM hH
  refine call_meets F.slot_list_append ⟨_, e, rfl⟩ F.entry_list_append (F.args_list_append_2 _ _) (PySem.list_append l its.toArray n u (by rw [List.size_toArray]; omega)) ⟨e, ?_⟩
  refine ⟨.non, _, I.lset (its' := its ++ [u]) hH e (by simp) (r.append (.cons ru .nil)) ?_, rfl, q⟩
  rw [List.length_append, List.length_singleton]
  omega
noncomputable def rPop : V → List V → Hp → VK → Prop := fun x vs H Q => ∃ l xs y, x = .ref l ∧ vs = [] ∧ H l = some (.lst xs) ∧ xs[xs.length - 1]? = some y ∧ Q y (upd H l (.lst xs.dropLast))
theorem mt_pop : MtM X "list.pop" rPop := by
  intro pins s σ H x vs v us Q I rx rv h
  obtain ⟨l, xs, y, rfl, rfl, hH, hy, q⟩ := h
  cases rx
  have hus := rv.zero
  subst hus
  obtain ⟨z, its, n, r, hl, e⟩ := I.lstM hH
  obtain ⟨u, hu, ru⟩ := r.get hy
  have hy' : its.toArray[its.toArray.size - 1]? = some u := by
    show its.toArray[its.length - 1]? = some u
    rw [← Array.getElem?_toList, ← hl]
    exact hu
  refine call_meets F.slot_list_pop ⟨_, e, rfl⟩ F.entry_list_pop (F.args_list_pop_1 _) (MeetsSeq.list_pop_last l its.toArray n u hy' (by rw [List.size_toArray]; omega)) ⟨e, ?_⟩
  refine ⟨y, _, I.lset (its' := its.dropLast) hH e ?_ r.dropLast ?_, ru, q⟩
  · show its.toArray.eraseIdxIfInBounds (its.toArray.size - 1) = its.dropLast.toArray
    rw [List.size_toArray, List.eraseIdxIfInBounds_toArray, erase_last]
  · rw [List.length_dropLast]
    omega
noncomputable def rCat : R2 := fun x y H Q => ∃ l b xs zs, x = .ref l ∧ y = .ref b ∧ H l = some (.lst xs) ∧ H b = some (.lst zs) ∧ xs.length + zs.length ≤ sizeLine ∧ ∀ p, H p = none → Q (.ref p) (upd H p (.lst (xs ++ zs)))
theorem op_cat : OpR X (binaryOp .Add) rCat := by
  intro pins s σ H x y v u Q I rx ry h
  obtain ⟨l, b, xs, zs, rfl, rfl, hH, hB, hz, q⟩ := h
  cases rx
  cases ry
  obtain ⟨z, its, n, r, hl, e⟩ := I.lstM hH
  obtain ⟨z2, its2, n2, r2, hl2, e2⟩ := I.lstM hB
  refine PySem.P.add_list e e2 ?_ (by rw [List.size_toArray, List.size_toArray]; omega)
  have ea : its.toArray ++ its2.toArray = (its ++ its2).toArray := by simp
  rw [ea]
  exact ⟨.ref _, _, I.lnew (t' := s.toks) (r.append r2) (by rw [List.length_append]; omega), rfl, q _ I.fresh⟩
end
end L2
namespace Att
open PySem PySem.W PySem.Calls PyProof.Rows
theorem ints_of_wellAll {P : Params} {h : Heap} : ∀ (ns : List Int) (vs : List Value), WellAll P h vs (ns.map WData.int) → IntsAre vs ns := by
  intro ns
  induction ns with
  | nil =>
    intro vs w
    rw [List.map_nil] at w
    cases w
    exact .nil
  | cons n ns ih =>
    intro vs w
    rw [List.map_cons] at w
    cases w with
    | cons a b =>
      cases a
      exact .cons _ _ (ih _ b)
theorem script_of {l : OpenLaw} {n : Nat} (hn : l.most = some n) {P : Params} {h : Heap} {args : List WData} {vals : List Value}
    (hpre : l.row.toRowW.claim.pre args = true) (hwl : WellAll P h vals args) :
    ∃ a vs ns, vals = [Value.ref a] ∧ args = [WData.list (ns.map WData.int)] ∧ h.get? a = some { cls := .type "list", data := .seq vs.toArray } ∧ IntsAre vs ns ∧ ns.length ≤ n := by
  have hsh : WShape.hasAll [] args [.list .int] = true := (pre_splitW hpre).1
  have hc : l.pre.holds [] { args := args } = true := (pre_splitW hpre).2
  obtain ⟨d, r, rfl, h1, h2⟩ := hasAllW_cons hsh
  obtain rfl := hasAllW_nil h2
  obtain ⟨xs, rfl, h3⟩ := hasW_list h1
  obtain ⟨ns, rfl⟩ := items_int h3
  have hlen : ns.length ≤ n := by
    unfold OpenLaw.pre at hc
    have h4 : (WTm.not (.lt (.lit (.int (n : Int))) (.len (.arg 0)))).holds [] { args := [.list (ns.map .int)] } = true := by
      have h4 := (holds_andW hc).1
      rw [hn] at h4
      exact h4
    have h5 := condW_of h4 (w_not (w_lt w_lit (w_len_list (w_arg rfl))))
    rw [List.length_map] at h5
    refine Nat.le_of_not_lt fun q => ?_
    have q' : (n : Int) < ((ns.length : Nat) : Int) := by omega
    first
      | (rw [decide_eq_true q'] at h5; exact absurd h5 (by decide))
      | (simp at h5; omega)
  cases hwl with
  | cons w1 w2 =>
    cases w2
    cases w1 with
    | list ho hall => exact ⟨_, _, ns, rfl, rfl, ho, ints_of_wellAll ns _ hall, hlen⟩
theorem post_true (l : OpenLaw) (args : List WData) : l.row.toRowW.claim.post args (.bool true) args = true :=
  postW_of (r := l.row.toRowW) (X := (true == true))
    (show WShape.has [] (.bool true) .bool = true by first | rfl | decide | simp [WShape.has, WShape.arms, WShape.armsAll])
    (show (WTm.eq .res (.lit (.bool true))).value [] { args := args, res := some (.bool true), after := args } = some (.bool (true == true)) from w_eq_bool (w_res rfl) w_lit) rfl
theorem attach_call {l : OpenLaw} {n : Nat} {q : Program} {loose : List Str} {XP : (Str → Option Value) → Heap → Prop} {YP : World → Heap → Prop} {d : DefRec}
    (hn : l.most = some n) (hdf : d.params.defaults = [])
    (call : ∀ (w : World) (s₀ s₁ : Shared) (mg mb : Str → Option Value) (fa : Addr) (o : Obj) (pm cd doc : Value) (a : Addr) (vs : List Value) (ns : List Int),
      Ground q loose [] XP w s₀ mg mb s₁.heap → YP w s₁.heap →
      s₁.heap.get? fa = some o → o.data = .func (docDef d.name d.params d.body d.scope pm cd doc) → s₁.heap.CodeRec cd d.name → mg d.name = some (.ref fa) →
      s₁.heap.get? a = some { cls := .type "list", data := .seq vs.toArray } → IntsAre vs ns → ns.length ≤ n → s₁.gens = #[] →
      codeAny (model l.prog w) callerA (.call (.ref fa) ⟨[.ref a], []⟩) (fun r s' => r = .ok (.ret (.bool true)) ∧ OldK s₁.heap s'.heap ∧ s'.os = s₁.os ∧ AllBare s'.gens) s₁) :
    WalkO q loose XP YP l.row.toRowW d [] (fun f vs => PySem.call f vs) := by
  intro w s₀ s₁ mg mb G Y fa o pm cd doc dV kV ho hd hcd hD hmg hg args vals as hpre hlay hrd hwl hlo
  obtain rfl : dV = .none := Dflts.none hD hdf
  obtain rfl : kV = .none := Dflts.noKw hD
  obtain ⟨a, vs, ns, rfl, rfl, hobj, hints, hlen⟩ := script_of hn hpre hwl
  refine enter_call (codeAny_mono (call w s₀ s₁ mg mb fa o pm cd doc a vs ns G Y ho (fd_plain hd) hcd hmg hobj hints hlen hg) fun r s' hq => ?_)
  obtain ⟨rfl, h2, h3, h4⟩ := hq
  exact ⟨.inl ⟨.bool true, .bool true, [], rfl, fun _ => rfl, .bool true, post_true l _, fun _ => ⟨List.Pairwise.nil, fun _ hm => (nomatch hm)⟩⟩, h2, h3, h4⟩
section
variable {prog : Program} {w : World} {A : Around} {E : Value → Shared → Prop} {s : Shared} {K : Frag}
end
end Att
namespace L2
open PySem PySem.Spec PyProof.Rows
theorem vals_ints : ∀ {vs : List Value} {ns : List Int}, IntsAre vs ns → Vals (ns.map V.int) vs
  | _, _, .nil => .nil
  | _, _, .cons n t h => .cons ⟨t, rfl⟩ (vals_ints h)
end L2
namespace L2
open PySem PySem.Spec PyProof.Rows
end L2
namespace L2
open PySem PySem.Spec PyProof.Rows
noncomputable def defArgs (s : Stmt) : Arguments := match s with
  | .FunctionDef _ a _ _ _ _ _ _ _ _ => a
  | _ => { posonlyargs := [], args := [], vararg := none, kwonlyargs := [], kw_defaults := [], kwarg := none, defaults := [] }
noncomputable def defBody (s : Stmt) : List Stmt := match s with
  | .FunctionDef _ _ b _ _ _ _ _ _ _ => b
  | _ => []
noncomputable def defScope (s : Stmt) : Scope := match s with
  | .FunctionDef _ _ _ _ _ _ sc _ _ _ => sc
  | _ => { kind := .function, names := [], isGenerator := false, isCoroutine := false }
noncomputable abbrev CX0 : CXT := fun _ _ _ _ _ _ => False
noncomputable abbrev E0 : XK := fun _ _ _ => False
theorem pass0 {X : Cx} : Passes CX0 X E0 := fun _ _ _ _ _ _ _ h => h.elim
structure Fun (K : PySem.W.Frag) (x qual : Str) (st : Stmt) (f : Addr) (fd : FuncData) : Prop where
  ex : ∃ (oc : Value) (od : Option Addr) (kV doc pm : Value) (an : Option Addr) (cdv ct : Value) (osl : Array (Option Value)),
    fd = PySem.W.fnOf x qual (defArgs st) (defBody st) (defScope st) .none kV doc pm an cdv ct ∧ K.lookup f = some ⟨oc, od, .func fd, osl⟩ ∧ PySem.W.codeIn K cdv qual = true
  kp : PySem.W.keepIn K (.ref f) = true
section
variable {P : Program} {w : World} {K : PySem.W.Frag} {mg : Str → Option Value} {base : Heap}
theorem Fun.ok {x qual : Str} {st : Stmt} {f : Addr} {fd : FuncData} {N ps : List Str} {k : Nat} {sp : Sp} (F : Fun K x qual st f fd) (S : FnScope N ps (defScope st)) (len : ∀ vs H Q E, sp vs H Q E → vs.length = ps.length)
    (hbody : ∀ (cdv : Value) (A : Around) (outer : List Env) (s : Shared) (H : Hp) (vs : List V) (Q : VK) (E : XK), Room k (A.deeper (envOfC qual (defScope st) s.heap.objs.size f cdv)) → sp vs H Q E →
      ∃ t, PSs (cxOf CX0 P w K mg base N qual (defScope st) f cdv A outer s H E).nox (defBody st) t ∧ t { nx := fun _ H' => Q .non H', rt := Q } (start N vs) H) : FnOk P w K mg base CX0 (k + 1) f fd ps sp := by
  obtain ⟨oc, od, kV, doc, pm, an, cdv, ct, osl, rfl, lk, hcd⟩ := F.ex
  refine fn_of lk hcd S len fun A outer s H vs Q E hr hsp => ?_
  obtain ⟨t, h, q⟩ := hbody cdv A outer s H vs Q E hr hsp
  exact ⟨t, h.nox, q⟩
theorem Fun.binds {x qual : Str} {st : Stmt} {f : Addr} {fd : FuncData} {ps : List Str} (F : Fun K x qual st f fd)
    (h : ∀ (kV doc pm : Value) (an : Option Addr) (cdv ct : Value) (us : List Value), us.length = ps.length → bindArgs (PySem.W.fnOf x qual (defArgs st) (defBody st) (defScope st) .none kV doc pm an cdv ct) ⟨us, []⟩ = pure (ps.zip us)) : Binds K fd ps [] := by
  obtain ⟨oc, od, kV, doc, pm, an, cdv, ct, osl, rfl, lk, hcd⟩ := F.ex
  exact .all (h kV doc pm an cdv ct)
theorem fun_mk {x qual : Str} {st : Stmt} {f : Addr} {oc : Value} {od an : Option Addr} {osl : Array (Option Value)} {kV doc pm cdv ct : Value} (l : K.lookup f = some ⟨oc, od, .func (PySem.W.fnOf x qual (defArgs st) (defBody st) (defScope st) .none kV doc pm an cdv ct), osl⟩)
    (c : PySem.W.codeIn K cdv qual = true) (k : PySem.W.keepIn K (.ref f) = true) : Fun K x qual st f (PySem.W.fnOf x qual (defArgs st) (defBody st) (defScope st) .none kV doc pm an cdv ct) := ⟨⟨oc, od, kV, doc, pm, an, cdv, ct, osl, rfl, l, c⟩, k⟩
end
theorem hu_of {A : Around} {k : Nat} (hr : Room k A) : A.units + 1 < cLine := Nat.lt_of_le_of_lt (Nat.add_le_add_left (by decide : 1 ≤ 64) _) hr.units
theorem small1000 {n : Nat} (h : n ≤ 1000) : n < sizeLine := Nat.lt_of_le_of_lt h (by decide)
section
variable {X : Cx}
theorem pv (i : Nat) {x : Str} {pos : Pos} (hN : X.N[i]? = some x := by rfl) (hv : Vis X.env.scope x := by first | exact Or.inl rfl | exact Or.inr (Or.inl rfl) | exact Or.inr (Or.inr rfl)) (hd : (x == ("__debug__" : Str)) = false := by decide)
    (hcd : (x == ("__classdict__" : Str)) = false := by decide) : PE X (.Name x pos) (tVar i) := pe_var hN hv hd hcd
end
theorem iteF {A B : Prop} (h : B) : if false = true then A else B := by
  rw [if_neg Bool.false_ne_true]
  exact h
theorem iteT {A B : Prop} (h : A) : if true = true then A else B := by
  rw [if_pos rfl]
  exact h
noncomputable def Same (H H' : Hp) : Prop := ∀ b o, H b = some o → H' b = some o
theorem Same.refl (H : Hp) : Same H H := fun _ _ h => h
theorem Same.trans {H H1 H2 : Hp} (a : Same H H1) (b : Same H1 H2) : Same H H2 := fun c o h => b c o (a c o h)
theorem Same.free {H H' : Hp} (e : Same H H') {l : Addr} (h : H' l = Option.none) : H l = Option.none := by
  cases q : H l with
  | none => rfl
  | some o =>
    rw [e l o q] at h
    cases h
theorem Same.seq {K : PySem.W.Frag} {H H' : Hp} {a : Addr} {xs : List V} (e : Same H H') (h : SqL K H a xs) : SqL K H' a xs := by
  rcases h with (h | ⟨o, h⟩) | h
  · exact .inl (.inl (e _ _ h))
  · exact .inl (.inr ⟨o, e _ _ h⟩)
  · exact .inr h
end L2
set_option Elab.async false
set_option linter.all false
set_option maxRecDepth 100000
namespace L2
open PySem PySem.Spec PyProof.Rows
section
variable {X : Cx}
theorem Same.upd {H : Hp} {p : Addr} {o : HO} (h : H p = none) : Same H (upd H p o) := fun b u e => by
  rw [upd_ne (ne_of_none e h)]; exact e
noncomputable def EqV (X : Cx) (k : Nat) (H : Hp) (x y : V) (b : Bool) : Prop :=
  ∀ (A : Around) (pins : List (Addr × Obj)) (σ : St) (s : Shared) (u v : Value), Inv X pins σ H s → A.units + k < cLine → RelV x u → RelV y v → SeqAt.EqAt A s u v b
theorem EqV.flat {k : Nat} {H : Hp} {x y : V} (fx : flatV x = true) (fy : flatV y = true) : EqV X k H x y (eqV x y) := fun A pins σ s u v I hu rx ry => eqAt_V rx ry fx fy
theorem EqV.mono {k l : Nat} {H : Hp} {x y : V} {b : Bool} (h : EqV X k H x y b) (hk : k ≤ l) : EqV X l H x y b := fun A pins σ s u v I hu rx ry => h A pins σ s u v I (by omega) rx ry
theorem items_eq {k : Nat} {H : Hp} {xs ys : List V} {e : Nat → Bool} {A : Around} {pins : List (Addr × Obj)} {σ : St} {s : Shared} (I : Inv X pins σ H s) (hu : A.units + k < cLine)
    (he : ∀ j x y, xs[j]? = some x → ys[j]? = some y → EqV X k H x y (e j)) {us vs : List Value} (r1 : Vals xs us) (r2 : Vals ys vs) :
    ∀ j (h1 : j < us.toArray.size) (h2 : j < vs.toArray.size), SeqAt.EqAt A s us.toArray[j] vs.toArray[j] (e j) := by
  intro j h1 h2
  rw [List.size_toArray] at h1 h2
  have l1 := r1.length
  have l2 := r2.length
  have g1 : xs[j]? = some xs[j] := by simp [l1, h1]
  have g2 : ys[j]? = some ys[j] := by simp [l2, h2]
  obtain ⟨u, e1, q1⟩ := r1.get g1
  obtain ⟨v, e2, q2⟩ := r2.get g2
  have f1 : us.toArray[j] = u := by
    rw [List.getElem_toArray]
    have : us[j]? = some us[j] := by simp [h1]
    rw [this] at e1; exact Option.some.inj e1
  have f2 : vs.toArray[j] = v := by
    rw [List.getElem_toArray]
    have : vs[j]? = some vs[j] := by simp [h2]
    rw [this] at e2; exact Option.some.inj e2
  rw [f1, f2]
  exact he j _ _ g1 g2 A pins σ s u v I hu q1 q2
theorem in1_units (A : Around) : A.in1.units = A.units + 1 := by
  first | rfl | simp [Around.in1] | (unfold Around.in1; rfl)
noncomputable def clsVal : V → Option Value
  | .ty n => some (.type n)
  | .ref C => some (.ref C)
  | _ => none
noncomputable def rIsi (K : PySem.W.Frag) : List V → Hp → VK → Prop := fun xs H Q => ∃ x c t cv b, xs = [x, c] ∧ TyOf K H x t ∧ clsVal c = some cv ∧ PySem.W.kitOne K t cv = some b ∧ Q (.bl b) H
theorem call_isinst : CallR X (.builtin "isinstance") (rIsi X.K) := by
  intro pins s σ H xs us Q I r h
  obtain ⟨x, c, t, cv, b, rfl, ty, hc, hk, q⟩ := h
  obtain ⟨u, w', rfl, r1, r2⟩ := vals2 r
  have e : w' = cv := by
    cases c with
    | ty n => cases hc; exact r2
    | ref C => cases hc; exact r2
    | _ => cases hc
  subst e
  exact isinst_ok I r1 ty hk fun tk => ⟨.bl b, H, I.tok _, rfl, q⟩
end
end L2
set_option Elab.async false
set_option linter.all false
set_option maxRecDepth 100000
namespace L2
open PySem PySem.Spec PyProof.Rows
section
variable {σ : St} {H : Hp} {Q : VK} {D : Ends} {K : PySem.W.Frag} {ta tb tc te : TE} {v : V} {i : Nat}
theorem wp_var (h1 : σ[i]? = some (some v)) (h : Q v H) : tVar i σ H Q := ⟨v, h1, h⟩
theorem wp_c (h : Q v H) : tC v σ H Q := h
theorem wp_op {r : R2} (h : ta σ H fun x H1 => tb σ H1 fun y H2 => r x y H2 Q) : tOp r ta tb σ H Q := h
theorem wp_un {r : V → Hp → VK → Prop} (h : ta σ H fun x H1 => r x H1 Q) : tUn r ta σ H Q := h
theorem wp_rU {g : Int → V} {j : Int} (h : Q (g j) H) : rU g (.int j) H Q := ⟨j, rfl, h⟩
theorem wp_rI0 {g : Int → Int → V} {j k : Int} (h : Q (g j k) H) : rI0 g (.int j) (.int k) H Q := ⟨j, k, rfl, rfl, h⟩
theorem wp_rI {C : Int → Int → Prop} {g : Int → Int → V} {j k : Int} (hc : C j k) (h : Q (g j k) H) : rI C g (.int j) (.int k) H Q := ⟨j, k, rfl, rfl, hc, h⟩
theorem wp_rEqI {j k : Int} (h : Q (.bl (decide (j = k))) H) : rEq (.int j) (.int k) H Q := ⟨rfl, by
  have e : decide (V.int j = V.int k) = decide (j = k) := by rw [dec_int]; by_cases z : j = k <;> simp [z]
  rw [e]; exact h⟩
theorem wp_rNeI {j k : Int} (h : Q (.bl (!decide (j = k))) H) : rNe (.int j) (.int k) H Q := ⟨rfl, by
  have e : decide (V.int j = V.int k) = decide (j = k) := by rw [dec_int]; by_cases z : j = k <;> simp [z]
  rw [e]; exact h⟩
theorem wp_test {Q : Bool → Hp → Prop} (h : te σ H fun x H' => ∃ k, x = .bl k ∧ Q k H') : tTest te σ H Q := h
theorem wp_tB {Q : Bool → Hp → Prop} (h : te σ H fun x H' => ∃ k, x = .bl k ∧ Q k H') : tB te σ H Q := h
theorem wp_bl {b : Bool} {P : Bool → Prop} (h : P b) : ∃ k, V.bl b = .bl k ∧ P k := ⟨b, rfl, h⟩
theorem wp_and {t u : TT} {Q : Bool → Hp → Prop} (h : t σ H fun c H1 => if c = true then u σ H1 Q else Q false H1) : tAnd t u σ H Q := h
theorem wp_or {t u : TT} {Q : Bool → Hp → Prop} (h : t σ H fun c H1 => if c = true then Q true H1 else u σ H1 Q) : tOr t u σ H Q := h
theorem wp_not {t : TT} {Q : Bool → Hp → Prop} (h : t σ H fun c H1 => Q (!c) H1) : tNot t σ H Q := h
theorem wp_andV (h : ta σ H fun x H1 => ∃ c, x = .bl c ∧ if c = true then tb σ H1 Q else Q (.bl false) H1) : tAndV ta tb σ H Q := h
theorem wp_notV (h : ta σ H fun x H1 => ∃ c, x = .bl c ∧ Q (.bl (!c)) H1) : tNotV ta σ H Q := h
theorem wp_seq {t u : TS} (h : t { D with nx := u D } σ H) : tSeq t u D σ H := h
theorem wp_next (h : D.nx σ H) : tNext D σ H := h
theorem wp_drop (h : te σ H fun _ H1 => D.nx σ H1) : tDrop te D σ H := h
theorem wp_ret (h : te σ H D.rt) : tRet te D σ H := h
theorem wp_ifS {c : TT} {t u : TS} (h : c σ H fun b H1 => if b = true then t D σ H1 else u D σ H1) : tIfS c t u D σ H := h
theorem wp_asg {g : TG} (h : te σ H fun x H1 => g x σ H1 D.nx) : tAsg te g D σ H := h
theorem wp_name {R : St → Hp → Prop} (h : R (σ.set i (some v)) H) : gName i v σ H R := h
theorem wp_nil {R : List V → Hp → Prop} (h : R [] H) : tNil σ H R := h
theorem wp_cons {tr : TA} {R : List V → Hp → Prop} (h : ta σ H fun x H1 => tr σ H1 fun xs H2 => R (x :: xs) H2) : tCons ta tr σ H R := h
noncomputable def tupK (xs : List V) (H : Hp) (Q : VK) : Prop := xs.length ≤ sizeLine ∧ ∀ p, H p = none → Q (.ref p) (upd H p (.tup xs))
noncomputable def lstK (xs : List V) (H : Hp) (Q : VK) : Prop := xs.length ≤ sizeLine ∧ ∀ p, H p = none → Q (.ref p) (upd H p (.lst xs))
theorem wp_tup {t : TA} (h : t σ H fun xs H1 => tupK xs H1 Q) : tTup t σ H Q := h
theorem wp_lst {t : TA} (h : t σ H fun xs H1 => lstK xs H1 Q) : tLst t σ H Q := h
theorem wp_cB {r : List V → Hp → VK → Prop} {t : TA} (h : t σ H fun vs H1 => r vs H1 Q) : tCB r t σ H Q := h
theorem wp_part {R : Option Int → Hp → Prop} (h : te σ H fun x H1 => ∃ i, x = .int i ∧ R (some i) H1) : tPart te σ H R := h
theorem wp_int {b : Int} {P : Int → Prop} (h : P b) : ∃ k, V.int b = .int k ∧ P k := ⟨b, rfl, h⟩
theorem wp_sl {r : V → Option Int → Option Int → Hp → VK → Prop} {tl th : TO} (h : te σ H fun x H1 => tl σ H1 fun l H2 => th σ H2 fun u H3 => r x l u H3 Q) : tSl r te tl th σ H Q := h
noncomputable def tLoop (g : TG) (tb : TS) (D : Ends) (σ : St) (J : It) (H1 : Hp) : Prop := ∃ W : Nat → Nat → St → Hp → Prop, (∃ m, W 0 m σ H1) ∧ ∀ i m σ H, W i m σ H →
  (J.stop i H ∧ D.nx σ H) ∨ (J.go i H ∧ ∃ N : St → Hp → Prop, (∀ σ' H', N σ' H' → ∃ m', m' < m ∧ W (i + 1) m' σ' H') ∧ ∀ x H', J.yld i H x H' → g x σ H' fun σ2 H2 => tb { D with nx := N, ct := N, bk := D.nx } σ2 H2)
theorem wp_for {wi : TI} {g : TG} {tb : TS} (h : wi σ H (tLoop g tb D σ)) : tFor wi g tb D σ H := h
theorem loop_range {lo : Int} {n : Nat} {g : TG} {tb : TS} (Pv : Nat → St → Hp → Prop) (h0 : Pv 0 σ H)
    (hs : ∀ i σ H, i < n → Pv i σ H → g (.int (lo + i)) σ H fun σ2 H2 => tb { D with nx := Pv (i + 1), ct := Pv (i + 1), bk := D.nx } σ2 H2) (hd : ∀ σ H, Pv n σ H → D.nx σ H) : tLoop g tb D σ (Itr lo n) H := for_range Pv h0 hs hd
theorem loop_list {a : Addr} {xs : List V} {g : TG} {tb : TS} (Pv : Nat → St → Hp → Prop) (h0 : Pv 0 σ H) (hl : ∀ i σ H, i ≤ xs.length → Pv i σ H → SqL K H a xs)
    (hs : ∀ i x σ H, xs[i]? = some x → Pv i σ H → g x σ H fun σ2 H2 => tb { D with nx := Pv (i + 1), ct := Pv (i + 1), bk := D.nx } σ2 H2) (hd : ∀ σ H, Pv xs.length σ H → D.nx σ H) : tLoop g tb D σ (Itl K a) H := for_list Pv h0 hl hs hd
theorem wp_rng1 {t : TA} {R : It → Hp → Prop} (h : t σ H fun vs H1 => ∃ j : Int, vs = [.int j] ∧ -(2 ^ 62) ≤ j ∧ j < 2 ^ 62 ∧ R (Itr 0 j.toNat) H1) : iRng1 t σ H R := h
theorem wp_rng1' {R : It → Hp → Prop} {j : Int} (h1 : -(2 ^ 62) ≤ j) (h2 : j < 2 ^ 62) (h : R (Itr 0 j.toNat) H) : ∃ k : Int, [V.int j] = [V.int k] ∧ -(2 ^ 62) ≤ k ∧ k < 2 ^ 62 ∧ R (Itr 0 k.toNat) H := ⟨j, rfl, h1, h2, h⟩
theorem wp_list {tl : TE} {R : It → Hp → Prop} (h : tl σ H fun x H1 => ∃ a, x = .ref a ∧ (∃ xs, SqL K H1 a xs) ∧ R (Itl K a) H1) : iList K tl σ H R := h
theorem wp_iteP {p A B : Prop} {inst : Decidable p} (h1 : p → A) (h2 : ¬ p → B) : if decide p = true then A else B := by
  by_cases h : p
  · rw [decide_eq_true h]; exact iteT (h1 h)
  · rw [decide_eq_false h]; exact iteF (h2 h)
theorem wp_iteN {p A B : Prop} {inst : Decidable p} (h1 : ¬ p → A) (h2 : p → B) : if (!decide p) = true then A else B := by
  by_cases h : p
  · rw [decide_eq_true h]; exact iteF (h2 h)
  · rw [decide_eq_false h]; exact iteT (h1 h)
theorem wp_iteB {b : Bool} {A B : Prop} (h1 : b = true → A) (h2 : b = false → B) : if b = true then A else B := by
  cases b
  · exact iteF (h2 rfl)
  · exact iteT (h1 rfl)
theorem wp_iteNB {b : Bool} {A B : Prop} (h1 : b = false → A) (h2 : b = true → B) : if (!b) = true then A else B := by
  cases b
  · exact iteT (h1 rfl)
  · exact iteF (h2 rfl)
theorem atI_some {α : Type} {xs : List α} {j : Int} (h0 : 0 ≤ j) (h1 : j < xs.length) : ∃ v, atI xs j = some v := by
  have hl : j.toNat < xs.length := by omega
  refine ⟨xs[j.toNat], ?_⟩
  unfold atI ixN
  rw [if_pos h0, if_pos h1]
  simp [hl]
end
structure Fn (K : PySem.W.Frag) (mg : Str → Option Value) (x : Str) (st : Stmt) (ps : List Str) : Prop where
  ex : ∃ f fd, Fun K x x st f fd ∧ mg x = some (.ref f) ∧ Binds K fd ps []
structure FnAll (P : Program) (w : World) (K : PySem.W.Frag) (mg : Str → Option Value) (base : Heap) (x : Str) (k : Nat) (ps : List Str) (sp : Sp) : Prop where
  ex : ∃ f fd, FnOk P w K mg base CX0 k f fd ps sp ∧ mg x = some (.ref f) ∧ PySem.W.keepIn K (.ref f) = true ∧ Binds K fd ps []
section
variable {P : Program} {w : World} {K : PySem.W.Frag} {mg : Str → Option Value} {base : Heap}
theorem Fn.ok {x : Str} {st : Stmt} {N ps : List Str} {k : Nat} {sp : Sp} (F : Fn K mg x st ps) (S : FnScope N ps (defScope st)) (len : ∀ vs H Q E, sp vs H Q E → vs.length = ps.length)
    (hbody : ∀ (f : Addr) (cdv : Value) (A : Around) (outer : List Env) (s : Shared) (H : Hp) (vs : List V) (Q : VK) (E : XK), Room k (A.deeper (envOfC x (defScope st) s.heap.objs.size f cdv)) → sp vs H Q E →
      ∃ t, PSs (cxOf CX0 P w K mg base N x (defScope st) f cdv A outer s H E).nox (defBody st) t ∧ t { nx := fun _ H' => Q .non H', rt := Q } (start N vs) H) : FnAll P w K mg base x (k + 1) ps sp := by
  obtain ⟨f, fd, F, hm, hb⟩ := F.ex
  exact ⟨f, fd, F.ok S len (fun cdv A outer s H vs Q E hr h => hbody f cdv A outer s H vs Q E hr h), hm, F.kp, hb⟩
end
section
variable {X : Cx} {x : Str} {k n : Nat} {ps : List Str} {sp : Sp} {e : Expr} {es : List Expr} {t : TA} {p pos : Pos}
noncomputable def tCall0 (sp : Sp) (t : TA) : TE := fun σ H Q => t σ H fun vs H1 => sp vs H1 Q E0
theorem pe_callF (F : FnAll X.prog X.w X.K X.mg X.base x k ps sp) (hr : Room n X.A) (ha : PA X (e :: es) t) (hk : k ≤ n := by decide) (hg : Gl X x := by rfl) (hdb : (x == ("__debug__" : Str)) = false := by decide)
    (he : starEach (e :: es) X.env = (false, eval e X.env) :: starEach es X.env := by rfl) (hpl : (backTo pos (starEach es X.env)).any (·.1) = false := by rfl) : PE X (.Call (.Name x p) (e :: es) [] pos) (tCall0 sp t) := by
  obtain ⟨f, fd, G, hm, hkp, hb⟩ := F.ex
  intro pins s σ H Q I h
  refine pe_call G (hr.mono hk) hg hm hkp hb .nil pass0 ha hdb he hpl pins s σ H Q I ?_
  have z : tCall sp [] E0 t = tCall0 sp t := by
    unfold tCall tCall0
    funext σ H Q
    congr 1
    funext vs H1
    rw [List.append_nil]
  rw [z]; exact h
theorem wp_call {σ : St} {H : Hp} {Q : VK} (h : t σ H fun vs H1 => sp vs H1 Q E0) : tCall0 sp t σ H Q := h
end
end L2
set_option Elab.async false
set_option linter.all false
set_option maxRecDepth 100000
set_option maxHeartbeats 0
namespace L2
open PySem PySem.Spec PyProof.Rows
structure Cl where
  deed : Addr
  put : Addr
  cut : Addr
  set : Addr
  move : Addr
section
variable {σ : St} {H : Hp} {Q : VK} {c : Cl} {K : PySem.W.Frag}
theorem tupK_new {xs : List V} (hz : xs.length ≤ 1000) (h : ∀ a H', Same H H' → H' a = some (.tup xs) → Q (.ref a) H') : tupK xs H Q :=
  ⟨Nat.le_of_lt (small1000 hz), fun p hp => h p _ (Same.upd hp) upd_same⟩
theorem wp_ixT {a : Addr} {xs : List V} {j : Int} {v : V} (ha : H a = some (.tup xs)) (hv : atI xs j = some v) (h : Q v H) : rIxT K (.ref a) (.int j) H Q := ⟨a, xs, j, v, rfl, rfl, .inl (.inl ha), hv, h⟩
end
section
variable {σ : St} {H : Hp} {Q : VK} {c : Cl} {K : PySem.W.Frag} {v : V} {d : DD} {X : Cx}
theorem wp_isiII {n : Int} (hk : PySem.W.kitOne K (.type "int") (.type "int") = some true) (h : Q (.bl true) H) : rIsi K [.int n, .ty "int"] H Q := ⟨_, _, _, _, true, rfl, .int n, rfl, hk, h⟩
theorem wp_isiIB {n : Int} (hk : PySem.W.kitOne K (.type "int") (.type "bool") = some false) (h : Q (.bl false) H) : rIsi K [.int n, .ty "bool"] H Q := ⟨_, _, _, _, false, rfl, .int n, rfl, hk, h⟩
noncomputable def rLenQ (K : PySem.W.Frag) : List V → Hp → VK → Prop := fun xs H Q => ∃ p ys, xs = [.ref p] ∧ (SqL K H p ys ∨ SqT K H p ys) ∧ Q (.int ys.length) H
theorem call_lenQ : CallR X (.builtin "len") (rLenQ X.K) := call_len_seq
end
theorem wp_bm {σ : St} {H : Hp} {Q : VK} {K : PySem.W.Frag} {T : String} {r : V → List V → Hp → VK → Prop} {to : TE} {t : TA} (h : to σ H fun x H1 => tyV K T x H1 ∧ t σ H1 fun xs H2 => r x xs H2 Q) : tBM K T r to t σ H Q := h
end L2
set_option Elab.async false
set_option linter.all false
set_option maxRecDepth 100000
set_option maxHeartbeats 0
namespace L2
open PySem PySem.Spec PyProof.Rows
theorem hu16 {A : Around} {k : Nat} (hr : Room k A) : A.units + 16 < cLine := Nat.lt_of_le_of_lt (Nat.add_le_add_left (by decide : 16 ≤ 64) _) hr.units
theorem cut_ints {ns : List Int} {lo hi : Option Int} {x : V} (h : x ∈ cutV (ns.map V.int) lo hi) : ∃ z, x = V.int z := by
  obtain ⟨z, _, e⟩ := List.mem_map.mp (List.mem_of_mem_drop (List.mem_of_mem_take h))
  exact ⟨z, e.symm⟩
end L2
set_option Elab.async false
set_option linter.all false
set_option maxRecDepth 100000
set_option maxHeartbeats 0
namespace L2
open PySem PySem.Spec PyProof.Rows
noncomputable def compCx (X : Cx) (scope : Scope) (cl : List (Str × Addr)) (N : List Str) (fp : List Addr) (pins : List (Addr × Obj)) (s : Shared) (H : Hp) : Cx where
  prog := X.prog
  w := X.w
  K := X.K
  mg := X.mg
  base := X.base
  A := X.A
  N := N
  s₀ := s
  H₀ := H
  env := compEnvC scope cl s.heap.objs.size X.env
  outer := X.stack
  stack := X.stack
  ex := fp
  fn := fun _ => false
  calm := X.calm
  pn := X.pn ++ pins
  xe := fun _ _ => False
structure CompScope (X : Cx) (scope : Scope) (cl : List (Str × Addr)) (x : Str) (caps : List (Str × Nat)) : Prop where
  kind : scope.kind = .function
  clos : closureFor scope X.env = pure cl
  ncell : ∀ y ∈ scope.names, y.2 ≠ .cell
  names : ∀ y ∈ scope.names, y.2 = .local → scope.names.lookup y.1 = some .local
  xloc : scope.names.lookup x = some .local
  sub : ∀ y c, cl.lookup y = some c → X.env.cells.lookup y = some c
  has : ∀ y, ((relabel scope X.env).names.lookup y = some .cell ∨ (relabel scope X.env).names.lookup y = some .free) → ∃ c, cl.lookup y = some c
  cap : ∀ (k : Nat) y j, caps[k]? = some (y, j) → X.N[j]? = some y ∧ Vis X.env.scope y ∧ (X.env.kindOf y = some .cell ∨ X.env.kindOf y = some .free) ∧ ((relabel scope X.env).names.lookup y = some .cell ∨ (relabel scope X.env).names.lookup y = some .free)
  nd : (x :: caps.map (·.1)).Nodup
noncomputable def PIf (X : Cx) (ifs : List Expr) (t : TT) : Prop :=
  ∀ (pins : List (Addr × Obj)) (s : Shared) (σ : St) (H : Hp) (Q : Bool → Hp → Prop), Inv X pins σ H s → t σ H Q →
    wpAny (model X.prog X.w) X.A (forIn ifs true fun c r => if r = true then do let ok ← isTrue c X.env (eval c X.env); pure (ForInStep.yield ok) else pure (ForInStep.yield r)) (TP X pins σ Q) X.xe s
noncomputable def tYes : TT := fun _ H Q => Q true H
theorem pif_nil {X : Cx} : PIf X [] tYes := fun _ _ _ H _ I h => wpAny_tests_nil ⟨H, I, h⟩
theorem pif_one {X : Cx} {c : Expr} {t : TT} (h : PT X c t) : PIf X [c] t := fun pins s σ H Q I hw => wpAny_tests_one (h pins s σ H Q I hw)
noncomputable def compK (tc : TT) (te : TE) (cvs : List V) (Q : VK) (J : It) (H1 : Hp) : Prop := ∀ D, H1 D = none → ∃ W : Nat → Nat → List V → Hp → Prop, (∃ m, W 0 m [] (upd H1 D (.lst []))) ∧
  ∀ i m acc H, W i m acc H → H D = some (.lst acc) ∧ ((J.stop i H ∧ Q (.ref D) H) ∨ (J.go i H ∧ ∀ v H', J.yld i H v H' → tc (some v :: cvs.map some) H' fun b H2 =>
    if b = true then te (some v :: cvs.map some) H2 fun y H3 => H3 D = some (.lst acc) ∧ acc.length < sizeLine ∧ ∃ m', m' < m ∧ W (i + 1) m' (acc ++ [y]) (upd H3 D (.lst (acc ++ [y]))) else ∃ m', m' < m ∧ W (i + 1) m' acc H2))
noncomputable def tComp (wi : TI) (tc : TT) (te : TE) (caps : List (Str × Nat)) : TE := fun σ H Q => ∃ cvs : List V, cvs.length = caps.length ∧ (∀ (k : Nat) y j, caps[k]? = some (y, j) → ∃ v, cvs[k]? = some v ∧ σ[j]? = some (some v)) ∧ wi σ H (compK tc te cvs Q)
theorem SameBut_keep {C : Addr} {h h' : Heap} (e : Heap.SameBut C h h') : ∀ b o, b ≠ C → h.get? b = some o → h'.get? b = some o := fun b o hb q => e.extBut b o hb q
section
variable {X : Cx} {scope : Scope} {cl : List (Str × Addr)} {x : Str} {caps : List (Str × Nat)} {pins : List (Addr × Obj)} {σ : St} {H : Hp} {s s4 : Shared} {fp : List Addr} {cvs : List V}
theorem compCx_ok (S : CompScope X scope cl x caps) (I : Inv X pins σ H s) (hf : ∀ b ∈ fp, FpOk X pins H b ∧ b < s.heap.objs.size) : (compCx X scope cl (x :: caps.map (·.1)) fp pins s H).Ok where
  mod := I.ok.mod
  kind := S.kind
  glob := I.ok.glob
  blt := I.ok.blt
  above := Nat.le_refl _
  inj := fun y z c h1 h2 => I.ok.inj y z c (S.sub y c h1) (S.sub z c h2)
  has := fun y hy => S.has y hy
  cab := fun y c h _ => by cases h
  hd := I.ok.hd
  frames := I.ok.frames
  stk := .inl rfl
  exf := fun b hb => ⟨Nat.ne_of_lt (hf b hb).2, fun y c h => (hf b hb).1.2.2.2.2.1 y c (S.sub y c h)⟩
  bs := fun b o e => I.bs b o e
  bsz := Nat.le_trans (Nat.le_trans I.ok.bsz I.ok.above) (Nat.le_of_lt I.lt)
  noex := fun b o e hb => by
    rcases (hf b hb).1.2.2.2.1 with z | z
    · exact I.ok.noex b o e z
    · exact absurd (Nat.lt_of_lt_of_le (Heap.lt_size (I.ok.bs b o e).1) z) (Nat.lt_irrefl _)
  exfs := fun b hb z => by
    rcases List.mem_cons.mp (I.stkSub b z) with e | e
    · exact (hf b hb).1.2.1 e
    · exact (hf b hb).1.2.2.1 e
  funs := I.stack
  frf := I.stkFree
theorem compInv (S : CompScope X scope cl x caps) (I : Inv X pins σ H s) (hf : ∀ b ∈ fp, FpOk X pins H b ∧ b < s.heap.objs.size)
    (hlen : cvs.length = caps.length) (hcv : ∀ (k : Nat) y j, caps[k]? = some (y, j) → ∃ v, cvs[k]? = some v ∧ σ[j]? = some (some v))
    {h4 : Heap} {t4 : Nat} {m4 : Str → Option Value} (hns : h4.Ns s.heap.objs.size m4) (hk : ∀ b o, s.heap.get? b = some o → h4.get? b = some o) :
    Inv (compCx X scope cl (x :: caps.map (·.1)) fp pins s H) [] (none :: cvs.map some) H { s with heap := h4, toks := t4 } where
  ok := compCx_ok S I hf
  os := rfl
  bare := I.bare
  base := Un.kept hk
  loc := by
    obtain ⟨m, hn, hl⟩ := I.loc
    refine ⟨m4, hns, fun i y v h1 h2 h3 => ?_⟩
    cases i with
    | zero => cases h2
    | succ k =>
      have h1' : (caps.map (·.1))[k]? = some y := h1
      have h2' : (cvs.map some)[k]? = some (some v) := h2
      rw [List.getElem?_map] at h1' h2'
      cases e1 : caps[k]? with
      | none => rw [e1] at h1'; cases h1'
      | some q =>
        obtain ⟨y', j⟩ := q
        rw [e1] at h1'
        cases h1'
        obtain ⟨w1, e2, e3⟩ := hcv k y' j e1
        rw [e2] at h2'
        cases h2'
        obtain ⟨a1, a2, a3, a4⟩ := S.cap k y' j e1
        obtain ⟨u, r, l⟩ := hl j y' v a1 e3 a2
        refine ⟨u, r, ?_⟩
        rcases l with ⟨l, _⟩ | ⟨_, c, ec, o, ho, hd⟩
        · rcases a3 with a3 | a3 <;> rw [a3] at l <;> cases l
        · obtain ⟨c', ec'⟩ := S.has y' a4
          have := S.sub y' c' ec'
          rw [ec] at this
          cases this
          exact .inr ⟨a4, c, ec', o, hk c o ho, hd⟩
  cell := fun y c h => by
    obtain ⟨v, o, ho, hd⟩ := I.cell y c (S.sub y c h)
    exact ⟨v, o, hk c o ho, hd⟩
  free := I.hok.fresh (Nat.le_refl _)
  freeC := fun y c h => I.freeC y c (S.sub y c h)
  pin := fun p hp => by
    have hp' : p ∈ X.pn ++ pins := by
      have : p ∈ (X.pn ++ pins) ++ [] := hp
      rwa [List.append_nil] at this
    obtain ⟨e, n, ne, nf, d⟩ := I.pin p hp'
    refine ⟨hk _ _ e, n, Nat.ne_of_lt (Heap.lt_size e), fun z => ?_, d⟩
    rcases List.mem_cons.mp (I.stkSub p.1 z) with q | q
    · exact ne q
    · exact nf q
  hok := I.hok.kept hk
  len := by
    show (none :: cvs.map some).length = (x :: caps.map (·.1)).length
    simp [hlen]
end
section
variable {X : Cx} {scope : Scope} {cl : List (Str × Addr)} {x : Str} {caps : List (Str × Nat)} {px pos : Pos} {iter elt : Expr} {ifs : List Expr} {wi : TI} {tc : TT} {te : TE}
theorem comp_go {use : Option (Value → Sem Unit)} {Qv : Value → Shared → Prop} {pins : List (Addr × Obj)} {s : Shared} {σ : St} {H : Hp} {Q : VK} {pos' : Pos} (S : CompScope X scope cl x caps) (hc : X.calm = true) (hi : PI X (.Name x px) iter wi)
    (ht : ∀ fp pins s H, PIf (compCx X scope cl (x :: caps.map (·.1)) fp pins s H) ifs tc) (he : ∀ fp pins s H, PE (compCx X scope cl (x :: caps.map (·.1)) fp pins s H) elt te)
    (hs : ∀ y, foldedSetIterable iter X.env y = pure y) (I : Inv X pins σ H s) (h : tComp wi tc te caps σ H Q)
    (fin : ∀ (D C : Addr) (H' : Hp) (s' : Shared) x, Inv X pins σ H' s' → FpOk X pins H' C → (∃ m, s'.heap.Ns C m) → Q (.ref D) H' → compPost (model X.prog X.w) X.A X.xe use Qv (.ref D) C (.ok x) s') :
    wpAny (model X.prog X.w) X.A (comprehension (.ListComp elt [⟨.Name x px, iter, ifs, 0⟩] scope pos) scope X.env pos' (newList []) false (eval iter X.env) use) Qv X.xe s := by
  obtain ⟨cvs, hlen, hcv, h⟩ := h
  refine wpAny_comprehension_free (use := use) (cl := cl) rfl hs S.clos S.kind S.names ?_
  refine thn (hi pins s σ H _ I h) fun v s1 h1 => thn h1 fun itv s2 h2 => ?_
  obtain ⟨it, fp, tn, J, H2, rfl, I2, T, st2, f2, hD⟩ := h2
  refine wpAny_newObj_type ?_
  have hDn : H2 s2.heap.objs.size = none := I2.hok.fresh (Nat.le_refl _)
  obtain ⟨W, ⟨m0, w0⟩, turn⟩ := hD s2.heap.objs.size hDn
  generalize hD' : s2.heap.objs.size = D at *
  have I3 : Inv X pins σ (upd H2 D (.lst [])) { s2 with heap := s2.heap.push { cls := .type "list", data := .seq ([] : List Value).toArray } } :=
    I2.laid (t' := s2.toks) (o := .lst []) (fun b ob q => Heap.get?_push_of_some _ q) (Nat.le_of_eq hD') ⟨by decide, [], 0, .nil, by rw [← hD']; exact Heap.get?_push_size _ rfl⟩
  have st3 : tn 0 (s2.heap.push { cls := .type "list", data := .seq ([] : List Value).toArray }) := T.keep _ _ _ st2 fun b _ o e => Heap.get?_push_of_some _ e
  have f3 : ∀ b ∈ fp, FpOk X pins (upd H2 D (.lst [])) b ∧ b < (s2.heap.push { cls := .type "list", data := .seq ([] : List Value).toArray }).objs.size := fun b hb => by
    obtain ⟨o, ho, _⟩ := T.obj 0 _ st2 b hb
    have hlt : b < D := by rw [← hD']; exact Heap.lt_size ho
    obtain ⟨g0, g⟩ := f2 b hb
    refine ⟨⟨?_, g⟩, by rw [Heap.size_push, hD']; exact Nat.lt_succ_of_lt hlt⟩
    rw [upd_ne (Nat.ne_of_lt hlt)]
    exact g0
  generalize hs3 : ({ s2 with heap := s2.heap.push { cls := .type "list", data := .seq ([] : List Value).toArray } } : Shared) = s3 at *
  have hh3 : s3.heap = s2.heap.push { cls := .type "list", data := .seq ([] : List Value).toArray } := by rw [← hs3]
  rw [← hh3] at st3 f3
  generalize upd H2 D (.lst []) = H3 at *
  refine wpAny_newFunctionEnv S.ncell (by intro y hy; simp at hy) (fun h4 hns hsb => ?_) S.kind
  have hk4 : ∀ b o, s3.heap.get? b = some o → h4.get? b = some o := fun b o e => hsb.extBut b o (Nat.ne_of_lt (Heap.lt_size e)) (Heap.get?_push_of_some _ e)
  have I4 := compInv (t4 := s3.toks + ([] : List (Str × Value)).length) S I3 f3 hlen hcv hns hk4
  have st4 : tn 0 h4 := T.keep _ _ _ st3 fun b _ o e => hk4 b o e
  generalize hXc : compCx X scope cl (x :: caps.map (·.1)) fp pins s3 H3 = Xc at *
  have hcond : ∀ {σ' : St} {H' : Hp} {s' : Shared}, Inv Xc [] σ' H' s' → (∀ b ∈ fp, H' b = none) → ∀ b ∈ fp, FpOk Xc [] H' b := fun {σ' H' s'} I' hn b hb => by
    subst hXc
    obtain ⟨⟨_, g1, g2, g3, g4, g5⟩, hlt⟩ := f3 b hb
    refine ⟨hn b hb, Nat.ne_of_lt hlt, fun z => ?_, .inl hb, fun y c e => g4 y c (S.sub y c e), fun p hp => ?_⟩
    · rcases List.mem_cons.mp (I3.stkSub b z) with q | q
      · exact g1 q
      · exact g2 q
    · have : p ∈ (X.pn ++ pins) ++ [] := hp
      rw [List.append_nil] at this
      exact g5 p this
  -- back to the def's own frame
  have back : ∀ {σ' : St} {H' : Hp} {s' : Shared} {h' : Heap}, Inv Xc [] σ' H' s' → Heap.SameBut s3.heap.objs.size s'.heap h' → Inv X pins σ H' { s' with heap := h' } := fun {σ' H' s' h'} I' hsb' => by
    subst hXc
    have kb := SameBut_keep hsb'
    have neC : ∀ b o, s3.heap.get? b = some o → b ≠ s3.heap.objs.size := fun b o e => Nat.ne_of_lt (Heap.lt_size e)
    have B : Un (frs X.stack) fp H3 H' s3.heap s'.heap := I'.base
    refine I3.call' (ch := fp) (s' := { s' with heap := h' }) I'.os ⟨fun b o e n hb hx => kb b o (neC b o e) (B.keep b o e n hb hx), fun b o e n hb hx => ?_, B.free, fun b o e hx => ?_, B.tups, B.frzs, B.tbls⟩ (fun a o e => ?_) I'.bare fun b hb => ?_
    · obtain ⟨sl, q⟩ := B.slot b o e n hb hx
      exact ⟨sl, kb b _ (neC b o e) q⟩
    · obtain ⟨o', q⟩ := B.there b o e hx
      exact ⟨o', kb b o' (neC b o e) q⟩
    · have hC : H' s3.heap.objs.size = none := I'.free
      refine (I'.hok a o e).stay (fun c u hc q => kb c u ?_ q) (fun _ q => q) fun _ _ q => q
      rcases hc with z | z
      · rw [z]; exact ne_of_none e hC
      · exact ne_of_none z hC
    · obtain ⟨⟨_, g1, g2, g3, g4, g5⟩, _⟩ := f3 b hb
      exact ⟨g3, g1, g4, g5⟩
  have loopI : ∀ s5 : Shared, (∃ i σ' acc H', Inv Xc [] σ' H' s5 ∧ (∃ z, σ' = z :: cvs.map some) ∧ tn i s5.heap ∧ (∀ b ∈ fp, H' b = none) ∧ W i m0 acc H') →
      codeAny (model X.prog X.w) X.A (.compLoop (.ListComp elt [⟨.Name x px, iter, ifs, 0⟩] scope pos) 0 (.ref it) (.ref D) Xc.env) (compPost (model X.prog X.w) X.A X.xe use Qv (.ref D) s3.heap.objs.size) s5 := by
    intro s5 h5
    refine codeAny_loop rfl (fun n s' => ∃ i σ' acc H', Inv Xc [] σ' H' s' ∧ (∃ z, σ' = z :: cvs.map some) ∧ tn i s'.heap ∧ (∀ b ∈ fp, H' b = none) ∧ W i n acc H') (fun n s' hI => ?_) m0 h5
    show wpAny _ X.A ((compTurn (.ListComp elt [⟨.Name x px, iter, ifs, 0⟩] scope pos) 0 (.ref it) (.ref D) Xc.env).onRaise (fun e => do noteFrame e Xc.env; theTreesLotGoes e)) _ _ s'
    refine wpAny_noted ?_
    rw [compTurn_list]
    obtain ⟨i, σ', acc, H', I', ⟨z, rfl⟩, st', fr', w'⟩ := hI
    obtain ⟨hacc, alt⟩ := turn i n acc H' w'
    have hcX : Xc.calm = true := by subst hXc; exact hc
    refine wpAny_bind (wpAny_standAt (wpAny_bind ?_))
    rcases alt with ⟨stop, q⟩ | ⟨go, step⟩
    · have z1 := T.done Xc (by subst hXc; rfl) (by subst hXc; rfl) (by subst hXc; rfl) hcX i [] s' _ H' (notedBy (model X.prog X.w) X.A Xc.env fun e s'' => compPost (model X.prog X.w) X.A X.xe use Qv (.ref D) s3.heap.objs.size (.error e) s'') I' (hcond I' fr') st' stop
      have eA : Xc.A = X.A := by subst hXc; rfl
      rw [eA] at z1
      refine thn z1 fun r s6 ⟨hr, I6⟩ => ?_
      subst hr
      refine wpAny_pure ?_
      obtain ⟨m6, hn6, _⟩ := I6.loc
      have eL : Xc.env.locals = s3.heap.objs.size := by subst hXc; rfl
      have fr6 := I6.free
      rw [eL] at hn6 fr6
      exact fin D _ H' s6 _ (back I6 (Heap.SameBut.refl _ _)) (I3.fpOk (Nat.le_refl _) fr6) ⟨m6, hn6⟩ q
    · have z1 := T.item Xc (by subst hXc; rfl) (by subst hXc; rfl) (by subst hXc; rfl) hcX i [] s' _ H' (notedBy (model X.prog X.w) X.A Xc.env fun e s'' => compPost (model X.prog X.w) X.A X.xe use Qv (.ref D) s3.heap.objs.size (.error e) s'') I' (hcond I' fr') st' go
      have eA : Xc.A = X.A := by subst hXc; rfl
      have eP : Xc.prog = X.prog := by subst hXc; rfl
      have eW : Xc.w = X.w := by subst hXc; rfl
      rw [eA] at z1
      refine thn z1 fun r s6 ⟨u, hr, h6⟩ => ?_
      subst hr
      refine wpAny_bind (thn h6 fun _ s7 ⟨v7, H7, I7, r7, y7, st7, fr7⟩ => ?_)
      have I7' := I7.pinned (hcond I7 fr7) (T.obj _ _ st7)
      have hN : Xc.N = x :: caps.map (·.1) := by subst hXc; rfl
      have hloc : Xc.env.scope.names.lookup x = some .local := by subst hXc; exact lookup_relabel_local S.xloc
      -- the store
      have z2 := pg_name (X := Xc) (i := 0) (pos := px) (by rw [hN]; exact S.nd) (by rw [hN]; rfl) (.inl hloc) (.inr hloc) _ s7 _ H7 v7 u (fun σ8 H8 => σ8 = some v7 :: cvs.map some ∧ H8 = H7) I7' r7 ⟨rfl, rfl⟩
      rw [eP, eW, eA] at z2
      refine wpAny_bind (wpAny_mono z2 (fun _ s8 ⟨σ8, H8, I8, e8, e8'⟩ => ?_) fun _ _ f => by subst hXc; exact f.elim)
      subst e8 e8'
      -- the tests
      have z3 := ht fp pins s3 H3
      rw [hXc] at z3
      have z4 := z3 _ s8 _ _ _ I8 (step v7 _ y7)
      rw [eP, eW, eA] at z4
      refine wpAny_bind (wpAny_mono z4 (fun ok s9 ⟨H9, I9, q9⟩ => ?_) fun _ _ f => by subst hXc; exact f.elim)
      have again : ∀ {σ' : St} {acc' : List V} {H' : Hp} {s' : Shared} {m' : Nat}, Inv Xc ([] ++ pinsAt fp s7.heap) σ' H' s' → (∃ z, σ' = z :: cvs.map some) → m' < n → W (i + 1) m' acc' H' → ∃ m, m < n ∧ ∃ i σ' acc H', Inv Xc [] σ' H' s' ∧ (∃ z, σ' = z :: cvs.map some) ∧ tn i s'.heap ∧ (∀ b ∈ fp, H' b = none) ∧ W i m acc H' := fun {σ' acc' H' s' m'} I' hz hm w' => by
        refine ⟨m', hm, i + 1, σ', acc', H', I'.unpinned, hz, T.keep _ _ _ st7 fun b hb o e => (I'.pin (b, o) (List.mem_append_right _ (List.mem_append_right _ (mem_pinsAt hb e)))).1, fun b hb => ?_, w'⟩
        obtain ⟨o, e, d⟩ := T.obj _ _ st7 b hb
        exact (I'.pin (b, o) (List.mem_append_right _ (List.mem_append_right _ (mem_pinsAt hb e)))).2.1
      cases ok with
      | false =>
        obtain ⟨m', hm, w9⟩ := (show ∃ m', m' < n ∧ W (i + 1) m' acc H9 from by simpa using q9)
        exact wpAny_pure ⟨rfl, again I9 ⟨_, rfl⟩ hm w9⟩
      | true =>
        have q9' := (show te (some v7 :: cvs.map some) H9 fun y H3 => H3 D = some (.lst acc) ∧ acc.length < sizeLine ∧ ∃ m', m' < n ∧ W (i + 1) m' (acc ++ [y]) (upd H3 D (.lst (acc ++ [y]))) from by simpa using q9)
        have z5 := he fp pins s3 H3
        rw [hXc] at z5
        have z6 := z5 _ s9 _ H9 _ I9 q9'
        rw [eP, eW, eA] at z6
        refine wpAny_bind (wpAny_bind (wpAny_mono z6 (fun yv s10 ⟨y, H10, I10, r10, hl10, hz10, m', hm, w10⟩ => ?_) fun _ _ f => by subst hXc; exact f.elim))
        have z7 := mt_append (X := Xc) _ s10 _ H10 (.ref D) [y] (.ref D) [yv] (fun _ H11 => H11 = upd H10 D (.lst (acc ++ [y]))) I10 rfl (.cons r10 .nil) ⟨D, acc, y, rfl, rfl, hl10, hz10, rfl⟩
        rw [eP, eW, eA] at z7
        refine wpAny_bind (wpAny_mono z7 (fun _ s11 ⟨_, H11, I11, _, e11⟩ => ?_) fun _ _ f => by subst hXc; exact f.elim)
        subst e11
        exact wpAny_pure (wpAny_pure ⟨rfl, again I11 ⟨_, rfl⟩ hm w10⟩)
  have start5 : ∃ i σ' acc H', Inv Xc [] σ' H' { s3 with heap := h4, toks := s3.toks + ([] : List (Str × Value)).length } ∧ (∃ z, σ' = z :: cvs.map some) ∧ tn i h4 ∧ (∀ b ∈ fp, H' b = none) ∧ W i m0 acc H' :=
    ⟨0, _, [], H3, I4, ⟨_, rfl⟩, st4, fun b hb => (f3 b hb).1.1, w0⟩
  have L := loopI _ start5
  subst hXc
  exact codeAny_compStart_list L (T.self X.A 0 _ _ _ st4 L)
theorem pe_comp (S : CompScope X scope cl x caps) (hc : X.calm = true) (hi : PI X (.Name x px) iter wi)
    (ht : ∀ fp pins s H, PIf (compCx X scope cl (x :: caps.map (·.1)) fp pins s H) ifs tc) (he : ∀ fp pins s H, PE (compCx X scope cl (x :: caps.map (·.1)) fp pins s H) elt te)
    (hs : ∀ y, foldedSetIterable iter X.env y = pure y := by intro _; rfl) : PE X (.ListComp elt [⟨.Name x px, iter, ifs, 0⟩] scope pos) (tComp wi tc te caps) := by
  intro pins s σ H Q I h
  rw [eval_ListComp]
  refine comp_go (use := none) S hc hi ht he hs I h fun D C H' s' _ I' f n q => ?_
  obtain ⟨m, hn⟩ := n
  obtain ⟨f0, f1, f2, f3, f4, f5⟩ := f
  exact ⟨m, hn, fun h' hsb => ⟨.ref D, H', I'.turned (t' := s'.toks) (fun b o hb e => hsb.extBut b o hb e) f0 f1 f3 f4 f5, rfl, q⟩⟩
theorem ps_setComp {i : Nat} {y : Str} {py spos : Pos} (hN : X.N.Nodup) (hin : X.N[i]? = some y) (hx : Loc X.env.scope y) (hsw : swapsWith (.ListComp elt [⟨.Name x px, iter, ifs, 0⟩] scope pos) (some (.Name y py)) spos.line X.env = pure true)
    (S : CompScope X scope cl x caps) (hc : X.calm = true) (hi : PI X (.Name x px) iter wi)
    (ht : ∀ fp pins s H, PIf (compCx X scope cl (x :: caps.map (·.1)) fp pins s H) ifs tc) (he : ∀ fp pins s H, PE (compCx X scope cl (x :: caps.map (·.1)) fp pins s H) elt te)
    (hs : ∀ y, foldedSetIterable iter X.env y = pure y := by intro _; rfl) (hf : X.fn y = true ∨ X.env.scope.names.lookup y = some .local := by first | exact .inl rfl | exact .inr rfl | assumption) :
    PS X (.Assign [.Name y py] (.ListComp elt [⟨.Name x px, iter, ifs, 0⟩] scope pos) spos) (tAsg (tComp wi tc te caps) (gName i)) := by
  intro pins s σ H D I h
  rw [exec_Assign_Name_used _ _ _ _ hsw]
  refine wpAny_bind (wpAny_standAt (wpAny_bind ?_))
  show wpAny _ X.A (do let _ ← comprehension (.ListComp elt [⟨.Name x px, iter, ifs, 0⟩] scope pos) scope X.env _ (newList []) false (eval iter X.env) (some (assign (.Name y py) X.env))) _ _ s
  refine wpAny_bind (wpAny_mono (comp_go (use := some (assign (.Name y py) X.env)) (Qv := fun _ s' => SP X pins D .next s') S hc hi ht he hs I h fun Dl C H' s' _ I' f n q => ?_) (fun _ s' hq => wpAny_pure (wpAny_pure hq)) fun _ _ e => e)
  obtain ⟨m, hn⟩ := n
  obtain ⟨f0, f1, f2, f3, f4, f5⟩ := f
  show wpAny _ X.A (assign (.Name y py) X.env (.ref Dl)) _ _ _
  refine wpAny_assign_Name (store_ok2 (v := .ref Dl) I' hN hin hx rfl (fun s2 I2 ⟨a, hsb, ha⟩ => ?_) hf)
  have hCa : C ≠ a := by
    rcases ha with z | z
    · rw [z]; exact f1
    · exact fun e => f4 _ _ z e.symm
  refine ⟨m, hn.sameBut hsb hCa, fun h' hsb' => ⟨_, H', I2.turned (t' := s2.toks) (fun b o hb e => hsb'.extBut b o hb e) f0 f1 f3 f4 f5, q⟩⟩
end
end L2
set_option Elab.async false
set_option linter.all false
set_option maxRecDepth 100000
set_option maxHeartbeats 0
namespace L2
open PySem PySem.Spec PyProof.Rows
theorem relabel_same {scope : Scope} {env : Env} (h : ∀ y ∈ scope.names, y.2 ≠ .free ∧ y.2 ≠ .cell) : (relabel scope env).names = scope.names := by
  unfold relabel
  exact map_eq_self fun y hy => by
    obtain ⟨n, k⟩ := y
    have : (k == NameKind.free) = false := by simpa using (h _ hy).1
    simp [this]
theorem compScope0 {X : Cx} {scope : Scope} {x : Str} (kind : scope.kind = .function) (h : ∀ y ∈ scope.names, y.2 ≠ .free ∧ y.2 ≠ .cell) (names : ∀ y ∈ scope.names, y.2 = .local → scope.names.lookup y.1 = some .local) (xl : scope.names.lookup x = some .local) : CompScope X scope [] x [] where
  kind := kind
  clos := closureFor_none fun y hy => (h y hy).1
  ncell := fun y hy => (h y hy).2
  names := names
  xloc := xl
  sub := fun y c e => by cases e
  has := fun y hy => by
    rw [relabel_same h] at hy
    rcases hy with e | e
    · exact absurd rfl (h _ (PySem.mem_of_lookup e)).2
    · exact absurd rfl (h _ (PySem.mem_of_lookup e)).1
  cap := fun k y j e => by simp at e
  nd := by simp
theorem atI_mem {α : Type} {xs : List α} {i : Int} {v : α} (h : atI xs i = some v) : v ∈ xs := by
  obtain ⟨j, _, e, _⟩ := atI_get h
  exact List.mem_of_getElem? e
end L2
set_option Elab.async false
set_option linter.all false
set_option maxRecDepth 100000
set_option maxHeartbeats 0
namespace L2
open PySem PySem.Spec PyProof.Rows
noncomputable def eqLs (e : Nat → Bool) (n m : Nat) : Bool := decide (n = m) && (List.range n).all e
noncomputable def rEqG (X : Cx) (neg : Bool) : R2 := fun x y H Q => ∃ a b xs ys e, x = .ref a ∧ y = .ref b ∧ SqL X.K H a xs ∧ SqL X.K H b ys ∧ (xs.length = ys.length → ∀ j x y, xs[j]? = some x → ys[j]? = some y → EqV X 12 H x y (e j)) ∧
  Q (.bl (if neg = true then !eqLs e xs.length ys.length else eqLs e xs.length ys.length)) H
theorem op_eqG {X : Cx} (hu : X.A.units + 16 < cLine) : OpR X (compareOp .Eq) (rEqG X false) := by
  intro pins s σ H x y v u Q I rx ry h
  obtain ⟨a, b, xs, ys, e, rfl, rfl, ha, hb, he, q⟩ := h
  cases rx
  cases ry
  obtain ⟨us, r1, p1, _⟩ := I.list ha
  obtain ⟨vs, r2, p2, _⟩ := I.list hb
  have l1 := r1.length
  have l2 := r2.length
  by_cases hl : xs.length = ys.length
  · refine SeqAt.eq_listAt (e := e) p1.isList p2.isList (by simp; omega) (by omega) (items_eq I (k := 12) (by rw [in1_units]; omega) (he hl) r1 r2) ⟨.bl _, H, I, ?_, q⟩
    show _ = Value.bool (eqLs e xs.length ys.length)
    unfold eqLs
    rw [decide_eq_true hl, Bool.true_and, l1]
    simp
  · refine SeqAt.eq_list_lengthsAt p1.isList p2.isList (by simp; omega) (by omega) ⟨.bl _, H, I, ?_, q⟩
    show _ = Value.bool (eqLs e xs.length ys.length)
    unfold eqLs
    rw [decide_eq_false hl, Bool.false_and]
section
variable {H : Hp} {Q : VK} {X : Cx} {a b : Addr} {xs ys : List V}
theorem wp_eqNil (ha : SqL X.K H a xs) (hb : SqL X.K H b []) (h : Q (.bl (decide (xs = []))) H) : rEqG X false (.ref a) (.ref b) H Q := by
  refine ⟨a, b, xs, [], fun _ => true, rfl, rfl, ha, hb, fun _ j x y _ hy => by simp at hy, ?_⟩
  have e : eqLs (fun _ => true) xs.length ([] : List V).length = decide (xs = []) := by cases xs <;> simp [eqLs]
  rw [e]; exact h
end
section
variable {σ : St} {H : Hp} {Q : VK} {K : PySem.W.Frag} {a b : Addr} {xs ys : List V} {v : V} {j : Int}
theorem wp_ixL (ha : SqL K H a xs) (hv : atI xs j = some v) (h : Q v H) : rIxL K (.ref a) (.int j) H Q := ⟨a, xs, j, v, rfl, rfl, ha, hv, h⟩
theorem wp_slL {lo hi : Option Int} (ha : SqL K H a xs) (h : ∀ p H', Same H H' → H' p = some (.lst (cutV xs lo hi)) → H p = none → Q (.ref p) H') : rSlL K (.ref a) lo hi H Q := ⟨a, xs, rfl, ha, fun p hp => h p _ (Same.upd hp) upd_same hp⟩
theorem wp_catL (ha : H a = some (.lst xs)) (hb : H b = some (.lst ys)) (hl : xs.length + ys.length ≤ 100000) (h : ∀ p H', Same H H' → H' p = some (.lst (xs ++ ys)) → H p = none → Q (.ref p) H') : rCat (.ref a) (.ref b) H Q :=
  ⟨a, b, xs, ys, rfl, rfl, ha, hb, by rw [sizeLine_eq]; omega, fun p hp => h p _ (Same.upd hp) upd_same hp⟩
theorem wp_lenL (ha : SqL K H a xs) (h : Q (.int xs.length) H) : rLenQ K [.ref a] H Q := ⟨a, xs, rfl, .inl ha, h⟩
theorem wp_lenTu (ha : SqT K H a xs) (h : Q (.int xs.length) H) : rLenQ K [.ref a] H Q := ⟨a, xs, rfl, .inr ha, h⟩
noncomputable def rListOf (K : PySem.W.Frag) : List V → Hp → VK → Prop := fun xs H Q => ∃ p ys, xs = [.ref p] ∧ (SqL K H p ys ∨ SqT K H p ys) ∧ ∀ l, H l = none → Q (.ref l) (upd H l (.lst ys))
theorem call_listOf {X : Cx} : CallR X (.type "list") (rListOf X.K) := call_list_of
theorem wp_listOf (ha : SqL K H a xs) (h : ∀ p H', Same H H' → H' p = some (.lst xs) → H p = none → Q (.ref p) H') : rListOf K [.ref a] H Q := ⟨a, xs, rfl, .inl ha, fun p hp => h p _ (Same.upd hp) upd_same hp⟩
end
theorem sq_of {K : PySem.W.Frag} {H : Hp} {a : Addr} {xs : List V} (h : H a = some (.lst xs)) : SqL K H a xs := .inl (.inl h)
theorem comp_list {K : PySem.W.Frag} {H : Hp} {Q : VK} {a : Addr} {xs : List V} {tc : TT} {te : TE} {cvs : List V} (hz : xs.length ≤ 100000) (Pv : Addr → Nat → List V → Hp → Prop)
    (h0 : ∀ D, H D = none → Pv D 0 [] (upd H D (.lst []))) (hD : ∀ D i acc H', H D = none → i ≤ xs.length → Pv D i acc H' → H' D = some (.lst acc) ∧ acc.length ≤ i ∧ SqL K H' a xs)
    (hs : ∀ D i x acc H' (N : List V → Hp → Prop), H D = none → xs[i]? = some x → acc.length < sizeLine → (∀ acc' H2, Pv D (i + 1) acc' H2 → N acc' H2) → Pv D i acc H' → tc (some x :: cvs.map some) H' fun b H2 => if b = true then te (some x :: cvs.map some) H2 fun y H3 => H3 D = some (.lst acc) ∧ acc.length < sizeLine ∧ N (acc ++ [y]) (upd H3 D (.lst (acc ++ [y]))) else N acc H2)
    (hd : ∀ D acc H', H D = none → Pv D xs.length acc H' → Q (.ref D) H') : compK tc te cvs Q (Itl K a) H := by
  intro D hDn
  refine ⟨fun i m acc H' => m = xs.length - i ∧ i ≤ xs.length ∧ Pv D i acc H', ⟨_, rfl, Nat.zero_le _, h0 D hDn⟩, ?_⟩
  rintro i m acc H' ⟨rfl, hi, hp⟩
  obtain ⟨d1, d2, d3⟩ := hD D i acc H' hDn hi hp
  refine ⟨d1, ?_⟩
  by_cases hlt : i < xs.length
  · refine .inr ⟨⟨xs, xs[i], d3, by simp [hlt]⟩, fun v H2 y => ?_⟩
    obtain ⟨e, y⟩ := y
    subst e
    exact hs D i v acc _ (fun acc' H'' => ∃ m', m' < xs.length - i ∧ (m' = xs.length - (i + 1) ∧ i + 1 ≤ xs.length ∧ Pv D (i + 1) acc' H'')) hDn (y xs d3) (by rw [sizeLine_eq]; omega) (fun acc' H'' hp' => ⟨xs.length - (i + 1), by omega, rfl, hlt, hp'⟩) hp
  · have e : i = xs.length := by omega
    subst e
    exact .inl ⟨⟨xs, d3, Nat.le_refl _⟩, hd D acc H' hDn hp⟩
theorem wp_bm0 {σ : St} {H : Hp} {Q : VK} {K : PySem.W.Frag} {T : String} {r : V → List V → Hp → VK → Prop} {to : TE} (h : to σ H fun x H1 => tyV K T x H1 ∧ r x [] H1 Q) : tBM0 K T r to σ H Q := h
theorem wp_ixAny {H : Hp} {Q : VK} {K : PySem.W.Frag} {a : Addr} {xs : List V} {j : Int} (ha : SqL K H a xs) (h0 : 0 ≤ j) (h1 : j < xs.length) (h : ∀ v, v ∈ xs → Q v H) : rIxL K (.ref a) (.int j) H Q := by
  obtain ⟨v, hv⟩ := atI_some h0 h1
  exact ⟨a, xs, j, v, rfl, rfl, ha, hv, h v (atI_mem hv)⟩
theorem wp_isiL {H : Hp} {Q : VK} {K : PySem.W.Frag} {a : Addr} {xs : List V} (ha : H a = some (.lst xs)) (hk : PySem.W.kitOne K (.type "list") (.type "list") = some true) (h : Q (.bl true) H) : rIsi K [.ref a, .ty "list"] H Q := ⟨_, _, _, _, true, rfl, .lst ha, rfl, hk, h⟩
theorem tyL {K : PySem.W.Frag} {H : Hp} {a : Addr} {xs : List V} (h : H a = some (.lst xs)) : tyV K "list" (.ref a) H := .inl ⟨rfl, _, sq_of h⟩
end L2
set_option Elab.async false
set_option linter.all false
set_option maxRecDepth 100000
set_option maxHeartbeats 0
namespace L2
open PySem PySem.Spec PyProof.Rows
noncomputable def FlyE (h : Heap) (a : Addr) (cls a0 : Value) (T : Addr) : Prop :=
  ∃ oe vs oT ts, h.get? a = some oe ∧ (oe.cls = cls ∧ vs[0]? = some a0) ∧ oe.data = .fields vs ∧ vs[1]? = some (.ref T) ∧ T ≠ a ∧ h.get? T = some oT ∧ oT.data = .fields ts ∧ ts[3]? = some .none
theorem frames_hid {base h : Heap} {as : List Addr} : ∀ {l : List Env}, h.FunFrames base l → (∀ b ∈ frs l, b ∈ as) → h.FunFrames (PySem.W.hideAll h as) l
  | [], _, _ => trivial
  | env :: l, ⟨hk, ⟨L, o, hf, hn, ho, hd⟩, hr⟩, hs => by
    have hL : L ∈ frs (env :: l) := by unfold frs; rw [List.filterMap_cons, hf]; exact .head _
    refine ⟨hk, ⟨L, o, hf, PySem.W.hideAll_none _ (hs L hL), ho, hd⟩, frames_hid hr fun b hb => hs b ?_⟩
    unfold frs at hb ⊢
    rw [List.filterMap_cons, hf]
    exact .tail _ hb
noncomputable def restOf (h : Heap) (a T : Addr) (l : List Env) : Heap := PySem.W.hideAll h (a :: T :: frs l)
theorem FlyE.flying {h base : Heap} {a T : Addr} {cls a0 : Value} {l : List Env} (f : FlyE h a cls a0 T) (hl : h.FunFrames base l) : Heap.FlyingW (restOf h a T l) l a cls a0 h := by
  obtain ⟨oe, vs, oT, ts, h1, h2, h3, h4, h5, h6, h7, h8⟩ := f
  exact ⟨fun b o e => PySem.W.of_hideAll _ e, PySem.W.hideAll_none _ (.head _), frames_hid hl (fun b hb => .tail _ (.tail _ hb)), oe, vs, T, oT, ts, h1, h2, h3, h4, PySem.W.hideAll_none _ (.tail _ (.head _)), h5, h6, h7, h8⟩
section
variable {P : Program} {w : World} {H : Hp} {h h' B : Heap} {a T : Addr} {cls a0 : Value} {l : List Env} {as : List Addr}
theorem hok_rest (ok : HOk P w H h) (hs : (PySem.W.hideAll h as).StaysIn h') (hn : ∀ b ∈ as, H b = none) : HOk P w H h' := fun b u q =>
  (ok b u q).stay (fun c v hc r => hs c v (PySem.W.hideAll_get _ r fun z => by
    have := hn c z
    rcases hc with e | e
    · rw [e, q] at this; cases this
    · rw [e] at this; cases this)) (fun _ r => r) fun _ _ r => r
theorem untracked_new (ok : HOk P w H h) (hn : ∀ b ∈ as, H b = none) {t : Addr} (ht : (PySem.W.hideAll h as).get? t = none) : H t = none := by
  cases q : H t with
  | none => rfl
  | some u =>
    by_cases m : t ∈ as
    · rw [hn t m] at q; cases q
    · obtain ⟨o, ho⟩ : ∃ o, h.get? t = some o := by
        have hlt := (ok t u q)
        cases u with
        | lst xs => obtain ⟨_, _, _, _, e⟩ := hlt; exact ⟨_, e⟩
        | tup xs => obtain ⟨_, _, _, o, e, _⟩ := hlt; exact ⟨_, e⟩
        | dK kvs => obtain ⟨_, _, _, _, o, _, _, e, _⟩ := hlt; exact ⟨_, e⟩
        | dT kvs => obtain ⟨_, _, _, _, o, _, _, e, _⟩ := hlt; exact ⟨_, e⟩
        | set S n => obtain ⟨o, _, _, _, e, _⟩ := hlt; exact ⟨_, e⟩
        | ins C dx fs => obtain ⟨_, _, _, e, _⟩ := hlt; exact ⟨_, e⟩
        | own y => obtain ⟨_, e⟩ := hlt; exact ⟨_, e⟩
        | xd fs => obtain ⟨_, ⟨_, _, _, e, _⟩, _⟩ := hlt; exact ⟨_, e⟩
        | rng lo hi => obtain ⟨_, _, _, e⟩ := hlt; exact ⟨_, e⟩
        | frz ob u => obtain ⟨e, _⟩ := hlt; exact ⟨_, e⟩
        | tbl ps => obtain ⟨_, e, _⟩ := hlt; exact ⟨_, e⟩
        | met f y => exact ⟨_, (show h.get? t = some _ from hlt)⟩
        | ext φ => obtain ⟨_, ⟨_, e⟩, _⟩ := hlt; exact ⟨_, e⟩
      rw [PySem.W.hideAll_get _ ho m] at ht
      cases ht
end
noncomputable def CXE (P : Program) (w : World) : CXT := fun outer H s E e s' =>
  ∃ (a C T : Addr) (a0 : Value) (H' : Hp), e = .ref a ∧ s'.os = s.os ∧ AllBare s'.gens ∧ Un (frs outer) [] H H' s.heap s'.heap ∧ HOk P w H' s'.heap ∧ H' a = none ∧ H' T = none ∧ s.heap.get? a = none ∧ s.heap.get? T = none ∧
    FlyE s'.heap a (.ref C) a0 T ∧ E (.ref C) none H'
section
variable {P : Program} {w : World} {K : PySem.W.Frag} {mg : Str → Option Value} {base : Heap} {N : List Str} {qual : Str} {scope : Scope} {f : Addr} {cd : Value} {A : Around} {outer : List Env} {s : Shared} {H : Hp} {E : XK}
theorem un_out {s1 : Shared} {h' : Heap} {H1 : Hp} {pins : List (Addr × Obj)} {σ : St} {as : List Addr} (I : Inv (cxOf (CXE P w) P w K mg base N qual scope f cd A outer s H E) pins σ H1 s1) (hs : (PySem.W.hideAll s1.heap as).StaysIn h') (up : s1.heap.UpToSlots h')
    (has : ∀ b ∈ as, b ∈ frs outer ∨ s.heap.get? b = none) : Un (frs outer) [] H H1 s.heap h' := by
  have b0 : Un (frs outer) [] H H1 s.heap s1.heap := I.base
  have fr : ∀ b ∈ frs outer, ∃ o, s1.heap.get? b = some o ∧ ∀ vs, o.data ≠ .fields vs := fun b hb => (I.funs.mem hb).2
  refine ⟨fun b o e n hb hx => ?_, fun b o e n hb hx => ?_, b0.free, fun b o e hx => ?_, b0.tups, b0.frzs, b0.tbls⟩
  · refine hs b o (PySem.W.hideAll_get _ (b0.keep b o e n hb hx) fun z => ?_)
    rcases has b z with q | q
    · exact hb q
    · rw [e] at q; cases q
  · obtain ⟨sl, e1⟩ := b0.slot b o e n hb hx
    obtain ⟨o', e2, nf⟩ := fr b hb
    rw [e1] at e2
    cases e2
    obtain ⟨sl2, e3⟩ := up b _ e1 nf
    exact ⟨sl2, e3⟩
  · obtain ⟨o', e1⟩ := b0.there b o e hx
    by_cases m : b ∈ as
    · rcases has b m with q | q
      · obtain ⟨o2, e2, nf⟩ := fr b q
        obtain ⟨sl2, e3⟩ := up b _ e2 nf
        exact ⟨_, e3⟩
      · rw [e] at q; cases q
    · exact ⟨o', hs b o' (PySem.W.hideAll_get _ e1 m)⟩
end
section
variable {P : Program} {w : World} {K : PySem.W.Frag} {mg : Str → Option Value} {base : Heap} {N : List Str} {qual : Str} {scope : Scope} {f : Addr} {cd : Value} {A : Around} {outer : List Env} {s : Shared} {H : Hp} {E : XK} {pins : List (Addr × Obj)} {σ : St}
noncomputable abbrev cxE (P : Program) (w : World) (K : PySem.W.Frag) (mg : Str → Option Value) (base : Heap) (N : List Str) (qual : Str) (scope : Scope) (f : Addr) (cd : Value) (A : Around) (outer : List Env) (s : Shared) (H : Hp) (E : XK) : Cx := cxOf (CXE P w) P w K mg base N qual scope f cd A outer s H E
theorem fr_split {b : Addr} (hb : b ∈ frs (envOfC qual scope s.heap.objs.size f cd :: outer)) : b = s.heap.objs.size ∨ b ∈ frs outer := by
  unfold frs at hb ⊢
  rw [List.filterMap_cons] at hb
  have e : (envOfC qual scope s.heap.objs.size f cd).frame = some s.heap.objs.size := rfl
  rw [e] at hb
  exact List.mem_cons.mp hb
theorem leave_new {H1 : Hp} {s1 : Shared} {h' : Heap} {e C : Addr} {args : List Value} (I : Inv (cxE P w K mg base N qual scope f cd A outer s H E) pins σ H1 s1) (hx : Heap.MadeExcOf s1.heap h' e (.ref C) args) (q : E (.ref C) none H1) :
    (cxE P w K mg base N qual scope f cd A outer s H E).xe (.ref e) { s1 with heap := h' } := by
  have hstk := I.stack
  have nn : ∀ b, s1.heap.get? b = none → s.heap.get? b = none := fun b e => by
    cases z : s.heap.get? b with
    | none => rfl
    | some o =>
      obtain ⟨o', e1⟩ := (show Un (frs outer) [] H H1 s.heap s1.heap from I.base).there b o z (by simp)
      rw [e] at e1; cases e1
  have hunt : ∀ b, s1.heap.get? b = none → H1 b = none := fun b e => untracked_new (as := []) I.hok (fun _ z => nomatch z) e
  have hfree : ∀ b ∈ frs (envOfC qual scope s.heap.objs.size f cd :: outer), H1 b = none := I.stkFree
  refine wpAny_leaves_madeW (s := { s1 with heap := h' }) (env := envOfC qual scope s.heap.objs.size f cd) (outer := outer) (base := PySem.W.hideAll s1.heap (frs (envOfC qual scope s.heap.objs.size f cd :: outer))) (h := s1.heap) I.ok.frames rfl
    (fun b o e => PySem.W.of_hideAll _ e) (frames_hid hstk fun b hb => hb) hx fun h2 t fl htup hbt up => ?_
  obtain ⟨st, hne, hfr, oe, vs, T', oT, ts, g1, g2, g3, g4, g5, g6, g7, g8, g9⟩ := fl
  have up' : s1.heap.UpToSlots h2 := (Heap.UpToSlots.of_keeps hx.keeps).trans up
  have hnT1 : s1.heap.get? T' = none := by
    cases q : s1.heap.get? T' with
    | none => rfl
    | some o =>
      by_cases m : T' ∈ frs (envOfC qual scope s.heap.objs.size f cd :: outer)
      · obtain ⟨_, o2, e2, nf⟩ := hstk.mem m
        obtain ⟨sl, e3⟩ := up' T' o2 e2 nf
        rw [g7] at e3
        cases e3
        exact absurd g8 (nf ts)
      · rw [PySem.W.hideAll_get _ q m] at g5
        cases g5
  refine ⟨e, C, T', .ref t, H1, rfl, I.os, I.bare, un_out I st up' fun b hb => ?_, hok_rest I.hok st hfree, hunt e hx.new, hunt T' hnT1, nn e hx.new, nn T' hnT1, ⟨oe, vs, oT, ts, g1, g2, g3, g4, g6, g7, g8, g9⟩, q⟩
  rcases fr_split hb with z | hb
  · rw [z]; exact .inr (Heap.get?_none_of_le (Nat.le_refl _))
  · exact .inl hb
end
end L2
set_option Elab.async false
set_option linter.all false
set_option maxRecDepth 100000
set_option maxHeartbeats 0
namespace L2
open PySem PySem.Spec PyProof.Rows
abbrev bmV : List Value := [.type "ValueError", .type "Exception", .type "BaseException", .type "object"]
noncomputable def ExcCl (K : PySem.W.Frag) (C : Addr) : Prop := PySem.W.excIn K C bmV "ValueError.__new__" = true
theorem exc_obj {K : PySem.W.Frag} {h : Heap} {C : Addr} {bmB : List Value} {newId : String} (X : K.In h) (q : PySem.W.excIn K C bmB newId = true) :
    ∃ bm N nm qn bs hd sn sub ab col dd k0 k1 k2 k3 k5 mN, h.get? C = some (excClassObj nm qn C N bs bm hd sn sub ab col dd k0 k1 k2 k3 k5 newId) ∧ h.Ns N mN ∧ mN "__init__" = none ∧ OwnTail h bmB bm := by
  unfold PySem.W.excIn at q
  split at q
  · rename_i dd cd sl ho
    split at q
    · rename_i C' bm k0 k1 k2 k3 n k5 hm hs
      simp only [Bool.and_eq_true, beq_iff_eq, Bool.not_eq_true'] at q
      obtain ⟨⟨⟨⟨⟨rfl, rfl⟩, hdel⟩, ht⟩, hok⟩, hni⟩ := q
      obtain ⟨nm, bs, mro, ns, qn, hd, sn, sub, ab, col, del⟩ := cd
      dsimp only at hm hdel hok hni
      subst hm hdel
      have hsl : sl = #[k0, k1, k2, k3, some (.builtin n), k5] := by
        obtain ⟨l⟩ := sl
        simp only at hs
        rw [hs]
      subst hsl
      exact ⟨bm, ns, nm, qn, bs, hd, sn, sub, ab, col, dd, k0, k1, k2, k3, k5, _, X _ _ ho, .of_isNs (PySem.W.isNs_of_in X hok), PySem.W.nsMap_none_of_in X hok hni, PySem.W.tail_of_in X ht⟩
    · cases q
  · cases q
noncomputable def tRaise (E : XK) (C : Addr) (t : TA) : TS := fun _ σ H => t σ H fun xs H1 => xs.length ≤ sizeLine ∧ E (.ref C) none H1
section
variable {P : Program} {w : World} {K : PySem.W.Frag} {mg : Str → Option Value} {base : Heap} {N : List Str} {qual : Str} {scope : Scope} {f : Addr} {cd : Value} {A : Around} {outer : List Env} {s : Shared} {H : Hp} {E : XK}
theorem ps_raise {x : Str} {np cpos pos : Pos} {e : Expr} {es : List Expr} {t : TA} {C : Addr} {k : Nat} (hC : ExcCl K C) (hr : Room k (cxE P w K mg base N qual scope f cd A outer s H E).A) (hm : mg x = some (.ref C)) (ha : PA (cxE P w K mg base N qual scope f cd A outer s H E) (e :: es) t)
    (hg : Gl (cxE P w K mg base N qual scope f cd A outer s H E) x := by rfl) (hdb : (x == ("__debug__" : Str)) = false := by decide) (he : starEach (e :: es) (cxE P w K mg base N qual scope f cd A outer s H E).env = (false, eval e (cxE P w K mg base N qual scope f cd A outer s H E).env) :: starEach es (cxE P w K mg base N qual scope f cd A outer s H E).env := by rfl)
    (hpl : (backTo cpos (starEach es (cxE P w K mg base N qual scope f cd A outer s H E).env)).any (·.1) = false := by rfl) :
    PS (cxE P w K mg base N qual scope f cd A outer s H E) (.Raise (some (.Call (.Name x np) (e :: es) [] cpos)) none pos) (tRaise E C t) := by
  intro pins s1 σ H1 D I h
  obtain ⟨bm, Nn, nm, qn, bs, hd, sn, sub, ab, col, dd, k0, k1, k2, k3, k5, mN, hC1, hN1, hni, TL1⟩ := exc_obj I.mod.kin hC
  have hbase : bm.contains (.type "BaseException") = true := TL1.hasType (by decide)
  have eb : backTo cpos (starEach (e :: es) (cxE P w K mg base N qual scope f cd A outer s H E).env) = (false, eval e (cxE P w K mg base N qual scope f cd A outer s H E).env) :: backTo cpos (starEach es (cxE P w K mg base N qual scope f cd A outer s H E).env) := by rw [he]; rfl
  refine wpAny_Raise_call_subT (C := C) (mN := mN) (nm := nm) (q := qn) (N := Nn) (bs := bs) (hdct := hd) (sn := sn) (sub := sub) (ab := ab) (col := col) (dd := dd) (k0 := k0) (k1 := k1) (k2 := k2) (k3 := k3) (k5 := k5) PySem.F.excBase_ValueError hbase hr.hd ?_ hni ?_
  · rw [eb]
    simpa using hpl
  refine ld_glob I hg hm ⟨rfl, ?_⟩ hdb
  rw [eb]
  refine Calls.evalArgs_plain ?_
  rw [← eb]
  refine thn (ha cpos pins s1 σ H1 _ I h) fun us s2 ⟨xs, H2, I2, r, hz, q⟩ => ?_
  refine ⟨rfl, by rw [← r.length]; exact hz, I2.bk _ _ hC1, hN1.keeps I2.bk, TL1.keeps I2.bk, fun h' e hx => ?_⟩
  exact leave_new I2 hx q
end
structure FnAllE (P : Program) (w : World) (K : PySem.W.Frag) (mg : Str → Option Value) (base : Heap) (x : Str) (k : Nat) (ps : List Str) (sp : Sp) : Prop where
  ex : ∃ f fd, FnOk P w K mg base (CXE P w) k f fd ps sp ∧ mg x = some (.ref f) ∧ PySem.W.keepIn K (.ref f) = true ∧ Binds K fd ps []
section
variable {P : Program} {w : World} {K : PySem.W.Frag} {mg : Str → Option Value} {base : Heap}
theorem Fn.okE {x : Str} {st : Stmt} {N ps : List Str} {k : Nat} {sp : Sp} (F : Fn K mg x st ps) (S : FnScope N ps (defScope st)) (len : ∀ vs H Q E, sp vs H Q E → vs.length = ps.length)
    (hbody : ∀ (f : Addr) (cdv : Value) (A : Around) (outer : List Env) (s : Shared) (H : Hp) (vs : List V) (Q : VK) (E : XK), Room k (A.deeper (envOfC x (defScope st) s.heap.objs.size f cdv)) → sp vs H Q E →
      ∃ t, PSs (cxE P w K mg base N x (defScope st) f cdv A outer s H E) (defBody st) t ∧ t { nx := fun _ H' => Q .non H', rt := Q } (start N vs) H) : FnAllE P w K mg base x (k + 1) ps sp := by
  obtain ⟨f, fd, F, hm, hb⟩ := F.ex
  obtain ⟨oc, od, kV, doc, pm, an, cdv, ct, osl, rfl, lk, hcd⟩ := F.ex
  exact ⟨f, _, fn_of lk hcd S len fun A outer s H vs Q E hr hsp => hbody f cdv A outer s H vs Q E hr hsp, hm, F.kp, hb⟩
end
noncomputable def tCallE (sp : Sp) (E : XK) (t : TA) : TE := fun σ H Q => t σ H fun vs H1 => sp vs H1 Q E
section
variable {X : Cx} {x : Str} {k n : Nat} {ps : List Str} {sp : Sp} {spC : Addr → Sp} {e o : Expr} {es : List Expr} {t : TA} {ta : TE} {p pos apos : Pos} {E : XK} {ok : Addr → Prop} {m : Str}
theorem pe_callE (F : FnAllE X.prog X.w X.K X.mg X.base x k ps sp) (hr : Room n X.A) (hx : Passes (CXE X.prog X.w) X E) (ha : PA X (e :: es) t) (hk : k ≤ n := by decide) (hg : Gl X x := by rfl) (hdb : (x == ("__debug__" : Str)) = false := by decide)
    (he : starEach (e :: es) X.env = (false, eval e X.env) :: starEach es X.env := by rfl) (hpl : (backTo pos (starEach es X.env)).any (·.1) = false := by rfl) : PE X (.Call (.Name x p) (e :: es) [] pos) (tCallE sp E t) := by
  obtain ⟨f, fd, G, hm, hkp, hb⟩ := F.ex
  intro pins s σ H Q I h
  refine pe_call G (hr.mono hk) hg hm hkp hb .nil hx ha hdb he hpl pins s σ H Q I ?_
  have z : tCall sp [] E t = tCallE sp E t := by
    unfold tCall tCallE
    funext σ H Q
    congr 1
    funext vs H1
    rw [List.append_nil]
  rw [z]; exact h
end
noncomputable def Cx.hand (X : Cx) (a : Addr) : Cx := { X with A := X.A.mark (some (.ref a)), calm := false, xe := fun _ _ => False }
section
variable {X : Cx} {pins : List (Addr × Obj)} {σ : St} {H H' : Hp} {s : Shared} {a C : Addr}
theorem Inv.hand (I : Inv X pins σ H s) : Inv (X.hand a) pins σ H s :=
  ⟨⟨I.ok.mod, I.ok.kind, I.ok.glob, I.ok.blt, I.ok.above, I.ok.inj, I.ok.has, I.ok.cab, (fun z => nomatch z), I.ok.frames, I.ok.stk, I.ok.exf, I.ok.bs, I.ok.bsz, I.ok.noex, I.ok.exfs, I.ok.funs, I.ok.frf⟩, I.os, I.bare, I.base, I.loc, I.cell, I.free, I.freeC, I.pin, I.hok, I.len⟩
theorem Inv.unhand (ok : X.Ok) (I : Inv (X.hand a) pins σ H s) : Inv X pins σ H s := ⟨ok, I.os, I.bare, I.base, I.loc, I.cell, I.free, I.freeC, I.pin, I.hok, I.len⟩
noncomputable def noSt (X : Cx) : St := List.replicate X.N.length none
theorem Inv.forget (I : Inv X pins σ H s) : Inv X pins (noSt X) H s := by
  refine ⟨I.ok, I.os, I.bare, I.base, ?_, I.cell, I.free, I.freeC, I.pin, I.hok, by unfold noSt; rw [List.length_replicate]⟩
  obtain ⟨m, hn, _⟩ := I.loc
  refine ⟨m, hn, fun i x v _ h2 => ?_⟩
  unfold noSt at h2
  rw [List.getElem?_replicate] at h2
  split at h2 <;> cases h2
noncomputable def ExcO (a C : Addr) (h : Heap) : Prop := ∃ o, h.get? a = some o ∧ o.cls = .ref C
noncomputable def excHO (a C : Addr) : HO := .ext (ExcO a C)
theorem Inv.caught {s' : Shared} {o : Obj} {vs : Array Value} (I : Inv X pins σ H s) (hos : s'.os = s.os) (hb : AllBare s'.gens) (un : Un (frs X.stack) [] H H' s.heap s'.heap) (hok : HOk X.prog X.w H' s'.heap) (na : s.heap.get? a = none) (ha : H' a = none)
    (ho : s'.heap.get? a = some o) (hoc : o.cls = .ref C) (hod : o.data = .fields vs) : Inv X pins σ (upd H' a (excHO a C)) s' := by
  have I' := I.call' (ch := []) hos un hok hb (fun b z => absurd z (by simp))
  have na0 : X.s₀.heap.get? a = none ∨ a ∈ X.ex := by
    cases z : X.s₀.heap.get? a with
    | none => exact .inl rfl
    | some q =>
      by_cases m : a ∈ X.ex
      · exact .inr m
      · obtain ⟨o', e1⟩ := I.base.there a q z m
        rw [na] at e1; cases e1
  have nL : X.env.locals ≠ a := fun e => by
    obtain ⟨m, ⟨oL, es, ep, hoL, hdL, _⟩, _⟩ := I'.loc
    rw [e, ho] at hoL; cases hoL; rw [hod] at hdL; cases hdL
  have nt : ∀ b u, H' b = some u → b ≠ a := fun b u e z => by rw [z, ha] at e; cases e
  refine ⟨I'.ok, I'.os, I'.bare, ⟨I'.base.keep, I'.base.slot, fun b q e n hx => ?_, I'.base.there, fun b xs e => ?_, fun b q u e => ?_, fun b ps e => ?_⟩, I'.loc, I'.cell, ?_, fun x c e => ?_, fun p hp => ?_, fun b u e => ?_, I'.len⟩
  · rw [upd_ne]
    · exact I'.base.free b q e n hx
    · intro z
      rcases na0 with y | y
      · rw [z, y] at e; cases e
      · exact hx (by rw [z]; exact y)
  · have := I'.base.tups b xs e
    rw [upd_ne (nt b _ this)]; exact this
  · have := I'.base.frzs b q u e
    rw [upd_ne (nt b _ this)]; exact this
  · obtain ⟨more, h1⟩ := I'.base.tbls b ps e
    exact ⟨more, by rw [upd_ne (nt b _ h1)]; exact h1⟩
  · rw [upd_ne nL]; exact I'.free
  · rw [upd_ne]
    · exact I'.freeC x c e
    · intro z
      obtain ⟨v, oc, hoc', hdc⟩ := I'.cell x c e
      rw [z, ho] at hoc'; cases hoc'; rw [hod] at hdc; cases hdc
  · obtain ⟨e, n, ne, nf, d⟩ := I'.pin p hp
    refine ⟨e, ?_, ne, nf, d⟩
    rw [upd_ne]
    · exact n
    · intro z
      have := (I.pin p hp).1
      rw [z, na] at this; cases this
  · by_cases hba : b = a
    · subst hba
      rw [upd_same] at e
      cases e
      exact ⟨⟨o, ho, hoc⟩, ⟨o, ho⟩, fun h1 h2 ⟨q, e1, e2⟩ k => ⟨q, k q e1, e2⟩⟩
    · rw [upd_ne hba] at e
      refine (I'.hok b u e).stay (fun _ _ _ r => r) (fun c r => ?_) fun c xs r => ?_
      · rw [upd_ne (nt c _ r)]; exact r
      · rw [upd_ne (nt c _ r)]; exact r
theorem Inv.unbound {i : Nat} {x : Str} {h' : Heap} {m : Str → Option Value} {u : Option Value} (I : Inv X pins σ H s) (hN : X.N.Nodup) (hi : X.N[i]? = some x) (hn : s.heap.Ns X.env.locals m) (hn' : h'.Ns X.env.locals (fun y => if y = x then u else m y)) (hs : Heap.SameBut X.env.locals s.heap h') :
    Inv X pins (σ.set i none) H { s with heap := h' } := by
  obtain ⟨m0, hn0, hl⟩ := id I.loc
  have cne := I.cne
  have em : m0 = m := by
    obtain ⟨o1, es1, ep1, a1, b1, c1, d1⟩ := hn0
    obtain ⟨o2, es2, ep2, a2, b2, c2, d2⟩ := hn
    rw [a1] at a2
    cases a2
    rw [b1] at b2
    cases b2
    funext y
    rw [← d1 y, ← d2 y]
  subst em
  obtain ⟨oL, _, _, hoL, _⟩ := id hn0
  refine ⟨I.ok, I.os, I.bare, ⟨fun b o e n hb hx => ?_, fun b o e n hb hx => ?_, I.base.free, fun b o e hx => ?_, I.base.tups, I.base.frzs, I.base.tbls⟩, ⟨_, hn', fun j y v' e1 e2 e3 => ?_⟩, fun y c e => ?_, I.free, I.freeC, fun p hp => ?_, fun b ob e => ?_, by simpa using I.len⟩
  · exact (hs.2 b (Nat.ne_of_lt (Nat.lt_of_lt_of_le (Heap.lt_size e) I.ok.above))).trans (I.base.keep b o e n hb hx)
  · obtain ⟨sl, e1⟩ := I.base.slot b o e n hb hx
    exact ⟨sl, (hs.2 b (Nat.ne_of_lt (Nat.lt_of_lt_of_le (Heap.lt_size e) I.ok.above))).trans e1⟩
  · obtain ⟨o', e1⟩ := I.base.there b o e hx
    exact ⟨o', (hs.2 b (Nat.ne_of_lt (Nat.lt_of_lt_of_le (Heap.lt_size e) I.ok.above))).trans e1⟩
  · by_cases hj : j = i
    · subst hj
      have hiσ : j < σ.length := by rw [I.len]; exact (List.getElem?_eq_some_iff.mp hi).1
      rw [List.getElem?_set_self hiσ] at e2
      cases e2
    · rw [List.getElem?_set_ne (Ne.symm hj)] at e2
      obtain ⟨u', r', q⟩ := hl j y v' e1 e2 e3
      refine ⟨u', r', ?_⟩
      rcases q with ⟨k, e⟩ | ⟨k, c, e, z⟩
      · refine .inl ⟨k, ?_⟩
        have : y ≠ x := fun e => hj (nodup_ix hN e1 (e ▸ hi))
        simp [this, e]
      · exact .inr ⟨k, c, e, z.sameBut hs (cne y c e)⟩
  · obtain ⟨w', z⟩ := I.cell y c e
    exact ⟨w', z.sameBut hs (cne y c e)⟩
  · obtain ⟨e, n, ne, nf, d⟩ := I.pin p hp
    exact ⟨(hs.2 p.1 ne).trans e, n, ne, nf, d⟩
  · refine (I.hok b ob e).stay (fun c w' hc q => (hs.2 c ?_).trans q) (fun _ q => q) fun _ _ q => q
    rintro rfl
    rcases hc with rfl | hc
    · rw [I.free] at e; cases e
    · rw [I.free] at hc; cases hc
end
end L2
set_option Elab.async false
set_option linter.all false
set_option maxRecDepth 100000
set_option maxHeartbeats 0
namespace L2
open PySem PySem.Spec PyProof.Rows
noncomputable abbrev Cx.inTry (X : Cx) (pn : List (Addr × Obj)) (F : Value → Shared → Prop) : Cx := { X with pn := pn, xe := F }
section
variable {X : Cx} {pins : List (Addr × Obj)} {σ : St} {H H' : Hp} {s : Shared} {a C : Addr} {F : Value → Shared → Prop}
theorem Inv.toTry (I : Inv X pins σ H s) : Inv (X.inTry (X.pn ++ pins) F) [] σ H s :=
  ⟨⟨I.ok.mod, I.ok.kind, I.ok.glob, I.ok.blt, I.ok.above, I.ok.inj, I.ok.has, I.ok.cab, I.ok.hd, I.ok.frames, I.ok.stk, I.ok.exf, I.ok.bs, I.ok.bsz, I.ok.noex, I.ok.exfs, I.ok.funs, I.ok.frf⟩, I.os, I.bare, I.base, I.loc, I.cell, I.free, I.freeC, fun p hp => I.pin p (by
    have : p ∈ (X.pn ++ pins) ++ [] := hp
    rwa [List.append_nil] at this), I.hok, I.len⟩
theorem Inv.ofTry {pl : List (Addr × Obj)} (I : Inv (X.inTry (X.pn ++ pins) F) pl σ H s) : Inv X pins σ H s :=
  ⟨⟨I.ok.mod, I.ok.kind, I.ok.glob, I.ok.blt, I.ok.above, I.ok.inj, I.ok.has, I.ok.cab, I.ok.hd, I.ok.frames, I.ok.stk, I.ok.exf, I.ok.bs, I.ok.bsz, I.ok.noex, I.ok.exfs, I.ok.funs, I.ok.frf⟩, I.os, I.bare, I.base, I.loc, I.cell, I.free, I.freeC, fun p hp => I.pin p (List.mem_append_left _ hp), I.hok, I.len⟩
theorem SP.ofTry {D : Ends} {f : Flow} {s' : Shared} (h : SP (X.inTry (X.pn ++ pins) F) [] D f s') : SP X pins D f s' := by
  cases f with
  | next => obtain ⟨σ', H', I, q⟩ := h; exact ⟨σ', H', I.ofTry, q⟩
  | brk => obtain ⟨σ', H', I, q⟩ := h; exact ⟨σ', H', I.ofTry, q⟩
  | cont => obtain ⟨σ', H', I, q⟩ := h; exact ⟨σ', H', I.ofTry, q⟩
  | ret u => obtain ⟨v, σ', H', I, r, q⟩ := h; exact ⟨v, σ', H', I.ofTry, r, q⟩
end
noncomputable def handD (D : Ends) (i : Nat) : Ends := { nx := fun σ H => D.nx (σ.set i none) H, rt := D.rt, bk := fun σ H => D.bk (σ.set i none) H, ct := fun σ H => D.ct (σ.set i none) H }
noncomputable def handE (K : PySem.W.Frag) (CB : Addr) (i : Nat) (z : St) (ts : TS) (D : Ends) : XK := fun cls _ H' => ∃ C, cls = .ref C ∧ PySem.W.exmOne K (.ref C) (.ref CB) = some true ∧ ∀ a, H' a = none → ts (handD D i) (z.set i (some (.ref a))) (upd H' a (excHO a C))
noncomputable def tTry (K : PySem.W.Frag) (CB : Addr) (i : Nat) (z : St) (tb : XK → TS) (ts : TS) : TS := fun D σ H => tb (handE K CB i z ts D) D σ H
section
variable {X : Cx} {body : List Stmt} {x n : Str} {np hpos pos : Pos} {b0 : Stmt} {suite : List Stmt} {CB : Addr} {i : Nat} {tb : XK → TS} {ts : TS} {L : Addr}
theorem ps_try (hm : X.mg x = some (.ref CB)) (hN : X.N.Nodup) (hi : X.N[i]? = some n) (hlo : X.env.scope.names.lookup n = some .local)
    (hb : ∀ (pn : List (Addr × Obj)) (F : Value → Shared → Prop) (E' : XK), Passes (CXE X.prog X.w) (X.inTry pn F) E' → PSs (X.inTry pn F) body (tb E')) (hs : ∀ a, PSs (X.hand a) (b0 :: suite) ts)
    (hgl : Gl X x := by rfl) (hdb : (x == ("__debug__" : Str)) = false := by decide) (hstk : X.stack = X.env :: X.outer := by rfl) (hfr : X.env.frame = some X.env.locals := by rfl) :
    PS X (.Try body [.ExceptHandler (some (.Name x np)) (some n) (b0 :: suite) hpos] [] [] pos) (tTry X.K CB i (noSt X) tb ts) := by
  intro pins s σ H D I h
  refine wpAny_Try_except ?_
  let EB : Value → Shared → Prop := fun e s₁ => wpAny (model X.prog X.w) X.A (noteFrame e X.env) (fun _ s₂ => wpAny (model X.prog X.w) X.A (setFlight e none) (fun _ s₃ => wpAny (model X.prog X.w) X.A (handleBy e X.env [.ExceptHandler (some (.Name x np)) (some n) (b0 :: suite) hpos]) (SP X pins D) X.xe s₃) X.xe s₂) X.xe s₁
  have pass : Passes (CXE X.prog X.w) (X.inTry (X.pn ++ pins) EB) (handE X.K CB i (noSt X) ts D) := by
    intro pl σ1 H1 s1 e s' I1 hc
    obtain ⟨a, C, T, a0, H', rfl, hos, hbare, un, hok, ha, hT, na, nT, fl, q⟩ := hc
    obtain ⟨C', eC, hex, hq⟩ := q
    cases eC
    have J1 : Inv X pins σ1 H1 s1 := I1.ofTry
    have Js := J1.call' (ch := []) hos un hok hbare (fun b z => absurd z (by simp))
    have hst := Js.stack
    have fl1 := fl.flying hst
    rw [hstk] at fl1 hst
    have hA : X.A.frames = some (X.env :: X.outer) := by rw [← hstk]; exact J1.ok.frames
    have hfree : ∀ b ∈ a :: T :: frs (X.env :: X.outer), H' b = none := fun b hb => by
      rcases List.mem_cons.mp hb with e | hb
      · rw [e]; exact ha
      · rcases List.mem_cons.mp hb with e | hb
        · rw [e]; exact hT
        · exact Js.stkFree b (by rw [hstk]; exact hb)
    show wpAny _ X.A (noteFrame (.ref a) X.env) _ _ s'
    refine wpAny_looks_onW hA hfr fl1 fun h4 held4 up4 => ?_
    refine wpAny_landsW held4 fun h5 fl5 up5 => ?_
    -- behind any of these steps: what is not the exception's own is as it was
    have after : ∀ h6 : Heap, (restOf s'.heap a T (X.env :: X.outer)).StaysIn h6 → s'.heap.UpToSlots h6 → Un (frs X.stack) [] H1 H' s1.heap h6 ∧ HOk X.prog X.w H' h6 := by
      intro h6 st6 up6
      refine ⟨⟨fun b o e nn hb hx => ?_, fun b o e nn hb hx => ?_, un.free, fun b o e hx => ?_, un.tups, un.frzs, un.tbls⟩, hok_rest hok st6 hfree⟩
      · have e1 := un.keep b o e nn hb hx
        refine st6 b o (PySem.W.hideAll_get _ e1 fun z => ?_)
        rcases List.mem_cons.mp z with y | z
        · rw [y, na] at e; cases e
        · rcases List.mem_cons.mp z with y | z
          · rw [y, nT] at e; cases e
          · exact hb (by rw [hstk]; exact z)
      · obtain ⟨sl, e1⟩ := un.slot b o e nn hb hx
        have m : b ∈ frs (X.env :: X.outer) := by rw [← hstk]; exact hb
        obtain ⟨_, o2, e2, nf⟩ := hst.mem m
        rw [e1] at e2
        cases e2
        obtain ⟨sl2, e3⟩ := up6 b _ e1 nf
        exact ⟨sl2, e3⟩
      · obtain ⟨o', e1⟩ := un.there b o e hx
        by_cases m : b ∈ a :: T :: frs (X.env :: X.outer)
        · rcases List.mem_cons.mp m with y | m
          · rw [y, na] at e; cases e
          · rcases List.mem_cons.mp m with y | m
            · rw [y, nT] at e; cases e
            · obtain ⟨_, o2, e2, nf⟩ := hst.mem m
              obtain ⟨sl2, e3⟩ := up6 b _ e2 nf
              exact ⟨_, e3⟩
        · exact ⟨o', st6 b o' (PySem.W.hideAll_get _ e1 m)⟩
    have up45 := up4.trans up5
    obtain ⟨un5, hok5⟩ := after h5 fl5.1 up45
    have J5 : Inv X pins σ1 H' { s' with heap := h5 } := J1.call' (ch := []) (s' := { s' with heap := h5 }) hos un5 hok5 hbare (fun b z => absurd z (by simp))
    obtain ⟨oe5, he5, hc5⟩ := fl5.there
    refine wpAny_handleBy_cons (codeAny_handlers_test ?_) (by intro q; cases q)
    refine ld_glob (X := X.hand a) (J5.hand) hgl hm ?_ hdb
    have LT : PySem.W.Looks (model X.prog X.w) h5 (typeOf (.ref a)) (.ref C) := hc5 ▸ (PySem.W.Looks.ld he5).andThen .now
    have LM := PySem.W.exm_one (M := model X.prog X.w) (h := h5) J5.kIn LT hex
    refine LM.here ?_
    refine codeAny_handlers_suite_as ?_
    refine lands_againW fl5 fun h6 fl6 up6 => ?_
    have up46 := up45.trans up6
    obtain ⟨un6, hok6⟩ := after h6 fl6.1 up46
    obtain ⟨oe6, vs6, he6, hc6, hd6, _⟩ := fl6.first
    have J6 := J1.caught (s' := { s' with heap := h6 }) (a := a) (C := C) hos hbare un6 hok6 na ha he6 hc6 hd6
    have J6' := J6.forget
    refine store_ok (X := X.hand a) (v := .ref a) (J6'.hand) hN hi (.inl hlo) rfl (fun s7 J7 => ?_) (.inr hlo)
    have suite := hs a pins s7 _ _ (handD D i) J7 (hq a ha)
    refine wpAny_mono suite (fun f s8 h8 => ?_) fun _ _ z => z.elim
    -- the name goes
    have gone : ∀ {σ8 : St} {H8 : Hp}, Inv (X.hand a) pins σ8 H8 s8 → ∀ (R : Shared → Prop), (∀ s9, Inv X pins (σ8.set i none) H8 s9 → R s9) → wpAny (model X.prog X.w) X.A (do bindName X.env n .none; unbindBehindTheSuite X.env n hpos) (fun _ s9 => R s9) X.xe s8 := by
      intro σ8 H8 J8 R hR
      have K8 : Inv X pins σ8 H8 s8 := J8.unhand J1.ok
      refine wpAny_bind (wpAny_bindName (store_ok (v := .non) K8 hN hi (.inl hlo) rfl (fun s9 J9 => ?_) (.inr hlo)))
      unfold unbindBehindTheSuite
      refine wpAny_onRaise ?_
      obtain ⟨m, hn, hl⟩ := id J9.loc
      have hiσ : i < σ8.length := by rw [K8.len]; exact (List.getElem?_eq_some_iff.mp hi).1
      obtain ⟨u, ru, lk⟩ := hl i n .non hi (by rw [List.getElem?_set_self hiσ]) (.inl hlo)
      have hmn : m n = some u := by
        rcases lk with ⟨_, e⟩ | ⟨k, _⟩
        · exact e
        · rcases k with k | k <;> rw [show X.env.kindOf n = some .local from hlo] at k <;> cases k
      have hcls : (X.env.scope.kind == .class || (X.env.scope.kind == .module && X.env.locals != X.env.globals)) = false := by rw [J9.ok.kind]; rfl
      refine wpAny_unbindName_local hlo hn hmn hcls fun h' u' hn' hsb => ?_
      have J10 := J9.unbound hN hi hn hn' hsb
      rw [List.set_set] at J10
      exact hR _ J10
    cases f with
    | next => obtain ⟨σ8, H8, J8, q8⟩ := h8; exact gone J8 _ fun s9 J9 => ⟨_, _, J9, q8⟩
    | brk => obtain ⟨σ8, H8, J8, q8⟩ := h8; exact gone J8 _ fun s9 J9 => ⟨_, _, J9, q8⟩
    | cont => obtain ⟨σ8, H8, J8, q8⟩ := h8; exact gone J8 _ fun s9 J9 => ⟨_, _, J9, q8⟩
    | ret u => obtain ⟨v, σ8, H8, J8, r8, q8⟩ := h8; exact gone J8 _ fun s9 J9 => ⟨_, _, _, J9, r8, q8⟩
  have hb' := hb (X.pn ++ pins) EB _ pass [] s σ H D I.toTry h
  refine wpAny_mono hb' (fun f s1 q => ?_) fun _ _ z => z
  cases f with
  | next => exact wpAny_execs_nil (SP.ofTry q)
  | brk => exact SP.ofTry q
  | cont => exact SP.ofTry q
  | ret u => exact SP.ofTry q
end
end L2
set_option Elab.async false
set_option linter.all false
set_option maxRecDepth 100000
set_option maxHeartbeats 0
namespace L2
open PySem PySem.Spec PySem.Calls PyProof.Rows PySem.W PySem.Builtin PySem.Builtin.ObjectAttr PySem.Builtin.Getset_descriptor
section
variable {prog : Program} {w : World} {A : Around} {E : Value → Shared → Prop} {s : Shared} {K : PySem.W.Frag} {a C : Addr} {R : Result → Shared → Prop}
structure ExcF (K : PySem.W.Frag) (C : Addr) : Prop where
  ga : PySem.W.findIn K (.ref C) "__getattribute__" = some (some (.builtin "BaseException.__getattribute__"))
  gt : PySem.W.findIn K (.ref C) "__getattr__" = some none
  cl : PySem.W.findIn K (.ref C) "__class__" = some (some (.builtin "object.__class__"))
  ob : PySem.W.mroIn K C (.type "object") = some true
  be : PySem.W.mroIn K C (.type "BaseException") = some true
  ci : (PySem.W.clsIn K C).isSome = true
theorem exc_class_get {tp : Value} (X : K.In s.heap) (x : ExcO a C s.heap) (F : ExcF K C) (h : R (.ok (.ret (.ref C))) s) :
    codeAny (model prog w) A (.call (.builtin "getset_descriptor.__get__") ⟨[.builtin "object.__class__", .ref a, tp], []⟩) R s := by
  obtain ⟨hh, g, dr, t, os⟩ := s
  obtain ⟨o, ho, hc⟩ := x
  have L0 : Looks (model prog w) hh (typeOf (.ref a)) (.ref C) := hc ▸ (Looks.ld ho).andThen .now
  have L1 := looks_mroIn (M := model prog w) X F.ob
  refine codeAny_call_builtin KF.slot_gs.plain KF.entry_gs (KF.slot_gs.check _ _ _ _ _ _ _ _ KF.type_class (KF.args_gs _ _ _) ?_)
  unfold Builtin.«getset_descriptor.__get__» descrGet
  rw [dga_obj]
  refine wpAny_bind (wpAny_pure ?_)
  unfold descrGetter descrCheckInstance descrNameAndClass isInstance
  simp only [KF.owner_class]
  repeat lk
  refine ⟨Code.quiet_builtin _ (by decide +kernel), codeAny_builtin KF.entry_class ?_⟩
  unfold Builtin.«object.__class__» shownTypeOf
  repeat lk
  exact h
theorem exc_class_entry {tk : Tok} {Q : Fin → Shared → Prop} (X : K.In s.heap) (x : ExcO a C s.heap) (F : ExcF K C) (h : Q (.done (.ret (.ref C))) s) : wpAny (model prog w) A (Builtin.«object.__getattribute__» ⟨[.ref a, .str "__class__" tk], []⟩) Q E s := by
  obtain ⟨hh, g, dr, t, os⟩ := s
  obtain ⟨o, ho, hc⟩ := id x
  have L0 : Looks (model prog w) hh (typeOf (.ref a)) (.ref C) := hc ▸ (Looks.ld ho).andThen .now
  have L1 := looks_findIn (M := model prog w) X F.cl
  have hT5 : (⟨hh, g, dr, t, os⟩ : Shared).TypeIs (.builtin "object.__class__") "getset_descriptor" := PySem.F.typeOf_object_class
  have f5 := PySem.F.typeOf_object_class
  have f6 := PySem.F.slot_gs_get.lookup
  have f7 := PySem.F.slot_gs_set.lookup
  repeat (any_goals (first | assumption | with_reducible refine Looks.at L0 ?_ | with_reducible refine Looks.at L1 ?_ | wp_step))
  refine exc_class_get X x F ?_
  exact wpAny_pure h
theorem exc_ga_check {M : Model} {nameV : Value} {Q : Unit → Shared → Prop} (X : K.In s.heap) (x : ExcO a C s.heap) (F : ExcF K C) (hq : Q () s) : wpAny M A (checkBuiltinCall "BaseException.__getattribute__" ⟨[.ref a, nameV], []⟩) Q E s := by
  obtain ⟨hh, g, dr, t, os⟩ := s
  obtain ⟨o, ho, hc⟩ := id x
  have L0 : Looks M hh (typeOf (.ref a)) (.ref C) := hc ▸ (Looks.ld ho).andThen .now
  have L1 := looks_mroIn (M := M) X F.be
  have hk : builtinKind "BaseException.__getattribute__" = some .slot := by decide +kernel
  have hsplit : splitId "BaseException.__getattribute__" = some ("BaseException", "__getattribute__") := by decide +kernel
  have ha := PySem.F.args_bexc_ga (.ref a) nameV
  simp only [checkBuiltinCall, hk, hsplit]
  refine wpAny_bind ?_
  · unfold isInstance
    repeat (first | with_reducible refine Looks.at L0 ?_ | with_reducible refine Looks.at L1 ?_ | wp_step)
    exact hq
theorem exc_class_by {tk : Tok} {fill expr : Bool} {Q : Value → Shared → Prop} (X : K.In s.heap) (x : ExcO a C s.heap) (F : ExcF K C) (hq : Q (.ref C) s) : wpAny (model prog w) A (getAttrBy (.ref a) (.str "__class__" tk) fill expr) Q E s := by
  obtain ⟨hh, g, dr, t, os⟩ := s
  obtain ⟨o, ho, hc⟩ := id x
  have L0 : Looks (model prog w) hh (typeOf (.ref a)) (.ref C) := hc ▸ (Looks.ld ho).andThen .now
  have L1 := looks_findIn (M := model prog w) X F.ga
  have L2 := looks_findIn (M := model prog w) X F.gt
  have f3 := PySem.F.attrBase_ValueError.ga.bind (.ref a)
  have hx0 : (expr && onTheHeap (Value.builtin "BaseException.__getattribute__")) = false := by cases expr <;> rfl
  have hx2 : (Value.builtin "BaseException.__getattribute__" == Value.builtin "object.__getattribute__") = false := by decide +kernel
  have hx1 : (onTheHeap (Value.ref C) && Value.builtin "BaseException.__getattribute__" == Value.builtin "object.__getattribute__") = false := by rw [hx2]; rfl
  repeat (any_goals (first | assumption | with_reducible refine Looks.at L0 ?_ | with_reducible refine Looks.at L1 ?_ | with_reducible refine Looks.at L2 ?_ | wp_step))
  refine codeAny_call_builtin PySem.F.attrBase_ValueError.ga.plain PySem.F.entry_bexc_ga (exc_ga_check X x F (exc_class_entry X x F ?_))
  repeat (any_goals (first | assumption | wp_step))
theorem exc_class {Q : Option Value → Shared → Prop} (X : K.In s.heap) (x : ExcO a C s.heap) (F : ExcF K C) (hq : Q (some (.ref C)) { s with toks := s.toks + 1 }) : wpAny (model prog w) A (getAttr? (.ref a) "__class__") Q E s := by
  obtain ⟨hh, g, dr, t, os⟩ := s
  unfold getAttr? getAttrBy?
  refine wpAny_bind (wpAny_mkText (wpAny_bind (wpAny_attempt (exc_class_by (s := ⟨hh, g, dr, t + 1, os⟩) X x F ?_))))
  exact wpAny_pure hq
theorem kitx_exc (F : ExcF K C) : KitX K (.ref a) (.ref C) (ExcO a C) where
  ty := fun M h _ ⟨o, ho, hc⟩ => hc ▸ (Looks.ld ho).andThen .now
  it := fun _ _ X _ => by
    have hcD := F.ci
    unfold PySem.W.clsIn at hcD
    split at hcD
    · rename_i c' d' cd' sl' ho
      intro A' Q' E' s' k q
      unfold isType loadHead
      exact wpAny_bind (wpAny_loadPart (k _ _ (X _ _ ho)) (wpAny_pure q))
    · cases hcD
  ne := fun h tp dd its n sl X htp => by
    have hcD := F.ci
    refine Bool.eq_false_iff.mpr fun q => ?_
    have e : C = tp := Value.ref.inj (beq_iff_eq.mp q)
    subst e
    unfold PySem.W.clsIn at hcD
    split at hcD
    · rename_i c' d' cd' sl' ho
      have z := (X _ _ ho).symm.trans htp
      cases z
    · cases hcD
  ca := fun X x k => exc_class X x F k
end
section
variable {X : Cx}
noncomputable def rIsiE (K : PySem.W.Frag) : List V → Hp → VK → Prop := fun xs H Q => ∃ a C c cv b, xs = [.ref a, c] ∧ H a = some (excHO a C) ∧ ExcF K C ∧ clsVal c = some cv ∧ PySem.W.kitOne K (.ref C) cv = some b ∧ Q (.bl b) H
theorem call_isinstE : CallR X (.builtin "isinstance") (rIsiE X.K) := by
  intro pins s σ H xs us Q I r h
  obtain ⟨a, C, c, cv, b, rfl, ha, F, hc, hk, q⟩ := h
  obtain ⟨u, w', rfl, r1, r2⟩ := vals2 r
  cases r1
  have e : w' = cv := by
    cases c with
    | ty n => cases hc; exact r2
    | ref C => cases hc; exact r2
    | _ => cases hc
  subst e
  obtain ⟨x, _, _⟩ := (show ObjOk X.prog X.w H s.heap a (excHO a C) from I.hok a _ ha)
  exact PySem.W.kia_one (kitx_exc F) I.kIn x hk (fun z => nomatch z) fun tk => ⟨.bl b, H, I.tok _, rfl, q⟩
end
end L2
set_option Elab.async false
set_option linter.all false
set_option maxRecDepth 100000
set_option maxHeartbeats 0
namespace L2
open PySem PySem.Spec PyProof.Rows
end L2
set_option Elab.async false
set_option linter.all false
set_option maxRecDepth 100000
namespace L2
open PySem PySem.Spec PyProof.Rows
section
variable {κ : Type} [DecidableEq κ]
noncomputable def valV (kvs : List (κ × V)) (k : κ) : Option V := (kvs.find? fun kv => decide (kv.1 = k)).map (·.2)
noncomputable def putK (kvs : List (κ × V)) (k : κ) (v : V) : List (κ × V) :=
  if (kvs.any fun kv => decide (kv.1 = k)) = true then kvs.map (fun kv => if kv.1 = k then (kv.1, v) else kv) else kvs ++ [(k, v)]
theorem valV_pos {p : κ × V} {r : List (κ × V)} {k : κ} (e : p.1 = k) : valV (p :: r) k = some p.2 := by simp [valV, List.find?_cons, e]
theorem valV_neg {p : κ × V} {r : List (κ × V)} {k : κ} (e : ¬ p.1 = k) : valV (p :: r) k = valV r k := by simp [valV, List.find?_cons, e]
theorem valV_any (k : κ) : ∀ kvs : List (κ × V), (kvs.any fun kv => decide (kv.1 = k)) = (valV kvs k).isSome
  | [] => rfl
  | p :: r => by
    rw [List.any_cons]
    by_cases e : p.1 = k
    · simp only [valV_pos e, decide_eq_true e, Bool.true_or, Option.isSome_some]
    · rw [valV_neg e, decide_eq_false e, Bool.false_or]; exact valV_any k r
theorem valV_map (k j : κ) (y : V) : ∀ kvs : List (κ × V), valV (kvs.map fun kv => if kv.1 = k then (kv.1, y) else kv) j = (valV kvs j).map fun x => if j = k then y else x
  | [] => rfl
  | p :: r => by
    have ih := valV_map k j y r
    rw [List.map_cons]
    by_cases h : p.1 = k
    · rw [if_pos h]
      by_cases e : p.1 = j
      · rw [valV_pos (p := (p.1, y)) e, valV_pos e, Option.map_some, if_pos (e.symm.trans h)]
      · rw [valV_neg (p := (p.1, y)) e, valV_neg e, ih]
    · rw [if_neg h]
      by_cases e : p.1 = j
      · rw [valV_pos (p := p) e, valV_pos e, Option.map_some, if_neg (fun z => h (e.trans z))]
      · rw [valV_neg (p := p) e, valV_neg e, ih]
theorem valV_snoc (k j : κ) (y : V) : ∀ kvs : List (κ × V), valV kvs k = none → valV (kvs ++ [(k, y)]) j = if j = k then some y else valV kvs j
  | [], _ => by
    by_cases e : k = j
    · rw [if_pos e.symm]; exact valV_pos (p := (k, y)) e
    · rw [if_neg (fun z => e z.symm)]; exact valV_neg (p := (k, y)) e
  | p :: r, hn => by
    rw [List.cons_append]
    have hk : ¬ p.1 = k := fun z => by rw [valV_pos z] at hn; cases hn
    rw [valV_neg hk] at hn
    have ih := valV_snoc k j y r hn
    by_cases e : p.1 = j
    · rw [valV_pos e, valV_pos e, if_neg (fun z => hk (e.trans z))]
    · rw [valV_neg e, valV_neg e, ih]
theorem valV_put (kvs : List (κ × V)) (k j : κ) (y : V) : valV (putK kvs k y) j = if j = k then some y else valV kvs j := by
  unfold putK
  by_cases a : (kvs.any fun kv => decide (kv.1 = k)) = true
  · rw [if_pos a, valV_map]
    rw [valV_any] at a
    by_cases e : j = k
    · obtain ⟨x, hx⟩ := Option.isSome_iff_exists.mp a
      rw [if_pos e, e, hx, Option.map_some, if_pos rfl]
    · rw [if_neg e]
      cases valV kvs j with
      | none => rfl
      | some x => rw [Option.map_some, if_neg e]
  · rw [if_neg a]
    refine valV_snoc k j y kvs ?_
    rw [valV_any] at a
    cases q : valV kvs k with
    | none => rfl
    | some x => rw [q] at a; exact (a rfl).elim
theorem length_putK (kvs : List (κ × V)) (k : κ) (v : V) : (putK kvs k v).length ≤ kvs.length + 1 := by
  unfold putK
  split
  · rw [List.length_map]; omega
  · rw [List.length_append, List.length_cons, List.length_nil]; omega
theorem RelO.isSome_eq {o : Option V} {u : Option Value} (r : RelO o u) : o.isSome = u.isSome := by
  cases o with
  | none => cases u with
    | none => rfl
    | some _ => exact (show False from r).elim
  | some _ => cases u with
    | none => exact (show False from r).elim
    | some _ => rfl
theorem KV.val {kvs : List (κ × V)} {vs : List (κ × Value)} (r : KV kvs vs) (k : κ) : RelO (valV kvs k) (valueAt vs k) := by
  unfold KV at r
  induction r with
  | nil => exact True.intro
  | @cons p q ps qs h t ih =>
    obtain ⟨h1, h2⟩ := h
    by_cases e : p.1 = k
    · have e' : q.1 = k := h1.symm.trans e
      have b : valueAt (q :: qs) k = some q.2 := by simp [valueAt, List.find?_cons, e']
      rw [valV_pos e, b]; exact h2
    · have e' : ¬ q.1 = k := fun z => e (h1.trans z)
      have b : valueAt (q :: qs) k = valueAt qs k := by simp [valueAt, List.find?_cons, e']
      rw [valV_neg e, b]; exact ih
theorem KV.any {kvs : List (κ × V)} {vs : List (κ × Value)} (r : KV kvs vs) (k : κ) : (kvs.any fun kv => decide (kv.1 = k)) = vs.any fun kv => decide (kv.1 = k) := by
  unfold KV at r
  induction r with
  | nil => rfl
  | cons h t ih => rw [List.any_cons, List.any_cons, ih, h.1]
theorem KV.repl {kvs : List (κ × V)} {vs : List (κ × Value)} (r : KV kvs vs) (k : κ) {y : V} {u : Value} (ry : RelV y u) :
    KV (kvs.map fun kv => if kv.1 = k then (kv.1, y) else kv) (vs.map fun kv => if kv.1 = k then (kv.1, u) else kv) := by
  unfold KV at r ⊢
  induction r with
  | nil => exact .nil
  | @cons p q ps qs h t ih =>
    rw [List.map_cons, List.map_cons]
    refine .cons ?_ ih
    obtain ⟨h1, h2⟩ := h
    by_cases e : p.1 = k
    · rw [if_pos e, if_pos (h1.symm.trans e)]; exact ⟨h1, ry⟩
    · rw [if_neg e, if_neg (fun z => e (h1.trans z))]; exact ⟨h1, h2⟩
theorem KV.put {kvs : List (κ × V)} {vs : List (κ × Value)} (r : KV kvs vs) (k : κ) {y : V} {u : Value} (ry : RelV y u) : KV (putK kvs k y) (stored vs k u) := by
  unfold putK stored
  rw [r.any k]
  by_cases e : (vs.any fun kv => decide (kv.1 = k)) = true
  · rw [if_pos e, if_pos e]; exact r.repl k ry
  · rw [if_neg e, if_neg e]; exact Paired.snoc r ⟨rfl, ry⟩
theorem KV.keys {kvs : List (κ × V)} {vs : List (κ × Value)} (r : KV kvs vs) : kvs.map (·.1) = vs.map (·.1) := by
  unfold KV at r
  induction r with
  | nil => rfl
  | cons h t ih => rw [List.map_cons, List.map_cons, ih, h.1]
theorem KV.length {kvs : List (κ × V)} {vs : List (κ × Value)} (r : KV kvs vs) : kvs.length = vs.length := Paired.length r
end
theorem kV_is {P : Program} {w : World} {k : Key} {u : Value} (r : RelV (kV k) u) : (mixKind P w).is k u = true := by
  cases k with
  | inl i => obtain ⟨t, e⟩ := (show ∃ t, u = Value.int i t from r); subst e; exact mixKind_int P w i t
  | inr x => obtain ⟨t, e⟩ := (show ∃ t, u = Value.str x t from r); subst e; exact mixKind_str P w x t
theorem items_are {P : Program} {w : World} : ∀ {ks : List Key} {us : List Value}, Vals (ks.map kV) us → ItemsAre (mixKind P w) ks us
  | [], _, r => by rw [List.map_nil] at r; cases r; exact .nil
  | k :: ks, _, r => by
    rw [List.map_cons] at r
    cases r with
    | cons h t => exact .cons (kV_is h) (items_are t)
noncomputable abbrev KT (H : Hp) : List (List Key × V) → List (List Key × Addr × Value) → Prop := Paired fun p q => p.1 = q.1 ∧ H q.2.1 = some (.tup (p.1.map kV)) ∧ RelV p.2 q.2.2
theorem KT.val {H : Hp} {kvs : List (List Key × V)} {xs : List (List Key × Addr × Value)} (r : KT H kvs xs) (k : List Key) : RelO (valV kvs k) ((atKey xs k).map (·.2)) := by
  induction r with
  | nil => exact True.intro
  | @cons p q ps qs h t ih =>
    obtain ⟨h1, _, h2⟩ := h
    by_cases e : p.1 = k
    · have e' : q.1 = k := h1.symm.trans e
      have b : atKey (q :: qs) k = some q.2 := by simp [atKey, List.find?_cons, e']
      rw [valV_pos e, b]; exact h2
    · have e' : ¬ q.1 = k := fun z => e (h1.trans z)
      have b : atKey (q :: qs) k = atKey qs k := by simp [atKey, List.find?_cons, e']
      rw [valV_neg e, b]; exact ih
theorem KT.repl {H : Hp} {kvs : List (List Key × V)} {xs : List (List Key × Addr × Value)} (r : KT H kvs xs) (k : List Key) {y : V} {u : Value} (ry : RelV y u) :
    KT H (kvs.map fun kv => if kv.1 = k then (kv.1, y) else kv) (xs.map (putAt k u)) := by
  induction r with
  | nil => exact .nil
  | @cons p q ps qs h t ih =>
    rw [List.map_cons, List.map_cons]
    refine .cons ?_ ih
    obtain ⟨h1, h2, h3⟩ := h
    unfold putAt
    by_cases e : p.1 = k
    · rw [if_pos e, if_pos (h1.symm.trans e)]; exact ⟨h1, h2, ry⟩
    · rw [if_neg e, if_neg (fun z => e (h1.trans z))]; exact ⟨h1, h2, h3⟩
theorem KT.put {H : Hp} {kvs : List (List Key × V)} {xs : List (List Key × Addr × Value)} (r : KT H kvs xs) (k : List Key) {b : Addr} {y : V} {u : Value} (hb : H b = some (.tup (k.map kV))) (ry : RelV y u) :
    KT H (putK kvs k y) (storedH xs k b u) := by
  have e : (kvs.any fun kv => decide (kv.1 = k)) = (atKey xs k).isSome := by
    rw [valV_any, (r.val k).isSome_eq, Option.isSome_map]
  unfold putK storedH
  rw [e]
  by_cases q : (atKey xs k).isSome = true
  · rw [if_pos q, if_pos q]; exact r.repl k ry
  · rw [if_neg q, if_neg q]; exact Paired.snoc r ⟨rfl, hb, ry⟩
theorem KT.keeps {H H' : Hp} {kvs : List (List Key × V)} {xs : List (List Key × Addr × Value)} (r : KT H kvs xs) (ht : ∀ b ys, H b = some (.tup ys) → H' b = some (.tup ys)) : KT H' kvs xs :=
  Paired.mapP r fun _ _ z => ⟨z.1, ht _ _ z.2.1, z.2.2⟩
section
variable {P : Program} {w : World} {H : Hp} {h : Heap} {a : Addr}
theorem rd_of {u : HO} (ok : HOk P w H h) (e : Rd H a u) : ObjOk P w H h a u := e.ok ok
theorem dk_rd {kvs : List (Key × V)} (ok : HOk P w H h) (e : Rd H a (.dK kvs)) : kvs.length ≤ sizeLine ∧ (a == sysModules) = false ∧ ∃ vs, KV kvs vs ∧ h.DictOf (mixKind P w) a vs :=
  show ObjOk P w H h a (.dK kvs) from rd_of ok e
theorem dk_of {kvs : List (Key × V)} (ok : HOk P w H h) (e : H a = some (.dK kvs)) : kvs.length ≤ sizeLine ∧ (a == sysModules) = false ∧ ∃ vs, KV kvs vs ∧ h.DictOf (mixKind P w) a vs := dk_rd ok (.inl e)
theorem key_of {ks : List Key} (ok : HOk P w H h) (e : H a = some (.tup (ks.map kV))) : (tupleKind (mixKind P w)).is h ks a := by
  obtain ⟨_, its, r, o, h1, h2, n, h3⟩ := (show ObjOk P w H h a (.tup (ks.map kV)) from ok a _ e)
  exact ⟨o, its.toArray, n, h1, h2, h3, by simpa using items_are r⟩
theorem dt_rd {kvs : List (List Key × V)} (ok : HOk P w H h) (e : Rd H a (.dT kvs)) : kvs.length ≤ sizeLine ∧ (a == sysModules) = false ∧
    ∃ xs, KT H kvs xs ∧ h.DictOfH (tupleKind (mixKind P w)) a xs := by
  obtain ⟨z, y, xs, r, o, es, ep, h1, h2, h3, h4, h5⟩ := (show ObjOk P w H h a (.dT kvs) from rd_of ok e)
  refine ⟨z, y, xs, r, o, es, ep, h1, h2, h3, h4, fun x hx => ?_, h5⟩
  have all : ∀ {l : List (List Key × V)} {m : List (List Key × Addr × Value)}, KT H l m → ∀ x ∈ m, (tupleKind (mixKind P w)).is h x.1 x.2.1 := by
    intro l m q
    induction q with
    | nil => intro x hx; exact nomatch hx
    | @cons p q ps qs hq t ih =>
      intro x hx
      rcases List.mem_cons.mp hx with e | hx
      · subst e
        exact key_of ok (by rw [← hq.1]; exact hq.2.1)
      · exact ih x hx
  exact all r x hx
theorem dt_of {kvs : List (List Key × V)} (ok : HOk P w H h) (e : H a = some (.dT kvs)) : kvs.length ≤ sizeLine ∧ (a == sysModules) = false ∧
    ∃ xs, KT H kvs xs ∧ h.DictOfH (tupleKind (mixKind P w)) a xs := dt_rd ok (.inl e)
end
noncomputable def DGet (H : Hp) (a : Addr) (y : V) (r : Option V) : Prop :=
  (∃ kvs k, Rd H a (.dK kvs) ∧ y = kV k ∧ r = valV kvs k) ∨ ∃ kvs k b, Rd H a (.dT kvs) ∧ y = .ref b ∧ H b = some (.tup (k.map kV)) ∧ r = valV kvs k
noncomputable def DPut (H : Hp) (a : Addr) (y v : V) (H' : Hp) : Prop :=
  (∃ kvs k, H a = some (.dK kvs) ∧ y = kV k ∧ kvs.length < sizeLine ∧ H' = upd H a (.dK (putK kvs k v))) ∨
  ∃ kvs k b, H a = some (.dT kvs) ∧ y = .ref b ∧ H b = some (.tup (k.map kV)) ∧ kvs.length < sizeLine ∧ H' = upd H a (.dT (putK kvs k v))
theorem DGet.k {H : Hp} {a : Addr} {kvs : List (Key × V)} {k : Key} (e : H a = some (.dK kvs)) : DGet H a (kV k) (valV kvs k) := .inl ⟨kvs, k, .inl e, rfl, rfl⟩
theorem DPut.k {H : Hp} {a : Addr} {kvs : List (Key × V)} {k : Key} {v : V} (e : H a = some (.dK kvs)) (hl : kvs.length < sizeLine) : DPut H a (kV k) v (upd H a (.dK (putK kvs k v))) := .inl ⟨kvs, k, e, rfl, hl, rfl⟩
section
variable {X : Cx} {pins : List (Addr × Obj)} {σ : St} {H : Hp} {s : Shared} {a : Addr} {y v : V} {u r : Value} {o : Option V} {A : Around} {E : Value → Shared → Prop}
theorem Inv.big (I : Inv X pins σ H s) : sysModules < s.heap.objs.size := by
  have h : mainGlobals < s.heap.objs.size := (I.mod.glob.keeps I.bk).lt
  exact Nat.lt_trans (by decide) h
theorem d_in {Q : Value → Shared → Prop} (hu : A.units + 1 < cLine) (I : Inv X pins σ H s) (g : DGet H a y o) (ry : RelV y u) (h : ∀ s', Inv X pins σ H s' → Q (.bool o.isSome) s') :
    wpAny (model X.prog X.w) A (compareOp .In u (.ref a)) Q E s := by
  rcases g with ⟨kvs, k, e, ey, l⟩ | ⟨kvs, k, b, e, ey, eb, l⟩
  · subst ey
    obtain ⟨z, hd, vs, rel, dd⟩ := dk_rd I.hok e
    refine wpAny_in_of (kV_is ry) hd dd.mapOf ?_
    rw [← (rel.val k).isSome_eq, ← l]
    exact h _ (I.tok _)
  · subst ey
    cases (show u = Value.ref b from ry)
    obtain ⟨z, hd, xs, rel, dd⟩ := dt_rd I.hok e
    refine wpAny_in_heap (tupleKind_room_in1 hu) (key_of I.hok eb) hd dd ?_
    have q := (rel.val k).isSome_eq
    rw [Option.isSome_map] at q
    rw [← q, ← l]
    exact h _ (I.tok _)
theorem d_write {h' : Heap} {t' : Nat} {ob : HO} (I : Inv X pins σ H s) (mu : Mut (H a)) (hs : Heap.SameBut a s.heap h') (he : ∃ q, h'.get? a = some q) (new : ObjOk X.prog X.w (upd H a ob) h' a ob) :
    Inv X pins σ (upd H a ob) { s with heap := h', toks := t' } :=
  I.write (x := a) (e := a) mu (.inl rfl) (fun b q hb z => (hs.2 b hb).trans z) he new
theorem dk_new {P : Program} {w : World} {H' : Hp} {h' : Heap} {kvs : List (Key × V)} {vs : List (Key × Value)} (z : kvs.length ≤ sizeLine) (hd : (a == sysModules) = false) (rel : KV kvs vs) (dd : h'.DictOf (mixKind P w) a vs) :
    ObjOk P w H' h' a (.dK kvs) := ⟨z, hd, vs, rel, dd⟩
theorem d_setItem {H' : Hp} {Q : Unit → Shared → Prop} (hu : A.units + 1 < cLine) (I : Inv X pins σ H s) (g : DPut H a y v H') (ry : RelV y u) (rv : RelV v r) (h : ∀ s', Inv X pins σ H' s' → Q () s') :
    wpAny (model X.prog X.w) A (setItem (.ref a) u r) Q E s := by
  rcases g with ⟨kvs, k, e, ey, l, eH⟩ | ⟨kvs, k, b, e, ey, eb, l, eH⟩
  · subst ey eH
    obtain ⟨z, hd, vs, rel, dd⟩ := dk_of I.hok e
    have hz : vs.length ≤ sizeLine := by rw [← rel.length]; exact z
    have hl : (putK kvs k v).length ≤ sizeLine := by have := length_putK kvs k v; omega
    refine wpAny_setItem_pairs (hsz := hz) (kV_is ry) dd fun h' dd' hs => h _ ?_
    have he : ∃ q, h'.get? a = some q := let ⟨q, _, _, hq, _⟩ := dd'; ⟨q, hq⟩
    exact d_write I (by rw [e]; exact True.intro) hs he (dk_new hl hd (rel.put k rv) dd')
  · subst ey eH
    cases (show u = Value.ref b from ry)
    obtain ⟨z, hd, xs, rel, dd⟩ := dt_of I.hok e
    have hz : xs.length ≤ sizeLine := by rw [← Paired.length rel]; exact z
    have hl : (putK kvs k v).length ≤ sizeLine := by have := length_putK kvs k v; omega
    refine wpAny_setItem_heap (hsz := hz) (tupleKind_room_in1 hu) (key_of I.hok eb) dd fun h' dd' hs => h _ ?_
    obtain ⟨q, es, ep, hq, h2, h3, h4, _, h5⟩ := dd'
    refine d_write I (by rw [e]; exact True.intro) hs ⟨q, hq⟩ ⟨hl, hd, _, (rel.put k eb rv).keeps fun c ys ec => ?_, q, es, ep, hq, h2, h3, h4, h5⟩
    rw [upd_ne (ne_of ec e (fun z => nomatch z))]
    exact ec
end
noncomputable def sDPut (td ty tv : TE) : TS := fun D σ H => tv σ H fun v H1 => td σ H1 fun x H2 => ty σ H2 fun y H3 => ∃ a H4, x = .ref a ∧ DPut H3 a y v H4 ∧ D.nx σ H4
section
variable {X : Cx} {o i e value : Expr} {pos pos' tpos : Pos} {td ty tv : TE}
theorem ps_dput (hu : X.A.units + 1 < cLine) (ho : PE X o td) (hi : PE X i ty) (hv : PE X value tv) (hs : swapsWith value (some (.Subscript o i pos')) pos.line X.env = pure false) :
    PS X (.Assign [.Subscript o i pos'] value pos) (sDPut td ty tv) := by
  intro pins s σ H D I h
  refine wpAny_Assign_Subscript (thn (hv pins s σ H _ I h) fun r s1 ⟨v, H1, I1, rv, q1⟩ => thn (ho pins s1 σ H1 _ I1 q1) fun u s2 ⟨x, H2, I2, rx, q2⟩ => thn (hi pins s2 σ H2 _ I2 q2) fun iv s3 ⟨y, H3, I3, ry, a, H4, ex, g, q3⟩ => ?_) hs
  subst ex
  obtain rfl : u = Value.ref a := rx
  exact d_setItem hu I3 g ry rv fun s4 I4 => ⟨σ, H4, I4, q3⟩
end
theorem dk_empty {P : Program} {w : World} {H : Hp} (h : Heap) (hb : sysModules < h.objs.size) : ObjOk P w H (h.push { cls := .type "dict", data := .dict #[] }) h.objs.size (.dK []) :=
  ⟨Nat.zero_le _, beq_eq_false_iff_ne.mpr (Ne.symm (Nat.ne_of_lt hb)), [], .nil, Heap.DictOf.new h⟩
noncomputable def tDNewK : TE := fun _ H Q => ∀ p, H p = none → Q (.ref p) (upd H p (.dK []))
section
variable {X : Cx} {pos : Pos}
theorem pe_dnewK : PE X (.Dict [] [] pos) tDNewK := fun pins s σ H Q I h =>
  wpAny_Dict_empty ⟨.ref s.heap.objs.size, _, I.laid (a := s.heap.objs.size) (o := .dK []) (t' := s.toks) (fun _ _ q => Heap.get?_push_of_some _ q) (Nat.le_refl _) (dk_empty s.heap I.big), rfl, h _ (I.hok.fresh (Nat.le_refl _))⟩
end
end L2
set_option Elab.async false
set_option linter.all false
set_option maxRecDepth 100000
set_option maxHeartbeats 1000000
namespace Hd
open PySem PySem.Spec PyProof.Rows
end Hd
set_option Elab.async false
set_option linter.all false
set_option maxRecDepth 100000
set_option maxHeartbeats 0
namespace L2
open PySem PySem.Spec PyProof.Rows
end L2
set_option Elab.async false
set_option linter.all false
set_option maxRecDepth 100000
set_option maxHeartbeats 0
namespace L2
open PySem PySem.Spec PyProof.Rows
noncomputable def Ite (K : PySem.W.Frag) (a : Addr) : It :=
  ⟨fun i H => ∃ xs x, SqL K H a xs ∧ xs[i]? = some x, fun i H v H' => ∃ p, v = .ref p ∧ H p = none ∧ ∃ x, (∀ xs, SqL K H a xs → xs[i]? = some x) ∧ H' = upd H p (.tup [.int i, x]), fun i H => ∃ xs, SqL K H a xs ∧ xs.length ≤ i⟩
theorem turn_enum {P : Program} {w : World} {K : PySem.W.Frag} {elts : List Expr} {x1} {pos : Pos} (a e it : Addr) (hne : e ≠ it) : Turn P w K (.Tuple elts x1 pos) (Ite K a) [e, it] e (fun i h => ∃ old, IsEnum h e it (i : Nat) old ∧ h.IsListIter it a i) where
  mem := by simp
  obj := fun i h st b hb => by
    obtain ⟨old, h1, o, h2, c, d⟩ := st
    rcases List.mem_cons.mp hb with z | z
    · subst z
      exact ⟨_, h1, fun v z => by have z' : Data.fields _ = Data.cell v := z; cases z'⟩
    · have z' : b = it := by simpa using z
      subst z'
      exact ⟨o, h2, fun v z => by rw [d] at z; cases z⟩
  keep := fun i h h' ⟨old, h1, h2⟩ k => ⟨old, k e (by simp) _ h1, h2.at fun o z => k it (by simp) o z⟩
  item := by
    intro X hP hw hK hc i pins s σ H E I hf st hg
    subst hP hw hK
    obtain ⟨old, he, hit⟩ := st
    obtain ⟨xs, x, hq, hx⟩ := hg
    obtain ⟨its, rv, p, hz⟩ := I.list hq
    obtain ⟨u, hu, ru⟩ := rv.get hx
    obtain ⟨f0, f1, f2, f3, f4, f5⟩ := hf e (by simp)
    obtain ⟨g0, g1, g2, g3, g4, g5⟩ := hf it (by simp)
    have hel : e < s.heap.objs.size := Heap.lt_size he
    have hil : it < s.heap.objs.size := by obtain ⟨o, z, _⟩ := id hit; exact Heap.lt_size z
    refine wpAny_pyNext_enum_item he hit p.isList (x := u) (by simpa using hu) hne fun h1 heo hit1 ht hz1 hk1 => ⟨_, rfl, ?_⟩
    refine wpAny_letOwnedTupleGo_enum heo fun h2 he2 hs2 => ?_
    replace hs2 : Heap.SameBut e h1 h2 := hs2
    have fresh : H s.heap.objs.size = none := I.hok.fresh (Nat.le_refl _)
    have I1 : Inv X pins σ H { s with heap := s.heap, toks := s.toks + 1 } := I.tok _
    -- the two turn, then a tuple is laid
    have key : Inv X pins σ (upd H s.heap.objs.size (.tup [.int i, x])) { s with heap := h2, toks := s.toks + 1 } := by
      have I2 := I.laid (a := s.heap.objs.size) (o := .tup [.int i, x]) (t' := s.toks + 1) (h' := s.heap.push { cls := .type "tuple", data := .seq #[.int i s.toks, u] }) (fun _ _ z => Heap.get?_push_of_some _ z) (Nat.le_refl _)
        ⟨by rw [sizeLine_eq]; show 2 ≤ _; omega, [.int i s.toks, u], .cons ⟨_, rfl⟩ (.cons ru .nil), _, Heap.get?_push_size _ rfl, rfl, _, rfl⟩
      have hit2 : h2.IsListIter it a (i + 1) := hit1.extBut hs2.extBut (Ne.symm hne)
      obtain ⟨oi, hoi, ci, di⟩ := id hit2
      obtain ⟨oi0, hoi0, ci0, di0⟩ := id hit
      have hoi1 : (s.heap.push { cls := .type "tuple", data := .seq #[.int i s.toks, u] }).get? it = some oi0 := Heap.get?_push_of_some _ hoi0
      have hfz : oi.isFreed = false := Obj.isFreed_of_fields di
      have u1 := Heap.get?_update_self (fun _ => oi) hoi1 hfz
      have I3 := I2.turned (it := it) (t' := s.toks + 1) (h' := (s.heap.push { cls := .type "tuple", data := .seq #[.int i s.toks, u] }).update it (fun _ => oi)) (fun b o hb z => (Heap.get?_update_other _ _ (Ne.symm hb)).trans z) (by rw [upd_ne (Nat.ne_of_lt hil)]; exact g0) g1 g3 g4 g5
      have st2 : ∀ b o, b ≠ e → ((s.heap.push { cls := .type "tuple", data := .seq #[.int i s.toks, u] }).update it (fun _ => oi)).get? b = some o → h2.get? b = some o := by
        intro b o hb z
        by_cases hbi : b = it
        · subst hbi
          rw [u1] at z
          cases z
          exact hoi
        · rw [Heap.get?_update_other _ (fun _ => oi) (Ne.symm hbi)] at z
          rcases Heap.get?_push_cases z with ⟨rfl, rfl⟩ | z2
          · exact (hs2.2 _ (Nat.ne_of_gt hel)).trans ht
          · exact (hs2.2 b hb).trans (hk1 b o hb hbi z2)
      have I4 := I3.turned (it := e) (t' := s.toks + 1) (h' := h2) st2 (by rw [upd_ne (Nat.ne_of_lt hel)]; exact f0) f1 f3 f4 f5
      exact I4
    refine ⟨.ref s.heap.objs.size, _, key, rfl, ⟨_, rfl, fresh, x, fun ys hy => by rw [I.list_inj hy hq]; exact hx, rfl⟩, ⟨u, ?_, hit1.extBut hs2.extBut (Ne.symm hne)⟩, fun b hb => ?_⟩
    · have : ((i + 1 : Nat) : Int) = (i : Int) + 1 := by push_cast; rfl
      rw [this]; exact he2
    · rcases List.mem_cons.mp hb with z | z
      · subst z
        rw [upd_ne (Nat.ne_of_lt hel)]; exact f0
      · have z' : b = it := by simpa using z
        subst z'
        rw [upd_ne (Nat.ne_of_lt hil)]; exact g0
  done := by
    intro X hP hw hK hc i pins s σ H E I hf st hg
    subst hP hw hK
    obtain ⟨old, he, hit⟩ := st
    obtain ⟨xs, hq, hx⟩ := hg
    obtain ⟨its, rv, p, hz⟩ := I.list hq
    obtain ⟨g0, g1, g2, g3, g4, g5⟩ := hf it (by simp)
    have hl := rv.length
    exact wpAny_pyNext_enum_end (I.ok.hd hc) he hit p.isList (by simp; omega) fun h' eb => ⟨rfl, I.turned (t' := s.toks) (fun b o hb e => eb b o hb e) g0 g1 g3 g4 g5⟩
  self := fun _ _ _ _ _ ⟨_, st, _⟩ h => wpAny_pyIter_enum st h
section
variable {X : Cx}
noncomputable def iEnum (K : PySem.W.Frag) (ta : TA) : TI := fun σ H R => ta σ H fun vs H1 => ∃ a, vs = [.ref a] ∧ (∃ xs, SqL K H1 a xs) ∧ R (Ite K a) H1
theorem pi_enum {a : Expr} {elts : List Expr} {x1} {tp : Pos} {ta : TA} {p pos : Pos} (hg : Gl X "enumerate") (hm : X.mg "enumerate" = none) (ha : PA X [a] ta) (hb : bootBuiltins "enumerate" = some (.type "enumerate") := by rfl) (hs : starEach [a] X.env = [(false, eval a X.env)] := by rfl) : PI X (.Tuple elts x1 tp) (.Call (.Name "enumerate" p) [a] [] pos) (iEnum X.K ta) := by
  intro pins s σ H R I h
  refine Call_ (ld_blt I hg hm hb (PyProof.Rows.callWith_type1 (thn (ha pos pins s σ H _ I h) fun us s1 ⟨vs, H1, I1, r1, q1⟩ => ?_) hs rfl))
  obtain ⟨a, e, ⟨xs, hq⟩, q⟩ := q1
  subst e
  obtain ⟨u, rfl, ru⟩ := r1.one
  cases ru
  obtain ⟨its, rv, p, hz⟩ := I1.list hq
  refine call_enumerate_list p.isList fun h' he hit hsz hk => ?_
  refine wpAny_pyIter_enum he ?_
  have I2 : Inv X pins σ H1 { s1 with heap := h' } := I1.kept (t' := s1.toks) hk
  refine ⟨s1.heap.objs.size + 1, [s1.heap.objs.size + 1, s1.heap.objs.size], _, _, H1, rfl, I2, turn_enum a _ _ (Nat.succ_ne_self _), ⟨.none, he, hit⟩, fun b hb => ?_, q⟩
  rcases List.mem_cons.mp hb with e | e
  · subst e
    exact I1.fpOk (Nat.le_succ _) (I1.hok.fresh (Nat.le_succ _))
  · have e' : b = s1.heap.objs.size := by simpa using e
    subst e'
    exact I1.fpOk (Nat.le_refl _) (I1.hok.fresh (Nat.le_refl _))
theorem loop_enum {K : PySem.W.Frag} {a : Addr} {xs : List V} {g : TG} {tb : TS} {D : Ends} {σ : St} {H : Hp} (Pv : Nat → St → Hp → Prop) (h0 : Pv 0 σ H) (hl : ∀ i σ H, i ≤ xs.length → Pv i σ H → SqL K H a xs)
    (hs : ∀ i x σ H p, xs[i]? = some x → Pv i σ H → H p = none → g (.ref p) σ (upd H p (.tup [.int i, x])) fun σ2 H2 => tb { D with nx := Pv (i + 1), ct := Pv (i + 1), bk := D.nx } σ2 H2) (hd : ∀ σ H, Pv xs.length σ H → D.nx σ H) : tLoop g tb D σ (Ite K a) H := by
  refine ⟨fun i m σ H => m = xs.length - i ∧ i ≤ xs.length ∧ Pv i σ H, ⟨_, rfl, Nat.zero_le _, h0⟩, ?_⟩
  rintro i m σ H ⟨rfl, hi, hp⟩
  have d3 := hl i σ H hi hp
  by_cases hlt : i < xs.length
  · refine .inr ⟨⟨xs, xs[i], d3, by simp [hlt]⟩, Pv (i + 1), fun σ' H' hp' => ⟨xs.length - (i + 1), by omega, rfl, hlt, hp'⟩, fun v H2 y => ?_⟩
    obtain ⟨p, rfl, hpn, x, hx, rfl⟩ := y
    exact hs i x σ H p (hx xs d3) hp hpn
  · have e : i = xs.length := by omega
    subst e
    exact .inl ⟨⟨xs, d3, Nat.le_refl _⟩, hd σ H hp⟩
theorem wp_enum {K : PySem.W.Frag} {σ : St} {H : Hp} {t : TA} {R : It → Hp → Prop} (h : t σ H fun vs H1 => ∃ a, vs = [.ref a] ∧ (∃ xs, SqL K H1 a xs) ∧ R (Ite K a) H1) : iEnum K t σ H R := h
noncomputable def EN : XK := fun _ _ _ => False
theorem passN : Passes (CXE X.prog X.w) X EN := by
  intro pins σ H1 s1 e s' I h
  obtain ⟨a, C, T, a0, H', _, _, _, _, _, _, _, _, _, _, q⟩ := h
  exact q.elim
end
end L2
set_option Elab.async false
set_option linter.all false
set_option maxRecDepth 100000
set_option maxHeartbeats 0
namespace L2
open PySem PySem.Spec PyProof.Rows
end L2
set_option Elab.async false
set_option linter.all false
set_option maxRecDepth 100000
set_option maxHeartbeats 0
namespace L2
open PySem PySem.Spec PyProof.Rows
section
variable {σ : St} {H H' : Hp} {Q : VK} {R : Hp → Prop} {D : Ends} {c : Cl} {v x y : V} {k o n : Int} {p : List Str} {m : Str} {ta tb tc : TE}
theorem same_new {a : Addr} {ob : HO} (h : Same H H') (ha : H a = none) : Same H (upd H' a ob) := fun b u q => by
  rw [upd_ne (ne_of_none q ha)]; exact h b u q
end
noncomputable def Fr (M : List Addr) (H H' : Hp) : Prop := ∀ b o, b ∉ M → H b = some o → H' b = some o
section
variable {M : List Addr} {H H' H'' : Hp} {v : V} {c : Cl} {d : DD} {k : Int} {p : List Str}
theorem Same.fr (h : Same H H') : Fr M H H' := fun b o _ e => h b o e
theorem Fr.refl : Fr M H H := fun _ _ _ e => e
theorem Fr.trans (a : Fr M H H') (b : Fr M H' H'') : Fr M H H'' := fun x o hx e => b x o hx (a x o hx e)
theorem Fr.upd {l : Addr} {o : HO} (h : l ∈ M) : Fr M H (upd H l o) := fun b u hb e => by rw [upd_ne (fun z => hb (by rw [z]; exact h))]; exact e
end
section
variable {σ : St} {H H' : Hp} {Q : VK} {D : Ends} {c : Cl} {v x y : V} {k o n j : Int} {K : PySem.W.Frag} {C : Addr} {ta tb : TE}
noncomputable def optV : Option Nat → V
  | none => .non
  | some n => .int n
theorem wp_isiE {a : Addr} {t cv : Value} {b : Bool} {cc : V} (ha : H a = some (excHO a C)) (hf : ExcF K C) (hc : clsVal cc = some cv) (hk : PySem.W.kitOne K (.ref C) cv = some b) (h : Q (.bl b) H) : rIsiE K [.ref a, cc] H Q := ⟨a, C, cc, cv, b, rfl, ha, hf, hc, hk, h⟩
theorem wp_raise {E : XK} {t : TA} (h : t σ H fun xs H1 => xs.length ≤ sizeLine ∧ E (.ref C) none H1) : tRaise E C t D σ H := h
end
end L2
namespace L2
open PySem PySem.Spec PyProof.Rows
end L2
namespace L2
open PySem PySem.Spec PyProof.Rows
section
variable {σ : St} {H H' : Hp} {D : Ends} {K : PySem.W.Frag} {x a : Addr}
theorem wp_try' {CB : Addr} {i : Nat} {z : St} {tb : XK → TS} {ts : TS} (h : ∀ HE : XK, HE = handE K CB i z ts D → tb HE D σ H) : tTry K CB i z tb ts D σ H := h _ rfl
theorem none_same (s : Same H H') (h : H' a = none) : H a = none := by
  cases q : H a with
  | none => rfl
  | some o => have := s _ _ q; rw [h] at this; cases this
theorem wp_lstF {xs : List V} {Q : VK} (hz : xs.length ≤ 1000) (h : ∀ a H', Same H H' → H' a = some (.lst xs) → H a = none → Q (.ref a) H') : lstK xs H Q := ⟨Nat.le_of_lt (small1000 hz), fun p hp => h p _ (Same.upd hp) upd_same hp⟩
end
theorem len1 {α : Type} {P : List α → Prop} (h : ∀ a, P [a]) : ∀ us, us.length = 1 → P us
  | [a], _ => h a
theorem len2 {α : Type} {P : List α → Prop} (h : ∀ a b, P [a, b]) : ∀ us, us.length = 2 → P us
  | [a, b], _ => h a b
theorem len3 {α : Type} {P : List α → Prop} (h : ∀ a b c, P [a, b, c]) : ∀ us, us.length = 3 → P us
  | [a, b, c], _ => h a b c
theorem len4 {α : Type} {P : List α → Prop} (h : ∀ a b c d, P [a, b, c, d]) : ∀ us, us.length = 4 → P us
  | [a, b, c, d], _ => h a b c d
end L2
set_option Elab.async false
set_option linter.all false
set_option maxRecDepth 100000
set_option maxHeartbeats 0
namespace L2
open PySem PySem.Spec PyProof.Rows
theorem EqV.lstT {X : Cx} {k : Nat} {H : Hp} {a b : Addr} {xs ys : List V} (ha : H a = some (.lst xs)) (hb : H b = some (.lst ys)) (hl : xs.length = ys.length) (he : ∀ (j : Nat) x y, xs[j]? = some x → ys[j]? = some y → EqV X k H x y true) : EqV X (k + 1) H (.ref a) (.ref b) true := by
  intro A pins σ s u v I hu rx ry
  cases rx
  cases ry
  by_cases hab : a = b
  · subst hab
    exact SeqAt.EqAt.same _
  · obtain ⟨us, r1, p1, _⟩ := I.list (.inl (.inl ha))
    obtain ⟨vs, r2, p2, _⟩ := I.list (.inl (.inl hb))
    have l1 := r1.length
    have l2 := r2.length
    refine SeqAt.EqAt.of_refs hab ?_
    have z := SeqAt.RcAt.lists (e := fun _ => true) (A := A) (s := s) p1.isList p2.isList (by simp; omega) (by omega) (items_eq I (by rw [in1_units]; omega) he r1 r2)
    have e : ∀ n : Nat, ((List.range n).all fun _ => true) = true := fun n => List.all_eq_true.mpr fun _ _ => rfl
    rw [e] at z
    exact z
theorem EqV.flatT {X : Cx} {k : Nat} {H : Hp} {x : V} (fx : flatV x = true) (e : eqV x x = true) : EqV X k H x x true := by
  have z := EqV.flat (X := X) (k := k) (H := H) fx fx
  rw [e] at z; exact z
theorem sq_frN {K : PySem.W.Frag} {H0 H H' : Hp} {a : Addr} {M : List Addr} {xs : List V} (h : SqL K H0 a xs) (hM : ∀ m ∈ M, H0 m = none) (s : Same H0 H) (f : Fr M H H') : SqL K H' a xs := by
  have ne : ∀ o, H0 a = some o → a ∉ M := fun o e z => by rw [hM a z] at e; cases e
  rcases h with (h | ⟨o, h⟩) | h
  · exact .inl (.inl (f _ _ (ne _ h) (s _ _ h)))
  · exact .inl (.inr ⟨o, f _ _ (ne _ h) (s _ _ h)⟩)
  · exact .inr h
structure TreeP (ps : List (Option Nat)) (ls : List Int) (n : Nat) : Prop where
  lp : ps.length = n
  ll : ls.length = n
  p0 : ps[0]? = some none
  pj : ∀ j : Nat, 0 < j → j < n → ∃ m : Nat, ps[j]? = some (some m) ∧ m < j
theorem TreeP.snoc {ps : List (Option Nat)} {ls : List Int} {n m : Nat} {z : Int} (T : TreeP ps ls n) (hn : 0 < n) (hm : m < n) : TreeP (ps ++ [some m]) (ls ++ [z]) (n + 1) where
  lp := by rw [List.length_append, T.lp]; rfl
  ll := by rw [List.length_append, T.ll]; rfl
  p0 := by rw [List.getElem?_append_left (by rw [T.lp]; exact hn)]; exact T.p0
  pj := fun j h0 hj => by
    by_cases h : j < n
    · obtain ⟨q, e, l⟩ := T.pj j h0 h
      exact ⟨q, by rw [List.getElem?_append_left (by rw [T.lp]; exact h)]; exact e, l⟩
    · have e : j = ps.length := by rw [T.lp]; omega
      exact ⟨m, by rw [e, List.getElem?_append_right (Nat.le_refl _), Nat.sub_self]; rfl, by omega⟩
structure IsDist (F : Nat → Nat → Int) (ps : List (Option Nat)) (ls : List Int) (n : Nat) : Prop where
  zero : ∀ i, i < n → F i i = 0
  step : ∀ i j m z, j < i → i < n → ps[i]? = some (some m) → ls[i]? = some z → F i j = F m j + z ∧ F j i = F m j + z
noncomputable def rowV (F : Nat → Nat → Int) (n i : Nat) : List V := (List.range n).map fun j => V.int (F i j)
theorem rowV_len (F : Nat → Nat → Int) (n i : Nat) : (rowV F n i).length = n := by unfold rowV; rw [List.length_map, List.length_range]
theorem rowV_at {F : Nat → Nat → Int} {n i j : Nat} (h : j < n) : atI (rowV F n i) (j : Int) = some (.int (F i j)) := atI_nat (by unfold rowV; rw [List.getElem?_map, List.getElem?_range h]; rfl)
end L2
set_option Elab.async false
set_option linter.all false
set_option maxRecDepth 100000
set_option maxHeartbeats 0
namespace L2
open PySem PySem.Spec PyProof.Rows
theorem compScopeC {X : Cx} {scope : Scope} {cl : List (Str × Addr)} {x : Str} {caps : List (Str × Nat)} (kind : scope.kind = .function) (clos : closureFor scope X.env = pure cl) (ncell : ∀ y ∈ scope.names, y.2 ≠ .cell)
    (names : ∀ y ∈ scope.names, y.2 = .local → scope.names.lookup y.1 = some .local) (xl : scope.names.lookup x = some .local) (sub : ∀ y c, cl.lookup y = some c → X.env.cells.lookup y = some c) (hn : ((relabel scope X.env).names.all fun p => !(p.2 == .cell || p.2 == .free) || (cl.map (·.1)).contains p.1) = true)
    (cap : ∀ (k : Nat) y j, caps[k]? = some (y, j) → X.N[j]? = some y ∧ Vis X.env.scope y ∧ (X.env.kindOf y = some .cell ∨ X.env.kindOf y = some .free) ∧ ((relabel scope X.env).names.lookup y = some .cell ∨ (relabel scope X.env).names.lookup y = some .free))
    (nd : (x :: caps.map (·.1)).Nodup) : CompScope X scope cl x caps where
  kind := kind
  clos := clos
  ncell := ncell
  names := names
  xloc := xl
  sub := sub
  has := fun y hy => by
    have hm : y ∈ cl.map (·.1) := by
      have all := List.all_eq_true.mp hn
      rcases hy with hy | hy
      · have z := all _ (PySem.mem_of_lookup hy)
        simpa using z
      · have z := all _ (PySem.mem_of_lookup hy)
        simpa using z
    clear clos sub hn cap nd hy
    induction cl with
    | nil => exact nomatch hm
    | cons p r ih =>
      by_cases h : y = p.1
      · subst h
        exact ⟨p.2, by rw [List.lookup_cons, beq_self_eq_true]⟩
      · have hm' : y ∈ r.map (·.1) := by
          rcases List.mem_cons.mp hm with z | z
          · exact absurd z h
          · exact z
        obtain ⟨c, hc⟩ := ih hm'
        exact ⟨c, by rw [List.lookup_cons, beq_eq_false_iff_ne.mpr h]; exact hc⟩
  cap := cap
  nd := nd
end L2
set_option Elab.async false
set_option linter.all false
set_option maxRecDepth 100000
set_option maxHeartbeats 0
namespace L2
open PySem PySem.Spec PyProof.Rows
noncomputable def rSumL (K : PySem.W.Frag) : List V → Hp → VK → Prop := fun xs H Q => ∃ (p : Addr) (ns : List Int), xs = [.ref p] ∧ SqL K H p (ns.map V.int) ∧ Q (.int ns.sum) H
theorem preSum_list (ns : List Int) : ∀ k, k ≤ ns.length → preSum (fun i => ns.getD i 0) k = (ns.take k).sum
  | 0, _ => by simp [preSum]
  | k + 1, h => by
    show preSum _ k + ns.getD k 0 = _
    rw [preSum_list ns k (by omega), List.take_add_one, List.sum_append]
    rw [List.getD_eq_getElem?_getD]
    cases e : ns[k]? with
    | none => rw [List.getElem?_eq_none_iff] at e; omega
    | some z => simp
theorem vals_int {ns : List Int} {us : List Value} (r : Vals (ns.map V.int) us) {i : Nat} {v : Value} (h : us[i]? = some v) : ∃ t, v = .int (ns.getD i 0) t := by
  have hl := r.length
  have hi : i < us.length := (List.getElem?_eq_some_iff.mp h).1
  rw [List.length_map] at hl
  have hx : (ns.map V.int)[i]? = some (.int (ns.getD i 0)) := by
    rw [List.getElem?_map, List.getElem?_eq_getElem (show i < ns.length by omega), List.getD_eq_getElem?_getD, List.getElem?_eq_getElem (show i < ns.length by omega)]
    rfl
  obtain ⟨u, hu, ru⟩ := r.get hx
  rw [h] at hu
  cases hu
  exact ru
theorem call_sumL {X : Cx} (hc : X.calm = true) : CallR X (.builtin "sum") (rSumL X.K) := by
  intro pins s σ H xs us Q I r h
  obtain ⟨p, ns, rfl, hq, q⟩ := h
  obtain ⟨u, rfl, rx⟩ := vals1 r
  cases rx
  obtain ⟨its, r', pl, hz⟩ := I.list hq
  have hlen := r'.length
  rw [List.length_map] at hlen
  have hlt : p < s.heap.objs.size := by obtain ⟨_, e, _⟩ := pl.isList; exact Heap.lt_size e
  refine call_sum_walkG (wpAny_pyIter_list pl.isList ?_)
  refine ⟨_, _, _, _, _, _, fun i => ns.getD i 0, rfl, Walks.list (A := X.A.in1) (I.ok.hd hc) _ p (Nat.ne_of_lt hlt) its.toArray, ⟨⟨_, Heap.get?_push_size _ rfl, rfl, rfl⟩, pl.isList.push _⟩, fun b hb => ?_, fun i v hv => ?_, fun h' tk t' hk => ?_⟩
  · show b < (s.heap.push _).objs.size
    rw [Heap.size_push]
    rcases List.mem_cons.mp hb with rfl | hb
    · exact Nat.lt_succ_self _
    · rcases List.mem_cons.mp hb with rfl | hb
      · exact Nat.lt_succ_of_lt hlt
      · cases hb
  · exact vals_int r' (by simpa using hv)
  · refine ⟨.int ns.sum, H, I.kept (fun b o e => hk b o (fun z => ?_) (Heap.get?_push_of_some _ e)), ?_, q⟩
    · have z' : b = s.heap.objs.size := by simpa using z
      subst z'
      exact absurd (Heap.lt_size e) (Nat.lt_irrefl _)
    · rw [List.size_toArray, ← hlen, preSum_list ns _ (Nat.le_refl _), List.take_length]
      exact ⟨_, rfl⟩
theorem wp_sumL {K : PySem.W.Frag} {H : Hp} {Q : VK} {p : Addr} {ns : List Int} (hq : SqL K H p (ns.map V.int)) (q : Q (.int ns.sum) H) : rSumL K [.ref p] H Q := ⟨p, ns, rfl, hq, q⟩
end L2
set_option Elab.async false
set_option linter.all false
set_option maxRecDepth 100000
set_option maxHeartbeats 0
namespace L2
open PySem PySem.Spec PyProof.Rows
theorem Inv.turnedL {X : Cx} {pins : List (Addr × Obj)} {σ : St} {H : Hp} {s : Shared} {h' : Heap} {t' : Nat} {L : List Addr} (I : Inv X pins σ H s) (k : ∀ b o, b ∉ L → s.heap.get? b = some o → h'.get? b = some o)
    (hL : ∀ b ∈ L, H b = none ∧ b ≠ X.env.locals ∧ (b ∈ X.ex ∨ X.s₀.heap.objs.size ≤ b) ∧ (∀ x c, X.env.cells.lookup x = some c → c ≠ b) ∧ ∀ p ∈ X.pn ++ pins, p.1 ≠ b) : Inv X pins σ H { s with heap := h', toks := t' } := by
  have nit : ∀ b u, H b = some u → b ∉ L := fun b u e z => by rw [(hL b z).1] at e; cases e
  refine I.step (g' := s.gens) (d' := s.drawn) (ch := L) (fun b hb => ?_) (fun b o _ _ hc e _ => k b o hc e) (fun b o _ _ hc e _ => ⟨o.slots, k b o hc e⟩) (fun _ _ _ _ n => n)
    (fun b o hc e => ⟨o, k b o hc e⟩) (fun _ _ e => e) (fun _ _ _ e => e) (fun b ps e => ⟨#[], by rw [e]; simp⟩) (fun m hm => ?_) (fun b u e => ?_) I.bare
  · obtain ⟨_, a2, a3, a4, a5⟩ := hL b hb
    exact ⟨a3, a2, a4, a5⟩
  · obtain ⟨o, es, ep, ho, r⟩ := hm
    exact ⟨o, es, ep, k _ o (fun z => (hL _ z).2.1 rfl) ho, r⟩
  · refine (I.hok b u e).stay (fun c v hc q => k c v ?_ q) (fun _ q => q) fun _ _ q => q
    rcases hc with z | z
    · rw [z]; exact nit b u e
    · exact nit c _ z
noncomputable def Itz (K : PySem.W.Frag) (a b : Addr) : It :=
  ⟨fun i H => ∃ xs ys x y, SqL K H a xs ∧ SqL K H b ys ∧ xs[i]? = some x ∧ ys[i]? = some y, fun i H v H' => ∃ p, v = .ref p ∧ H p = none ∧ ∃ x y, (∀ xs, SqL K H a xs → xs[i]? = some x) ∧ (∀ ys, SqL K H b ys → ys[i]? = some y) ∧ H' = upd H p (.tup [x, y]), fun i H => ∃ xs ys, SqL K H a xs ∧ SqL K H b ys ∧ (xs.length ≤ i ∨ ys.length ≤ i)⟩
theorem turn_zip {P : Program} {w : World} {K : PySem.W.Frag} {elts : List Expr} {x1} {pos : Pos} (a b z TI TO i1 i2 : Addr) (D : ZipApart z TI TO i1 i2 a b) : Turn P w K (.Tuple elts x1 pos) (Itz K a b) [z, TO, i1, i2, TI] z (fun i h => IsZip h z TI TO .none ∧ IsPair h TI (.ref i1) (.ref i2) ∧ (∃ u v, IsPair h TO u v) ∧ h.IsListIter i1 a i ∧ h.IsListIter i2 b i) where
  mem := by simp
  obj := fun i h st c hc => by
    obtain ⟨h1, h2, ⟨u, v, h3⟩, ⟨o4, h4, c4, d4⟩, ⟨o5, h5, c5, d5⟩⟩ := st
    simp only [List.mem_cons, List.not_mem_nil, or_false] at hc
    rcases hc with rfl | rfl | rfl | rfl | rfl
    · exact ⟨_, h1, fun v z => by have z' : Data.fields _ = Data.cell v := z; cases z'⟩
    · exact ⟨_, h3, fun v z => by have z' : Data.seq _ = Data.cell v := z; cases z'⟩
    · exact ⟨o4, h4, fun v z => by rw [d4] at z; cases z⟩
    · exact ⟨o5, h5, fun v z => by rw [d5] at z; cases z⟩
    · exact ⟨_, h2, fun v z => by have z' : Data.seq _ = Data.cell v := z; cases z'⟩
  keep := fun i h h' ⟨h1, h2, ⟨u, v, h3⟩, h4, h5⟩ k => ⟨k z (by simp) _ h1, k TI (by simp) _ h2, ⟨u, v, k TO (by simp) _ h3⟩, h4.at fun o q => k i1 (by simp) o q, h5.at fun o q => k i2 (by simp) o q⟩
  item := by
    intro X hP hw hK hc i pins s σ H E I hf st hg
    subst hP hw hK
    obtain ⟨h1, h2, ⟨u0, v0, h3⟩, h4, h5⟩ := st
    obtain ⟨xs, ys, x, y, hq, hq', hx, hy⟩ := hg
    obtain ⟨its, rv, p, hz⟩ := I.list hq
    obtain ⟨its', rv', p', hz'⟩ := I.list hq'
    obtain ⟨u, hu, ru⟩ := rv.get hx
    obtain ⟨v, hv, rv2⟩ := rv'.get hy
    have hF : ∀ c ∈ [z, TO, i1, i2], H c = none ∧ c ≠ X.env.locals ∧ (c ∈ X.ex ∨ X.s₀.heap.objs.size ≤ c) ∧ (∀ x c', X.env.cells.lookup x = some c' → c' ≠ c) ∧ ∀ p ∈ X.pn ++ pins, p.1 ≠ c := fun c hc => by
      obtain ⟨g0, g1, g2, g3, g4, g5⟩ := hf c (List.mem_append_left [TI] hc)
      exact ⟨g0, g1, g3, g4, g5⟩
    have lt : ∀ c ∈ [z, TO, i1, i2, TI], c < s.heap.objs.size := fun c hc => by
      simp only [List.mem_cons, List.not_mem_nil, or_false] at hc
      rcases hc with rfl | rfl | rfl | rfl | rfl
      · exact Heap.lt_size h1
      · exact Heap.lt_size h3
      · obtain ⟨o, q, _⟩ := id h4; exact Heap.lt_size q
      · obtain ⟨o, q, _⟩ := id h5; exact Heap.lt_size q
      · exact Heap.lt_size h2
    refine wpAny_pyNext_zip_item D h1 h2 h3 h4 h5 p.isList p'.isList (x := u) (y := v) (by simpa using hu) (by simpa using hv) fun h' n1 n2 n3 n4 n5 n6 n7 => ⟨_, rfl, ?_⟩
    refine wpAny_letOwnedTupleGo_zip n1 fun h'' m1 hs => ?_
    have fresh : H s.heap.objs.size = none := I.hok.fresh (Nat.le_refl _)
    have I2 := I.laid (a := s.heap.objs.size) (o := .tup [x, y]) (t' := s.toks) (h' := s.heap.push { cls := .type "tuple", data := .seq #[u, v] }) (fun _ _ q => Heap.get?_push_of_some _ q) (Nat.le_refl _)
      ⟨by rw [sizeLine_eq]; show 2 ≤ _; omega, [u, v], .cons ru (.cons rv2 .nil), _, Heap.get?_push_size _ rfl, rfl, _, rfl⟩
    have zlt := lt z (by simp)
    have key : Inv X pins σ (upd H s.heap.objs.size (.tup [x, y])) { s with heap := h'', toks := s.toks } := by
      have I3 := fun k hL => I2.turnedL (L := [z, TO, i1, i2]) (t' := s.toks) (h' := h'') k hL
      refine I3 (fun c o hc q => ?_) (fun c hc => ?_)
      · simp only [List.mem_cons, List.not_mem_nil, or_false, not_or] at hc
        obtain ⟨c1, c2, c3, c4⟩ := hc
        refine hs.extBut c o c1 ?_
        rcases Heap.get?_push_cases q with ⟨rfl, rfl⟩ | q2
        · exact n5
        · exact n7 c o c1 c2 c3 c4 q2
      · obtain ⟨g0, g⟩ := hF c hc
        refine ⟨?_, g⟩
        rw [upd_ne (Nat.ne_of_lt (lt c (List.mem_append_left [TI] hc)))]
        exact g0
    refine ⟨.ref s.heap.objs.size, _, key, rfl, ⟨_, rfl, fresh, x, y, fun xs2 q => by rw [I.list_inj q hq]; exact hx, fun ys2 q => by rw [I.list_inj q hq']; exact hy, rfl⟩, ⟨m1, ?_, ⟨u, v, hs.extBut _ _ D.TOz n2⟩, n3.extBut hs.extBut D.i1z, n4.extBut hs.extBut D.i2z⟩, fun c hc => ?_⟩
    · exact hs.extBut _ _ D.TIz (n7 _ _ D.TIz D.TITO D.TIi1 D.TIi2 h2)
    · rw [upd_ne (Nat.ne_of_lt (lt c hc))]
      exact (hf c hc).1
  done := by
    intro X hP hw hK hc i pins s σ H E I hf st hg
    subst hP hw hK
    obtain ⟨h1, h2, ⟨u0, v0, h3⟩, h4, h5⟩ := st
    obtain ⟨xs, ys, hq, hq', hx⟩ := hg
    obtain ⟨its, rv, p, hz⟩ := I.list hq
    obtain ⟨its', rv', p', hz'⟩ := I.list hq'
    have hl := rv.length
    have hl' := rv'.length
    refine wpAny_pyNext_zip_end (I.ok.hd hc) D h1 h2 h3 h4 h5 p.isList p'.isList (by simp; omega) fun h' n7 => ⟨rfl, I.turnedL (L := [z, TO, i1, i2]) (t' := s.toks) (fun c o hc q => ?_) (fun c hc => ?_)⟩
    · simp only [List.mem_cons, List.not_mem_nil, or_false, not_or] at hc
      exact n7 c o hc.1 hc.2.1 hc.2.2.1 hc.2.2.2 q
    · obtain ⟨g0, g1, g2, g3, g4, g5⟩ := hf c (List.mem_append_left [TI] hc)
      exact ⟨g0, g1, g3, g4, g5⟩
  self := fun _ _ _ _ _ ⟨st, _⟩ h => wpAny_pyIter_zip st h
section
variable {X : Cx}
noncomputable def iZip (K : PySem.W.Frag) (ta : TA) : TI := fun σ H R => ta σ H fun vs H1 => ∃ a b, vs = [.ref a, .ref b] ∧ (∃ xs ys, SqL K H1 a xs ∧ SqL K H1 b ys) ∧ R (Itz K a b) H1
theorem pi_zip {a b : Expr} {elts : List Expr} {x1} {tp : Pos} {ta : TA} {p pos : Pos} (hg : Gl X "zip") (hm : X.mg "zip" = none) (ha : PA X [a, b] ta) (hb : bootBuiltins "zip" = some (.type "zip")) (hs : starEach [a, b] X.env = [(false, eval a X.env), (false, eval b X.env)] := by rfl) (hs2 : starEach [b] X.env = [(false, eval b X.env)] := by rfl) : PI X (.Tuple elts x1 tp) (.Call (.Name "zip" p) [a, b] [] pos) (iZip X.K ta) := by
  intro pins s σ H R I h
  refine Call_ (ld_blt I hg hm hb (PyProof.Rows.callWith_type1 (thn (ha pos pins s σ H _ I h) fun us s1 ⟨vs, H1, I1, r1, q1⟩ => ?_) (by rw [hs, hs2]) (by rw [hs2]; rfl)))
  obtain ⟨a, b, e, ⟨xs, ys, hq, hq'⟩, q⟩ := q1
  subst e
  obtain ⟨u, u', rfl, ru, ru'⟩ := vals2 r1
  cases ru
  cases ru'
  obtain ⟨its, rv, p, hz⟩ := I1.list hq
  obtain ⟨its', rv', p', hz'⟩ := I1.list hq'
  have l1 : a < s1.heap.objs.size := by obtain ⟨_, e, _⟩ := p.isList; exact Heap.lt_size e
  have l2 : b < s1.heap.objs.size := by obtain ⟨_, e, _⟩ := p'.isList; exact Heap.lt_size e
  refine call_zip_2 p.isList p'.isList fun h' z1 z2 z3 z4 z5 z6 z7 => ?_
  refine wpAny_pyIter_zip z1 ?_
  have I2 : Inv X pins σ H1 { s1 with heap := h' } := I1.kept (t' := s1.toks) z7
  refine ⟨s1.heap.objs.size + 4, [s1.heap.objs.size + 4, s1.heap.objs.size + 3, s1.heap.objs.size, s1.heap.objs.size + 1, s1.heap.objs.size + 2], _, _, H1, rfl, I2, turn_zip a b _ _ _ _ _ (zipApart_new l1 l2), ⟨z1, z2, ⟨_, _, z3⟩, z4, z5⟩, fun c hc => ?_, q⟩
  have hge : s1.heap.objs.size ≤ c := by
    simp only [List.mem_cons, List.not_mem_nil, or_false] at hc
    rcases hc with rfl | rfl | rfl | rfl | rfl <;> first | exact Nat.le_refl _ | exact Nat.le_add_right _ _
  exact I1.fpOk hge (I1.hok.fresh hge)
theorem wp_zip {K : PySem.W.Frag} {σ : St} {H : Hp} {t : TA} {R : It → Hp → Prop} (h : t σ H fun vs H1 => ∃ a b, vs = [.ref a, .ref b] ∧ (∃ xs ys, SqL K H1 a xs ∧ SqL K H1 b ys) ∧ R (Itz K a b) H1) : iZip K t σ H R := h
end
end L2
set_option Elab.async false
set_option linter.all false
set_option maxRecDepth 100000
set_option maxHeartbeats 0
namespace L2
open PySem PySem.Spec PyProof.Rows
structure CompScope2 (X : Cx) (scope : Scope) (cl : List (Str × Addr)) (x1 x2 : Str) (caps : List (Str × Nat)) : Prop where
  kind : scope.kind = .function
  clos : closureFor scope X.env = pure cl
  ncell : ∀ y ∈ scope.names, y.2 ≠ .cell
  names : ∀ y ∈ scope.names, y.2 = .local → scope.names.lookup y.1 = some .local
  xloc1 : scope.names.lookup x1 = some .local
  xloc2 : scope.names.lookup x2 = some .local
  sub : ∀ y c, cl.lookup y = some c → X.env.cells.lookup y = some c
  has : ∀ y, ((relabel scope X.env).names.lookup y = some .cell ∨ (relabel scope X.env).names.lookup y = some .free) → ∃ c, cl.lookup y = some c
  cap : ∀ (k : Nat) y j, caps[k]? = some (y, j) → X.N[j]? = some y ∧ Vis X.env.scope y ∧ (X.env.kindOf y = some .cell ∨ X.env.kindOf y = some .free) ∧ ((relabel scope X.env).names.lookup y = some .cell ∨ (relabel scope X.env).names.lookup y = some .free)
  nd : (x1 :: x2 :: caps.map (·.1)).Nodup
noncomputable def compK2 (tc : TT) (te : TE) (cvs : List V) (Q : VK) (J : It) (H1 : Hp) : Prop := ∀ D, H1 D = none → ∃ W : Nat → Nat → List V → Hp → Prop, (∃ m, W 0 m [] (upd H1 D (.lst []))) ∧
  ∀ i m acc H, W i m acc H → H D = some (.lst acc) ∧ ((J.stop i H ∧ Q (.ref D) H) ∨ (J.go i H ∧ ∀ v H', J.yld i H v H' → ∃ p x y, v = .ref p ∧ H' p = some (.tup [x, y]) ∧ tc (some x :: some y :: cvs.map some) H' fun b H2 =>
    if b = true then te (some x :: some y :: cvs.map some) H2 fun y H3 => H3 D = some (.lst acc) ∧ acc.length < sizeLine ∧ ∃ m', m' < m ∧ W (i + 1) m' (acc ++ [y]) (upd H3 D (.lst (acc ++ [y]))) else ∃ m', m' < m ∧ W (i + 1) m' acc H2))
noncomputable def tComp2 (wi : TI) (tc : TT) (te : TE) (caps : List (Str × Nat)) : TE := fun σ H Q => ∃ cvs : List V, cvs.length = caps.length ∧ (∀ (k : Nat) y j, caps[k]? = some (y, j) → ∃ v, cvs[k]? = some v ∧ σ[j]? = some (some v)) ∧ wi σ H (compK2 tc te cvs Q)
section
variable {X : Cx} {scope : Scope} {cl : List (Str × Addr)} {x1 x2 : Str} {caps : List (Str × Nat)} {pins : List (Addr × Obj)} {σ : St} {H : Hp} {s s4 : Shared} {fp : List Addr} {cvs : List V}
theorem compCx_ok2 (S : CompScope2 X scope cl x1 x2 caps) (I : Inv X pins σ H s) (hf : ∀ b ∈ fp, FpOk X pins H b ∧ b < s.heap.objs.size) : (compCx X scope cl (x1 :: x2 :: caps.map (·.1)) fp pins s H).Ok where
  mod := I.ok.mod
  kind := S.kind
  glob := I.ok.glob
  blt := I.ok.blt
  above := Nat.le_refl _
  inj := fun y z c h1 h2 => I.ok.inj y z c (S.sub y c h1) (S.sub z c h2)
  has := fun y hy => S.has y hy
  cab := fun y c h _ => by cases h
  hd := I.ok.hd
  frames := I.ok.frames
  stk := .inl rfl
  exf := fun b hb => ⟨Nat.ne_of_lt (hf b hb).2, fun y c h => (hf b hb).1.2.2.2.2.1 y c (S.sub y c h)⟩
  bs := fun b o e => I.bs b o e
  bsz := Nat.le_trans (Nat.le_trans I.ok.bsz I.ok.above) (Nat.le_of_lt I.lt)
  noex := fun b o e hb => by
    rcases (hf b hb).1.2.2.2.1 with z | z
    · exact I.ok.noex b o e z
    · exact absurd (Nat.lt_of_lt_of_le (Heap.lt_size (I.ok.bs b o e).1) z) (Nat.lt_irrefl _)
  exfs := fun b hb z => by
    rcases List.mem_cons.mp (I.stkSub b z) with e | e
    · exact (hf b hb).1.2.1 e
    · exact (hf b hb).1.2.2.1 e
  funs := I.stack
  frf := I.stkFree
theorem compInv2 (S : CompScope2 X scope cl x1 x2 caps) (I : Inv X pins σ H s) (hf : ∀ b ∈ fp, FpOk X pins H b ∧ b < s.heap.objs.size)
    (hlen : cvs.length = caps.length) (hcv : ∀ (k : Nat) y j, caps[k]? = some (y, j) → ∃ v, cvs[k]? = some v ∧ σ[j]? = some (some v))
    {h4 : Heap} {t4 : Nat} {m4 : Str → Option Value} (hns : h4.Ns s.heap.objs.size m4) (hk : ∀ b o, s.heap.get? b = some o → h4.get? b = some o) :
    Inv (compCx X scope cl (x1 :: x2 :: caps.map (·.1)) fp pins s H) [] (none :: none :: cvs.map some) H { s with heap := h4, toks := t4 } where
  ok := compCx_ok2 S I hf
  os := rfl
  bare := I.bare
  base := Un.kept hk
  loc := by
    obtain ⟨m, hn, hl⟩ := I.loc
    refine ⟨m4, hns, fun i y v h1 h2 h3 => ?_⟩
    cases i with
    | zero => cases h2
    | succ i =>
    cases i with
    | zero => cases h2
    | succ k =>
      have h1' : (caps.map (·.1))[k]? = some y := h1
      have h2' : (cvs.map some)[k]? = some (some v) := h2
      rw [List.getElem?_map] at h1' h2'
      cases e1 : caps[k]? with
      | none => rw [e1] at h1'; cases h1'
      | some q =>
        obtain ⟨y', j⟩ := q
        rw [e1] at h1'
        cases h1'
        obtain ⟨w1, e2, e3⟩ := hcv k y' j e1
        rw [e2] at h2'
        cases h2'
        obtain ⟨a1, a2, a3, a4⟩ := S.cap k y' j e1
        obtain ⟨u, r, l⟩ := hl j y' v a1 e3 a2
        refine ⟨u, r, ?_⟩
        rcases l with ⟨l, _⟩ | ⟨_, c, ec, o, ho, hd⟩
        · rcases a3 with a3 | a3 <;> rw [a3] at l <;> cases l
        · obtain ⟨c', ec'⟩ := S.has y' a4
          have := S.sub y' c' ec'
          rw [ec] at this
          cases this
          exact .inr ⟨a4, c, ec', o, hk c o ho, hd⟩
  cell := fun y c h => by
    obtain ⟨v, o, ho, hd⟩ := I.cell y c (S.sub y c h)
    exact ⟨v, o, hk c o ho, hd⟩
  free := I.hok.fresh (Nat.le_refl _)
  freeC := fun y c h => I.freeC y c (S.sub y c h)
  pin := fun p hp => by
    have hp' : p ∈ X.pn ++ pins := by
      have : p ∈ (X.pn ++ pins) ++ [] := hp
      rwa [List.append_nil] at this
    obtain ⟨e, n, ne, nf, d⟩ := I.pin p hp'
    refine ⟨hk _ _ e, n, Nat.ne_of_lt (Heap.lt_size e), fun z => ?_, d⟩
    rcases List.mem_cons.mp (I.stkSub p.1 z) with q | q
    · exact ne q
    · exact nf q
  hok := I.hok.kept hk
  len := by
    show (none :: none :: cvs.map some).length = (x1 :: x2 :: caps.map (·.1)).length
    simp [hlen]
end
section
variable {X : Cx} {scope : Scope} {cl : List (Str × Addr)} {x1 x2 : Str} {caps : List (Str × Nat)} {px1 px2 px pos : Pos} {xk : Nat} {iter elt : Expr} {ifs : List Expr} {wi : TI} {tc : TT} {te : TE}
theorem comp_go2 {use : Option (Value → Sem Unit)} {Qv : Value → Shared → Prop} {pins : List (Addr × Obj)} {s : Shared} {σ : St} {H : Hp} {Q : VK} {pos' : Pos} (S : CompScope2 X scope cl x1 x2 caps) (hc : X.calm = true) (hi : PI X (.Tuple [.Name x1 px1, .Name x2 px2] xk px) iter wi)
    (ht : ∀ fp pins s H, PIf (compCx X scope cl (x1 :: x2 :: caps.map (·.1)) fp pins s H) ifs tc) (he : ∀ fp pins s H, PE (compCx X scope cl (x1 :: x2 :: caps.map (·.1)) fp pins s H) elt te)
    (hs : ∀ y, foldedSetIterable iter X.env y = pure y) (I : Inv X pins σ H s) (h : tComp2 wi tc te caps σ H Q)
    (fin : ∀ (D C : Addr) (H' : Hp) (s' : Shared) x, Inv X pins σ H' s' → FpOk X pins H' C → (∃ m, s'.heap.Ns C m) → Q (.ref D) H' → compPost (model X.prog X.w) X.A X.xe use Qv (.ref D) C (.ok x) s') :
    wpAny (model X.prog X.w) X.A (comprehension (.ListComp elt [⟨.Tuple [.Name x1 px1, .Name x2 px2] xk px, iter, ifs, 0⟩] scope pos) scope X.env pos' (newList []) false (eval iter X.env) use) Qv X.xe s := by
  obtain ⟨cvs, hlen, hcv, h⟩ := h
  refine wpAny_comprehension_free (use := use) (cl := cl) rfl hs S.clos S.kind S.names ?_
  refine thn (hi pins s σ H _ I h) fun v s1 h1 => thn h1 fun itv s2 h2 => ?_
  obtain ⟨it, fp, tn, J, H2, rfl, I2, T, st2, f2, hD⟩ := h2
  refine wpAny_newObj_type ?_
  have hDn : H2 s2.heap.objs.size = none := I2.hok.fresh (Nat.le_refl _)
  obtain ⟨W, ⟨m0, w0⟩, turn⟩ := hD s2.heap.objs.size hDn
  generalize hD' : s2.heap.objs.size = D at *
  have I3 : Inv X pins σ (upd H2 D (.lst [])) { s2 with heap := s2.heap.push { cls := .type "list", data := .seq ([] : List Value).toArray } } :=
    I2.laid (t' := s2.toks) (o := .lst []) (fun b ob q => Heap.get?_push_of_some _ q) (Nat.le_of_eq hD') ⟨by decide, [], 0, .nil, by rw [← hD']; exact Heap.get?_push_size _ rfl⟩
  have st3 : tn 0 (s2.heap.push { cls := .type "list", data := .seq ([] : List Value).toArray }) := T.keep _ _ _ st2 fun b _ o e => Heap.get?_push_of_some _ e
  have f3 : ∀ b ∈ fp, FpOk X pins (upd H2 D (.lst [])) b ∧ b < (s2.heap.push { cls := .type "list", data := .seq ([] : List Value).toArray }).objs.size := fun b hb => by
    obtain ⟨o, ho, _⟩ := T.obj 0 _ st2 b hb
    have hlt : b < D := by rw [← hD']; exact Heap.lt_size ho
    obtain ⟨g0, g⟩ := f2 b hb
    refine ⟨⟨?_, g⟩, by rw [Heap.size_push, hD']; exact Nat.lt_succ_of_lt hlt⟩
    rw [upd_ne (Nat.ne_of_lt hlt)]
    exact g0
  generalize hs3 : ({ s2 with heap := s2.heap.push { cls := .type "list", data := .seq ([] : List Value).toArray } } : Shared) = s3 at *
  have hh3 : s3.heap = s2.heap.push { cls := .type "list", data := .seq ([] : List Value).toArray } := by rw [← hs3]
  rw [← hh3] at st3 f3
  generalize upd H2 D (.lst []) = H3 at *
  refine wpAny_newFunctionEnv S.ncell (by intro y hy; simp at hy) (fun h4 hns hsb => ?_) S.kind
  have hk4 : ∀ b o, s3.heap.get? b = some o → h4.get? b = some o := fun b o e => hsb.extBut b o (Nat.ne_of_lt (Heap.lt_size e)) (Heap.get?_push_of_some _ e)
  have I4 := compInv2 (t4 := s3.toks + ([] : List (Str × Value)).length) S I3 f3 hlen hcv hns hk4
  have st4 : tn 0 h4 := T.keep _ _ _ st3 fun b _ o e => hk4 b o e
  generalize hXc : compCx X scope cl (x1 :: x2 :: caps.map (·.1)) fp pins s3 H3 = Xc at *
  have hcond : ∀ {σ' : St} {H' : Hp} {s' : Shared}, Inv Xc [] σ' H' s' → (∀ b ∈ fp, H' b = none) → ∀ b ∈ fp, FpOk Xc [] H' b := fun {σ' H' s'} I' hn b hb => by
    subst hXc
    obtain ⟨⟨_, g1, g2, g3, g4, g5⟩, hlt⟩ := f3 b hb
    refine ⟨hn b hb, Nat.ne_of_lt hlt, fun z => ?_, .inl hb, fun y c e => g4 y c (S.sub y c e), fun p hp => ?_⟩
    · rcases List.mem_cons.mp (I3.stkSub b z) with q | q
      · exact g1 q
      · exact g2 q
    · have : p ∈ (X.pn ++ pins) ++ [] := hp
      rw [List.append_nil] at this
      exact g5 p this
  -- back to the def's own frame
  have back : ∀ {σ' : St} {H' : Hp} {s' : Shared} {h' : Heap}, Inv Xc [] σ' H' s' → Heap.SameBut s3.heap.objs.size s'.heap h' → Inv X pins σ H' { s' with heap := h' } := fun {σ' H' s' h'} I' hsb' => by
    subst hXc
    have kb := SameBut_keep hsb'
    have neC : ∀ b o, s3.heap.get? b = some o → b ≠ s3.heap.objs.size := fun b o e => Nat.ne_of_lt (Heap.lt_size e)
    have B : Un (frs X.stack) fp H3 H' s3.heap s'.heap := I'.base
    refine I3.call' (ch := fp) (s' := { s' with heap := h' }) I'.os ⟨fun b o e n hb hx => kb b o (neC b o e) (B.keep b o e n hb hx), fun b o e n hb hx => ?_, B.free, fun b o e hx => ?_, B.tups, B.frzs, B.tbls⟩ (fun a o e => ?_) I'.bare fun b hb => ?_
    · obtain ⟨sl, q⟩ := B.slot b o e n hb hx
      exact ⟨sl, kb b _ (neC b o e) q⟩
    · obtain ⟨o', q⟩ := B.there b o e hx
      exact ⟨o', kb b o' (neC b o e) q⟩
    · have hC : H' s3.heap.objs.size = none := I'.free
      refine (I'.hok a o e).stay (fun c u hc q => kb c u ?_ q) (fun _ q => q) fun _ _ q => q
      rcases hc with z | z
      · rw [z]; exact ne_of_none e hC
      · exact ne_of_none z hC
    · obtain ⟨⟨_, g1, g2, g3, g4, g5⟩, _⟩ := f3 b hb
      exact ⟨g3, g1, g4, g5⟩
  have loopI : ∀ s5 : Shared, (∃ i σ' acc H', Inv Xc [] σ' H' s5 ∧ (∃ z z', σ' = z :: z' :: cvs.map some) ∧ tn i s5.heap ∧ (∀ b ∈ fp, H' b = none) ∧ W i m0 acc H') →
      codeAny (model X.prog X.w) X.A (.compLoop (.ListComp elt [⟨.Tuple [.Name x1 px1, .Name x2 px2] xk px, iter, ifs, 0⟩] scope pos) 0 (.ref it) (.ref D) Xc.env) (compPost (model X.prog X.w) X.A X.xe use Qv (.ref D) s3.heap.objs.size) s5 := by
    intro s5 h5
    refine codeAny_loop rfl (fun n s' => ∃ i σ' acc H', Inv Xc [] σ' H' s' ∧ (∃ z z', σ' = z :: z' :: cvs.map some) ∧ tn i s'.heap ∧ (∀ b ∈ fp, H' b = none) ∧ W i n acc H') (fun n s' hI => ?_) m0 h5
    show wpAny _ X.A ((compTurn (.ListComp elt [⟨.Tuple [.Name x1 px1, .Name x2 px2] xk px, iter, ifs, 0⟩] scope pos) 0 (.ref it) (.ref D) Xc.env).onRaise (fun e => do noteFrame e Xc.env; theTreesLotGoes e)) _ _ s'
    refine wpAny_noted ?_
    rw [compTurn_list]
    obtain ⟨i, σ', acc, H', I', ⟨z, z', rfl⟩, st', fr', w'⟩ := hI
    obtain ⟨hacc, alt⟩ := turn i n acc H' w'
    have hcX : Xc.calm = true := by subst hXc; exact hc
    refine wpAny_bind (wpAny_standAt (wpAny_bind ?_))
    rcases alt with ⟨stop, q⟩ | ⟨go, step⟩
    · have z1 := T.done Xc (by subst hXc; rfl) (by subst hXc; rfl) (by subst hXc; rfl) hcX i [] s' _ H' (notedBy (model X.prog X.w) X.A Xc.env fun e s'' => compPost (model X.prog X.w) X.A X.xe use Qv (.ref D) s3.heap.objs.size (.error e) s'') I' (hcond I' fr') st' stop
      have eA : Xc.A = X.A := by subst hXc; rfl
      rw [eA] at z1
      refine thn z1 fun r s6 ⟨hr, I6⟩ => ?_
      subst hr
      refine wpAny_pure ?_
      obtain ⟨m6, hn6, _⟩ := I6.loc
      have eL : Xc.env.locals = s3.heap.objs.size := by subst hXc; rfl
      have fr6 := I6.free
      rw [eL] at hn6 fr6
      exact fin D _ H' s6 _ (back I6 (Heap.SameBut.refl _ _)) (I3.fpOk (Nat.le_refl _) fr6) ⟨m6, hn6⟩ q
    · have z1 := T.item Xc (by subst hXc; rfl) (by subst hXc; rfl) (by subst hXc; rfl) hcX i [] s' _ H' (notedBy (model X.prog X.w) X.A Xc.env fun e s'' => compPost (model X.prog X.w) X.A X.xe use Qv (.ref D) s3.heap.objs.size (.error e) s'') I' (hcond I' fr') st' go
      have eA : Xc.A = X.A := by subst hXc; rfl
      have eP : Xc.prog = X.prog := by subst hXc; rfl
      have eW : Xc.w = X.w := by subst hXc; rfl
      rw [eA] at z1
      refine thn z1 fun r s6 ⟨u, hr, h6⟩ => ?_
      subst hr
      refine wpAny_bind (thn h6 fun _ s7 ⟨v7, H7, I7, r7, y7, st7, fr7⟩ => ?_)
      have I7' := I7.pinned (hcond I7 fr7) (T.obj _ _ st7)
      have hN : Xc.N = x1 :: x2 :: caps.map (·.1) := by subst hXc; rfl
      have hloc1 : Xc.env.scope.names.lookup x1 = some .local := by subst hXc; exact lookup_relabel_local S.xloc1
      have hloc2 : Xc.env.scope.names.lookup x2 = some .local := by subst hXc; exact lookup_relabel_local S.xloc2
      have hK : Xc.K = X.K := by subst hXc; rfl
      obtain ⟨p7, vx, vy, e7, t7, step'⟩ := step v7 _ y7
      -- the store
      have z2 := pg_tup (X := Xc) (pos := px) (k := xk) hcX (pgs_cons (pg_name (X := Xc) (i := 0) (pos := px1) (by rw [hN]; exact S.nd) (by rw [hN]; rfl) (.inl hloc1) (.inr hloc1)) (pgs_cons (pg_name (X := Xc) (i := 1) (pos := px2) (by rw [hN]; exact S.nd) (by rw [hN]; rfl) (.inl hloc2) (.inr hloc2)) pgs_nil)) rfl rfl _ s7 _ H7 v7 u (fun σ8 H8 => σ8 = some vx :: some vy :: cvs.map some ∧ H8 = H7) I7' r7
        ⟨p7, [vx, vy], e7, .inl (.inl t7), rfl, vx, _, rfl, vy, _, rfl, rfl, rfl, rfl⟩
      rw [eP, eW, eA] at z2
      refine wpAny_bind (wpAny_mono z2 (fun _ s8 ⟨σ8, H8, I8, e8, e8'⟩ => ?_) fun _ _ f => by subst hXc; exact f.elim)
      subst e8 e8'
      -- the tests
      have z3 := ht fp pins s3 H3
      rw [hXc] at z3
      have z4 := z3 _ s8 _ _ _ I8 step'
      rw [eP, eW, eA] at z4
      refine wpAny_bind (wpAny_mono z4 (fun ok s9 ⟨H9, I9, q9⟩ => ?_) fun _ _ f => by subst hXc; exact f.elim)
      have again : ∀ {σ' : St} {acc' : List V} {H' : Hp} {s' : Shared} {m' : Nat}, Inv Xc ([] ++ pinsAt fp s7.heap) σ' H' s' → (∃ z z', σ' = z :: z' :: cvs.map some) → m' < n → W (i + 1) m' acc' H' → ∃ m, m < n ∧ ∃ i σ' acc H', Inv Xc [] σ' H' s' ∧ (∃ z z', σ' = z :: z' :: cvs.map some) ∧ tn i s'.heap ∧ (∀ b ∈ fp, H' b = none) ∧ W i m acc H' := fun {σ' acc' H' s' m'} I' hz hm w' => by
        refine ⟨m', hm, i + 1, σ', acc', H', I'.unpinned, hz, T.keep _ _ _ st7 fun b hb o e => (I'.pin (b, o) (List.mem_append_right _ (List.mem_append_right _ (mem_pinsAt hb e)))).1, fun b hb => ?_, w'⟩
        obtain ⟨o, e, d⟩ := T.obj _ _ st7 b hb
        exact (I'.pin (b, o) (List.mem_append_right _ (List.mem_append_right _ (mem_pinsAt hb e)))).2.1
      cases ok with
      | false =>
        obtain ⟨m', hm, w9⟩ := (show ∃ m', m' < n ∧ W (i + 1) m' acc H9 from by simpa using q9)
        exact wpAny_pure ⟨rfl, again I9 ⟨_, _, rfl⟩ hm w9⟩
      | true =>
        have q9' := (show te (some vx :: some vy :: cvs.map some) H9 fun y H3 => H3 D = some (.lst acc) ∧ acc.length < sizeLine ∧ ∃ m', m' < n ∧ W (i + 1) m' (acc ++ [y]) (upd H3 D (.lst (acc ++ [y]))) from by simpa using q9)
        have z5 := he fp pins s3 H3
        rw [hXc] at z5
        have z6 := z5 _ s9 _ H9 _ I9 q9'
        rw [eP, eW, eA] at z6
        refine wpAny_bind (wpAny_bind (wpAny_mono z6 (fun yv s10 ⟨y, H10, I10, r10, hl10, hz10, m', hm, w10⟩ => ?_) fun _ _ f => by subst hXc; exact f.elim))
        have z7 := mt_append (X := Xc) _ s10 _ H10 (.ref D) [y] (.ref D) [yv] (fun _ H11 => H11 = upd H10 D (.lst (acc ++ [y]))) I10 rfl (.cons r10 .nil) ⟨D, acc, y, rfl, rfl, hl10, hz10, rfl⟩
        rw [eP, eW, eA] at z7
        refine wpAny_bind (wpAny_mono z7 (fun _ s11 ⟨_, H11, I11, _, e11⟩ => ?_) fun _ _ f => by subst hXc; exact f.elim)
        subst e11
        exact wpAny_pure (wpAny_pure ⟨rfl, again I11 ⟨_, _, rfl⟩ hm w10⟩)
  have start5 : ∃ i σ' acc H', Inv Xc [] σ' H' { s3 with heap := h4, toks := s3.toks + ([] : List (Str × Value)).length } ∧ (∃ z z', σ' = z :: z' :: cvs.map some) ∧ tn i h4 ∧ (∀ b ∈ fp, H' b = none) ∧ W i m0 acc H' :=
    ⟨0, _, [], H3, I4, ⟨_, _, rfl⟩, st4, fun b hb => (f3 b hb).1.1, w0⟩
  have L := loopI _ start5
  subst hXc
  exact codeAny_compStart_list L (T.self X.A 0 _ _ _ st4 L)
theorem pe_comp2 (S : CompScope2 X scope cl x1 x2 caps) (hc : X.calm = true) (hi : PI X (.Tuple [.Name x1 px1, .Name x2 px2] xk px) iter wi)
    (ht : ∀ fp pins s H, PIf (compCx X scope cl (x1 :: x2 :: caps.map (·.1)) fp pins s H) ifs tc) (he : ∀ fp pins s H, PE (compCx X scope cl (x1 :: x2 :: caps.map (·.1)) fp pins s H) elt te)
    (hs : ∀ y, foldedSetIterable iter X.env y = pure y := by intro _; rfl) : PE X (.ListComp elt [⟨.Tuple [.Name x1 px1, .Name x2 px2] xk px, iter, ifs, 0⟩] scope pos) (tComp2 wi tc te caps) := by
  intro pins s σ H Q I h
  rw [eval_ListComp]
  refine comp_go2 (use := none) S hc hi ht he hs I h fun D C H' s' _ I' f n q => ?_
  obtain ⟨m, hn⟩ := n
  obtain ⟨f0, f1, f2, f3, f4, f5⟩ := f
  exact ⟨m, hn, fun h' hsb => ⟨.ref D, H', I'.turned (t' := s'.toks) (fun b o hb e => hsb.extBut b o hb e) f0 f1 f3 f4 f5, rfl, q⟩⟩
end
theorem compScopeC2 {X : Cx} {scope : Scope} {cl : List (Str × Addr)} {x1 x2 : Str} {caps : List (Str × Nat)} (kind : scope.kind = .function) (clos : closureFor scope X.env = pure cl) (ncell : ∀ y ∈ scope.names, y.2 ≠ .cell)
    (names : ∀ y ∈ scope.names, y.2 = .local → scope.names.lookup y.1 = some .local) (xl1 : scope.names.lookup x1 = some .local) (xl2 : scope.names.lookup x2 = some .local) (sub : ∀ y c, cl.lookup y = some c → X.env.cells.lookup y = some c) (hn : ((relabel scope X.env).names.all fun p => !(p.2 == .cell || p.2 == .free) || (cl.map (·.1)).contains p.1) = true)
    (cap : ∀ (k : Nat) y j, caps[k]? = some (y, j) → X.N[j]? = some y ∧ Vis X.env.scope y ∧ (X.env.kindOf y = some .cell ∨ X.env.kindOf y = some .free) ∧ ((relabel scope X.env).names.lookup y = some .cell ∨ (relabel scope X.env).names.lookup y = some .free))
    (nd : (x1 :: x2 :: caps.map (·.1)).Nodup) : CompScope2 X scope cl x1 x2 caps where
  kind := kind
  clos := clos
  ncell := ncell
  names := names
  xloc1 := xl1
  xloc2 := xl2
  sub := sub
  has := fun y hy => by
    have hm : y ∈ cl.map (·.1) := by
      have all := List.all_eq_true.mp hn
      rcases hy with hy | hy
      · have z := all _ (PySem.mem_of_lookup hy)
        simpa using z
      · have z := all _ (PySem.mem_of_lookup hy)
        simpa using z
    clear clos sub hn cap nd hy
    induction cl with
    | nil => exact nomatch hm
    | cons p r ih =>
      by_cases h : y = p.1
      · subst h
        exact ⟨p.2, by rw [List.lookup_cons, beq_self_eq_true]⟩
      · have hm' : y ∈ r.map (·.1) := by
          rcases List.mem_cons.mp hm with z | z
          · exact absurd z h
          · exact z
        obtain ⟨c, hc⟩ := ih hm'
        exact ⟨c, by rw [List.lookup_cons, beq_eq_false_iff_ne.mpr h]; exact hc⟩
  cap := cap
  nd := nd
theorem comp_zip {K : PySem.W.Frag} {H : Hp} {Q : VK} {a b : Addr} {xs ys : List V} {tc : TT} {te : TE} {cvs : List V} (hl : xs.length = ys.length) (hz : xs.length ≤ 100000) (Pv : Addr → Nat → List V → Hp → Prop)
    (h0 : ∀ D, H D = none → Pv D 0 [] (upd H D (.lst []))) (hD : ∀ D i acc H', H D = none → i ≤ xs.length → Pv D i acc H' → H' D = some (.lst acc) ∧ acc.length ≤ i ∧ SqL K H' a xs ∧ SqL K H' b ys)
    (hs : ∀ D i x y acc H' p (N : List V → Hp → Prop), H D = none → xs[i]? = some x → ys[i]? = some y → acc.length < sizeLine → H' p = none → (∀ acc' H2, Pv D (i + 1) acc' H2 → N acc' H2) → Pv D i acc H' → tc (some x :: some y :: cvs.map some) (upd H' p (.tup [x, y])) fun b H2 => if b = true then te (some x :: some y :: cvs.map some) H2 fun v H3 => H3 D = some (.lst acc) ∧ acc.length < sizeLine ∧ N (acc ++ [v]) (upd H3 D (.lst (acc ++ [v]))) else N acc H2)
    (hd : ∀ D acc H', H D = none → Pv D xs.length acc H' → Q (.ref D) H') : compK2 tc te cvs Q (Itz K a b) H := by
  intro D hDn
  refine ⟨fun i m acc H' => m = xs.length - i ∧ i ≤ xs.length ∧ Pv D i acc H', ⟨_, rfl, Nat.zero_le _, h0 D hDn⟩, ?_⟩
  rintro i m acc H' ⟨rfl, hi, hp⟩
  obtain ⟨d1, d2, d3, d4⟩ := hD D i acc H' hDn hi hp
  refine ⟨d1, ?_⟩
  by_cases hlt : i < xs.length
  · have hlt2 : i < ys.length := by omega
    refine .inr ⟨⟨xs, ys, xs[i], ys[i], d3, d4, by simp [hlt], by simp [hlt2]⟩, fun v H2 y => ?_⟩
    obtain ⟨p, rfl, hpn, x, y, hx, hy, rfl⟩ := y
    refine ⟨p, x, y, rfl, upd_same, ?_⟩
    exact hs D i x y acc H' p (fun acc' H2 => ∃ m', m' < xs.length - i ∧ (m' = xs.length - (i + 1) ∧ i + 1 ≤ xs.length ∧ Pv D (i + 1) acc' H2)) hDn (hx xs d3) (hy ys d4) (by rw [sizeLine_eq]; omega) hpn (fun acc' H2 hq => ⟨_, by omega, rfl, hlt, hq⟩) hp
  · have e : i = xs.length := by omega
    subst e
    exact .inl ⟨⟨xs, ys, d3, d4, .inl (Nat.le_refl _)⟩, hd D acc H' hDn hp⟩
end L2
set_option Elab.async false
set_option linter.all false
set_option maxHeartbeats 0
namespace Mm
structure Tr (n : Nat) (p : Nat → Nat) (l : Nat → Int) (D : Nat → Nat → Int) : Prop where
  pl : ∀ i, 0 < i → i < n → p i < i
  lp : ∀ i, 0 < i → i < n → 0 ≤ l i
  z : ∀ i, i < n → D i i = 0
  st : ∀ i j, j < i → i < n → D i j = D (p i) j + l i ∧ D j i = D i j
section
variable {n : Nat} {p : Nat → Nat} {l : Nat → Int} {D : Nat → Nat → Int}
theorem Tr.sym (T : Tr n p l D) {a b : Nat} (ha : a < n) (hb : b < n) : D a b = D b a := by
  by_cases h : a < b
  · exact (T.st b a h hb).2
  · by_cases h2 : b < a
    · exact ((T.st a b h2 ha).2).symm
    · have : a = b := by omega
      rw [this]
theorem Tr.up (T : Tr n p l D) {a b : Nat} (ha : a < n) (h : b < a) : D a b = D (p a) b + l a ∧ D b a = D b (p a) + l a ∧ p a < a ∧ 0 ≤ l a := by
  have e := T.st a b h ha
  have hp := T.pl a (by omega) ha
  refine ⟨e.1, ?_, hp, T.lp a (by omega) ha⟩
  rw [e.2, e.1, T.sym (show b < n by omega) (show p a < n by omega)]
theorem Tr.nn (T : Tr n p l D) : ∀ k a b, a + b < k → a < n → b < n → 0 ≤ D a b := by
  intro k
  induction k with
  | zero => intro a b h; omega
  | succ k ih =>
    intro a b h ha hb
    by_cases e : a = b
    · rw [e, T.z b hb]; exact Int.le_refl _
    · by_cases h1 : b < a
      · obtain ⟨e1, _, e3, e4⟩ := T.up ha h1
        have := ih (p a) b (by omega) (by omega) hb
        omega
      · obtain ⟨_, e2, e3, e4⟩ := T.up hb (show a < b by omega)
        have := ih a (p b) (by omega) ha (by omega)
        omega
theorem Tr.tri (T : Tr n p l D) : ∀ k a b c, a + b + c < k → a < n → b < n → c < n → D a b ≤ D a c + D c b := by
  intro k
  induction k with
  | zero => intro a b c h; omega
  | succ k ih =>
    intro a b c h ha hb hc
    by_cases e1 : a = b
    · subst e1
      have h1 := T.nn _ a c (Nat.lt_succ_self _) ha hc
      have h2 := T.nn _ c a (Nat.lt_succ_self _) hc ha
      have h3 := T.z a ha
      omega
    · by_cases e2 : a = c
      · subst e2
        have h3 := T.z a ha
        omega
      · by_cases e3 : b = c
        · subst e3
          have h3 := T.z b hb
          omega
        · by_cases m1 : b < a ∧ c < a
          · obtain ⟨x1, _, x3, _⟩ := T.up ha m1.1
            obtain ⟨y1, _, _, _⟩ := T.up ha m1.2
            have := ih (p a) b c (by omega) (by omega) hb hc
            omega
          · by_cases m2 : a < b ∧ c < b
            · obtain ⟨_, x2, x3, _⟩ := T.up hb m2.1
              obtain ⟨_, y2, _, _⟩ := T.up hb m2.2
              have := ih a (p b) c (by omega) ha (by omega) hc
              omega
            · obtain ⟨x1, x2, x3, x4⟩ := T.up hc (show a < c by omega)
              obtain ⟨y1, y2, _, _⟩ := T.up hc (show b < c by omega)
              have := ih a b (p c) (by omega) ha hb (by omega)
              omega
theorem Tr.four (T : Tr n p l D) : ∀ k a b c d, a + b + c + d < k → a < n → b < n → c < n → d < n → D a b + D c d ≤ D a c + D b d ∨ D a b + D c d ≤ D a d + D b c := by
  intro k
  induction k with
  | zero => intro a b c d h; omega
  | succ k ih =>
    intro a b c d h ha hb hc hd
    by_cases e1 : a = b
    · subst e1
      have h1 := T.tri _ c d a (Nat.lt_succ_self _) hc hd ha
      have h2 := T.z a ha
      have h3 := T.sym hc ha
      left; omega
    by_cases e2 : a = c
    · subst e2
      have h3 := T.sym ha hb
      right; omega
    by_cases e3 : a = d
    · subst e3
      have h3 := T.sym ha hb
      have h4 := T.sym ha hc
      left; omega
    by_cases e4 : b = c
    · subst e4
      left; omega
    by_cases e5 : b = d
    · subst e5
      have h4 := T.sym hb hc
      right; omega
    by_cases e6 : c = d
    · subst e6
      have h1 := T.tri _ a b c (Nat.lt_succ_self _) ha hb hc
      have h2 := T.z c hc
      have h3 := T.sym hb hc
      left; omega
    by_cases m1 : b < a ∧ c < a ∧ d < a
    · obtain ⟨x, _, x3, _⟩ := T.up ha m1.1
      obtain ⟨y, _, _, _⟩ := T.up ha m1.2.1
      obtain ⟨z, _, _, _⟩ := T.up ha m1.2.2
      rcases ih (p a) b c d (by omega) (by omega) hb hc hd with q | q
      · left; omega
      · right; omega
    by_cases m2 : a < b ∧ c < b ∧ d < b
    · obtain ⟨_, x, x3, _⟩ := T.up hb m2.1
      obtain ⟨y, _, _, _⟩ := T.up hb m2.2.1
      obtain ⟨z, _, _, _⟩ := T.up hb m2.2.2
      rcases ih a (p b) c d (by omega) ha (by omega) hc hd with q | q
      · left; omega
      · right; omega
    by_cases m3 : a < c ∧ b < c ∧ d < c
    · obtain ⟨_, x, x3, _⟩ := T.up hc m3.1
      obtain ⟨_, y, _, _⟩ := T.up hc m3.2.1
      obtain ⟨z, _, _, _⟩ := T.up hc m3.2.2
      rcases ih a b (p c) d (by omega) ha hb (by omega) hd with q | q
      · left; omega
      · right; omega
    obtain ⟨_, x, x3, _⟩ := T.up hd (show a < d by omega)
    obtain ⟨_, y, _, _⟩ := T.up hd (show b < d by omega)
    obtain ⟨_, z, _, _⟩ := T.up hd (show c < d by omega)
    rcases ih a b c (p d) (by omega) ha hb hc (by omega) with q | q
    · left; omega
    · right; omega
theorem Tr.gam (T : Tr n p l D) {f : Int} {u1 u2 v w : Nat} (h1 : u1 < n) (h2 : u2 < n) (hv : v < n) (hw : w < n) (a1 : D u1 v ≤ f) (a2 : D u1 w ≤ f) (a3 : D u2 v ≤ f) (b1 : D 0 w ≤ D 0 v) (b2 : D 0 u2 ≤ D 0 u1) : D u2 w ≤ f := by
  have hz : 0 < n := by omega
  have s1 := T.sym hz hw
  have s2 := T.sym hz hv
  have s3 := T.sym hz h1
  have s4 := T.sym hz h2
  have s5 := T.sym hv hw
  have s6 := T.sym h1 h2
  have s7 := T.sym h1 hv
  have s8 := T.sym h1 hw
  have s9 := T.sym h2 hv
  have s10 := T.sym h2 hw
  rcases T.four _ u2 w v 0 (Nat.lt_succ_self _) h2 hw hv hz with q | q
  · omega
  · rcases T.four _ u2 w u1 0 (Nat.lt_succ_self _) h2 hw h1 hz with r | r
    · rcases T.four _ v w u1 u2 (Nat.lt_succ_self _) hv hw h1 h2 with t | t
      · omega
      · omega
    · omega
end
noncomputable def sm (f : Nat → Int) : Nat → Int
  | 0 => 0
  | n + 1 => sm f n + f n
theorem sm_congr {f g : Nat → Int} : ∀ {n : Nat}, (∀ i, i < n → f i = g i) → sm f n = sm g n
  | 0, _ => rfl
  | n + 1, h => by show sm f n + f n = sm g n + g n; rw [sm_congr (fun i hi => h i (by omega)), h n (by omega)]
theorem sm_le {f g : Nat → Int} : ∀ {n : Nat}, (∀ i, i < n → f i ≤ g i) → sm f n ≤ sm g n
  | 0, _ => Int.le_refl _
  | n + 1, h => by
    have h1 := sm_le (n := n) (fun i hi => h i (by omega))
    have h2 := h n (by omega)
    show sm f n + f n ≤ sm g n + g n
    omega
theorem sm_zero {f : Nat → Int} {n : Nat} (h : ∀ i, i < n → f i = 0) : sm f n = 0 := by
  rw [sm_congr (g := fun _ => 0) h]
  induction n with
  | zero => rfl
  | succ n ih => show sm (fun _ => 0) n + 0 = 0; rw [ih (fun i hi => h i (by omega))]; rfl
theorem sm_add (f g : Nat → Int) : ∀ n, sm (fun i => f i + g i) n = sm f n + sm g n
  | 0 => rfl
  | n + 1 => by show sm _ n + (f n + g n) = (sm f n + f n) + (sm g n + g n); rw [sm_add f g n]; omega
theorem sm_swap (f : Nat → Nat → Int) (m : Nat) : ∀ n, sm (fun i => sm (f i) m) n = sm (fun j => sm (fun i => f i j) n) m
  | 0 => by
    rw [sm_zero (f := fun j => sm (fun i => f i j) 0) (fun _ _ => rfl)]
    rfl
  | n + 1 => by
    show sm (fun i => sm (f i) m) n + sm (f n) m = _
    rw [sm_swap f m n, ← sm_add]
    rfl
theorem sm_one {f : Nat → Int} {n a : Nat} (ha : a < n) (h : ∀ i, i < n → i ≠ a → f i = 0) : sm f n = f a := by
  induction n with
  | zero => omega
  | succ n ih =>
    show sm f n + f n = f a
    by_cases e : a = n
    · subst e
      rw [sm_zero (fun i hi => h i (by omega) (by omega))]
      omega
    · rw [ih (by omega) (fun i hi => h i (by omega)), h n (by omega) (fun z => e z.symm)]
      omega
theorem sm_mem {f : Nat → Int} {n a : Nat} (ha : a < n) (h : ∀ i, i < n → 0 ≤ f i) : f a ≤ sm f n := by
  have := sm_le (f := fun i => if i = a then f a else 0) (g := f) (n := n) (fun i hi => by
    by_cases e : i = a
    · subst e; simp
    · simp only [if_neg e]; exact h i hi)
  rw [sm_one (a := a) ha (fun i _ e => if_neg e), if_pos rfl] at this
  exact this
theorem sm_pos {f : Nat → Int} {n : Nat} (h : 0 < sm f n) : ∃ i, i < n ∧ 0 < f i := by
  induction n with
  | zero => exact absurd h (Int.lt_irrefl _)
  | succ n ih =>
    by_cases e : 0 < f n
    · exact ⟨n, by omega, e⟩
    · have : 0 < sm f n := by
        have : sm f (n + 1) = sm f n + f n := rfl
        omega
      obtain ⟨i, hi, hf⟩ := ih this
      exact ⟨i, by omega, hf⟩
theorem weak {n : Nat} {D : Nat → Nat → Int} {f : Int} {y s : Nat → Int} {C : Nat → Bool} (hy : ∀ v, v < n → 0 ≤ y v) (hf : ∀ u, u < n → sm (fun v => if D u v ≤ f then y v else 0) n ≤ s u)
    (hc : ∀ v, v < n → ∃ u, u < n ∧ C u = true ∧ D u v ≤ f) : sm y n ≤ sm (fun u => if C u = true then s u else 0) n := by
  have h1 : sm (fun u => if C u = true then sm (fun v => if D u v ≤ f then y v else 0) n else 0) n ≤ sm (fun u => if C u = true then s u else 0) n := sm_le fun u hu => by
    by_cases e : C u = true
    · simp only [if_pos e]; exact hf u hu
    · simp only [if_neg e]; exact Int.le_refl _
  have h2 : sm (fun u => if C u = true then sm (fun v => if D u v ≤ f then y v else 0) n else 0) n = sm (fun v => sm (fun u => if C u = true then (if D u v ≤ f then y v else 0) else 0) n) n := by
    rw [← sm_swap]
    refine sm_congr fun u hu => ?_
    by_cases e : C u = true
    · simp only [if_pos e]
    · simp only [if_neg e]; exact (sm_zero fun _ _ => rfl).symm
  have h3 : sm y n ≤ sm (fun v => sm (fun u => if C u = true then (if D u v ≤ f then y v else 0) else 0) n) n := sm_le fun v hv => by
    obtain ⟨u, hu, cu, du⟩ := hc v hv
    have := sm_mem (f := fun u => if C u = true then (if D u v ≤ f then y v else 0) else 0) hu (fun i _ => by
      by_cases e : C i = true
      · simp only [if_pos e]
        by_cases e2 : D i v ≤ f
        · simp only [if_pos e2]; exact hy v hv
        · simp only [if_neg e2]; exact Int.le_refl _
      · simp only [if_neg e]; exact Int.le_refl _)
    simp only [if_pos cu, if_pos du] at this
    exact this
  omega
structure Gr (n : Nat) (D : Nat → Nat → Int) (f : Int) (y s : Nat → Int) (r al : Nat → Nat) (S : Nat → Prop) : Prop where
  yn : ∀ v, v < n → 0 ≤ y v
  sp : ∀ u, u < n → 0 < s u
  inj : ∀ v w, v < n → w < n → r v = r w → v = w
  dp : ∀ v w, v < n → w < n → r v ≤ r w → D 0 w ≤ D 0 v
  fe : ∀ u, u < n → sm (fun v => if D u v ≤ f then y v else 0) n ≤ s u
  an : ∀ v, v < n → al v < n
  ac : ∀ v, v < n → D (al v) v ≤ f
  at' : ∀ v, v < n → sm (fun x => if r x ≤ r v then (if D (al v) x ≤ f then y x else 0) else 0) n = s (al v)
  am : ∀ v u, v < n → u < n → D u v ≤ f → sm (fun x => if r x ≤ r v then (if D u x ≤ f then y x else 0) else 0) n = s u → D 0 (al v) ≤ D 0 u
  s1 : ∀ v, S v → v < n ∧ 0 < y v ∧ ∀ w, S w → r v < r w → ¬ D (al w) v ≤ f
  s2 : ∀ v, v < n → 0 < y v → ¬ S v → ∃ w, S w ∧ r v < r w ∧ D (al w) v ≤ f
section
variable {n : Nat} {p : Nat → Nat} {l : Nat → Int} {D : Nat → Nat → Int} {f : Int} {y s : Nat → Int} {r al : Nat → Nat} {S : Nat → Prop}
theorem Gr.late (G : Gr n D f y s r al S) {u v x : Nat} (hu : u < n) (hx : x < n) (ht : sm (fun x => if r x ≤ r v then (if D u x ≤ f then y x else 0) else 0) n = s u) (hr : r v < r x) (hd : D u x ≤ f) : y x ≤ 0 := by
  have h1 := G.fe u hu
  have h2 : sm (fun x => if r x ≤ r v then (if D u x ≤ f then y x else 0) else 0) n + y x ≤ sm (fun v => if D u v ≤ f then y v else 0) n := by
    have e : y x = sm (fun i => if i = x then y x else 0) n := by rw [sm_one (a := x) hx (fun i _ e => if_neg e), if_pos rfl]
    rw [e, ← sm_add]
    refine sm_le fun i hi => ?_
    by_cases ex : i = x
    · subst ex
      simp only [if_neg (show ¬ r i ≤ r v by omega), if_pos hd, ↓reduceIte]
      omega
    · simp only [if_neg ex]
      by_cases e1 : r i ≤ r v
      · simp only [if_pos e1]; omega
      · simp only [if_neg e1]
        by_cases e2 : D u i ≤ f
        · simp only [if_pos e2]; have := G.yn i hi; omega
        · simp only [if_neg e2]; omega
  omega
theorem Gr.alone (T : Tr n p l D) (G : Gr n D f y s r al S) {v w w' : Nat} (hv : v < n) (hy : 0 < y v) (h1 : S w) (h2 : S w') (c1 : D (al w) v ≤ f) (c2 : D (al w') v ≤ f) : w = w' := by
  have key : ∀ w w', S w → S w' → D (al w) v ≤ f → D (al w') v ≤ f → ¬ r w < r w' := by
    intro w w' h1 h2 c1 c2 hlt
    obtain ⟨hw, yw, nw⟩ := G.s1 w h1
    obtain ⟨hw', yw', _⟩ := G.s1 w' h2
    have n1 : ¬ D (al w') w ≤ f := nw w' h2 hlt
    have n2 : ¬ D (al w) w' ≤ f := fun hd => by have := G.late (G.an w hw) hw' (G.at' w hw) hlt hd; omega
    have hvw : r v ≤ r w := by
      by_cases h : r v ≤ r w
      · exact h
      · have := G.late (G.an w hw) hv (G.at' w hw) (show r w < r v by omega) c1
        omega
    by_cases hd : D 0 (al w') ≤ D 0 (al w)
    · exact n1 (T.gam (G.an w hw) (G.an w' hw') hv hw c1 (G.ac w hw) c2 (G.dp v w hv hw hvw) hd)
    · exact n2 (T.gam (G.an w' hw') (G.an w hw) hv hw' c2 (G.ac w' hw') c1 (G.dp v w' hv hw' (by omega)) (by omega))
  have k1 := key w w' h1 h2 c1 c2
  have k2 := key w' w h2 h1 c2 c1
  exact G.inj w w' (G.s1 w h1).1 (G.s1 w' h2).1 (by omega)
theorem Gr.some (G : Gr n D f y s r al S) {v : Nat} (hv : v < n) (hy : 0 < y v) : ∃ w, S w ∧ r v ≤ r w ∧ D (al w) v ≤ f := by
  by_cases h : S v
  · exact ⟨v, h, Nat.le_refl _, G.ac v hv⟩
  · obtain ⟨w, h1, h2, h3⟩ := G.s2 v hv hy h
    exact ⟨w, h1, by omega, h3⟩
theorem last_of {n : Nat} {P : Nat → Prop} {r : Nat → Nat} : (∃ i, i < n ∧ P i) → ∃ t, t < n ∧ P t ∧ ∀ i, i < n → P i → r i ≤ r t := by
  induction n with
  | zero => rintro ⟨i, hi, _⟩; omega
  | succ n ih =>
    rintro ⟨i, hi, hp⟩
    by_cases hn : ∃ i, i < n ∧ P i
    · obtain ⟨t, ht, hpt, hm⟩ := ih hn
      by_cases hP : P n ∧ r t < r n
      · refine ⟨n, by omega, hP.1, fun j hj hpj => ?_⟩
        by_cases e : j = n
        · rw [e]; exact Nat.le_refl _
        · have := hm j (by omega) hpj
          omega
      · refine ⟨t, by omega, hpt, fun j hj hpj => ?_⟩
        by_cases e : j = n
        · subst e
          have : ¬ r t < r j := fun z => hP ⟨hpj, z⟩
          omega
        · exact hm j (by omega) hpj
    · have e : i = n := by
        by_cases e : i = n
        · exact e
        · exact absurd ⟨i, by omega, hp⟩ hn
      subst e
      refine ⟨i, by omega, hp, fun j hj hpj => ?_⟩
      by_cases e : j = i
      · rw [e]; exact Nat.le_refl _
      · exact absurd ⟨j, by omega, hpj⟩ hn
theorem Gr.covers (T : Tr n p l D) (G : Gr n D f y s r al S) {j : Nat} (hj : j < n) : ∃ w, S w ∧ D (al w) j ≤ f := by
  by_cases hy : 0 < y j
  · obtain ⟨w, h1, _, h3⟩ := G.some hj hy
    exact ⟨w, h1, h3⟩
  by_cases hcov : ∃ w, S w ∧ D (al w) j ≤ f
  · exact hcov
  exfalso
  have nc : ∀ w, S w → ¬ D (al w) j ≤ f := fun w h1 h2 => hcov ⟨w, h1, h2⟩
  have hu := G.an j hj
  have hd := G.ac j hj
  have ht := G.at' j hj
  have hp := G.sp (al j) hu
  have hpos : ∃ i, i < n ∧ (r i ≤ r j ∧ D (al j) i ≤ f ∧ 0 < y i) := by
    obtain ⟨i, hi, hf⟩ := sm_pos (show 0 < sm (fun x => if r x ≤ r j then (if D (al j) x ≤ f then y x else 0) else 0) n by rw [ht]; exact hp)
    refine ⟨i, hi, ?_⟩
    by_cases e1 : r i ≤ r j
    · by_cases e2 : D (al j) i ≤ f
      · simp only [if_pos e1, if_pos e2] at hf
        exact ⟨e1, e2, hf⟩
      · simp only [if_pos e1, if_neg e2] at hf
        omega
    · simp only [if_neg e1] at hf
      omega
  obtain ⟨t, htn, ⟨t1, t2, t3⟩, tm⟩ := last_of (r := r) hpos
  obtain ⟨k, hk, hkr, hkc⟩ := G.some htn t3
  obtain ⟨kn, ky, _⟩ := G.s1 k hk
  have hcn := G.an k kn
  have ndc : ¬ D 0 (al k) ≤ D 0 (al j) := fun z => nc k hk (T.gam hu hcn htn hj t2 hd hkc (G.dp t j htn hj t1) z)
  have huk : D (al j) k ≤ f := T.gam hcn hu htn kn hkc (G.ac k kn) t2 (G.dp t k htn kn hkr) (by omega)
  have hkj : r k ≤ r j := by
    by_cases h : r k ≤ r j
    · exact h
    · have := G.late (v := j) hu kn ht (by omega) huk
      omega
  have hkt := tm k kn ⟨hkj, huk, ky⟩
  have ekt : k = t := G.inj k t kn htn (by omega)
  subst ekt
  refine ndc (G.am k (al j) kn hu huk ?_)
  rw [← ht]
  refine sm_congr fun x hx => ?_
  by_cases e1 : r x ≤ r k
  · rw [if_pos e1, if_pos (show r x ≤ r j by omega)]
  · rw [if_neg e1]
    by_cases e2 : r x ≤ r j
    · rw [if_pos e2]
      by_cases e3 : D (al j) x ≤ f
      · rw [if_pos e3]
        by_cases e4 : 0 < y x
        · have := tm x hx ⟨e2, e3, e4⟩
          omega
        · have := G.yn x hx
          omega
      · rw [if_neg e3]
    · rw [if_neg e2]
theorem Gr.same (T : Tr n p l D) (G : Gr n D f y s r al S) (dS : Nat → Bool) (hS : ∀ v, dS v = true ↔ S v) : sm (fun w => if dS w = true then s (al w) else 0) n = sm y n := by
  have h1 : ∀ w, w < n → dS w = true → s (al w) = sm (fun v => if D (al w) v ≤ f then y v else 0) n := by
    intro w hw hs
    have a := G.fe (al w) (G.an w hw)
    have b := G.at' w hw
    have c : sm (fun x => if r x ≤ r w then (if D (al w) x ≤ f then y x else 0) else 0) n ≤ sm (fun v => if D (al w) v ≤ f then y v else 0) n := sm_le fun i hi => by
      by_cases e : r i ≤ r w
      · rw [if_pos e]; exact Int.le_refl _
      · rw [if_neg e]
        by_cases e2 : D (al w) i ≤ f
        · rw [if_pos e2]; exact G.yn i hi
        · rw [if_neg e2]; exact Int.le_refl _
    omega
  have h2 : sm (fun w => if dS w = true then s (al w) else 0) n = sm (fun v => sm (fun w => if dS w = true then (if D (al w) v ≤ f then y v else 0) else 0) n) n := by
    rw [← sm_swap]
    refine sm_congr fun w hw => ?_
    by_cases e : dS w = true
    · simp only [if_pos e]; exact h1 w hw e
    · simp only [if_neg e]; exact (sm_zero fun _ _ => rfl).symm
  rw [h2]
  refine sm_congr fun v hv => ?_
  by_cases hy : 0 < y v
  · obtain ⟨w, hw, _, hc⟩ := G.some hv hy
    rw [sm_one (a := w) (G.s1 w hw).1, if_pos ((hS w).mpr hw), if_pos hc]
    intro i hi hne
    by_cases e : dS i = true
    · rw [if_pos e]
      by_cases e2 : D (al i) v ≤ f
      · exact absurd (G.alone T hv hy ((hS i).mp e) hw e2 hc) hne
      · rw [if_neg e2]
    · rw [if_neg e]
  · have : y v = 0 := by have := G.yn v hv; omega
    rw [this]
    refine sm_zero fun w hw => ?_
    by_cases e : dS w = true
    · rw [if_pos e]
      by_cases e2 : D (al w) v ≤ f
      · rw [if_pos e2]
      · rw [if_neg e2]
    · rw [if_neg e]
end
structure GI (n : Nat) (F : Nat → Nat → Int) (f : Int) (s left y : Nat → Int) (S : Nat → Prop) : Prop where
  eq : ∀ u, u < n → left u = s u - sm (fun v => if F u v ≤ f then y v else 0) n
  nn : ∀ u, u < n → 0 ≤ left u
  yn : ∀ v, v < n → 0 ≤ y v
  un : ∀ v, v < n → ¬ S v → y v = 0
  ti : ∀ v, v < n → S v → ∃ u, u < n ∧ F v u ≤ f ∧ left u = 0
section
variable {n : Nat} {F : Nat → Nat → Int} {f : Int} {s left y : Nat → Int} {S : Nat → Prop}
theorem GI.start (hs : ∀ u, u < n → 0 ≤ s u) : GI n F f s s (fun _ => 0) (fun _ => False) where
  eq := fun u hu => by
    rw [sm_zero fun i _ => by split <;> rfl]
    omega
  nn := hs
  yn := fun _ _ => Int.le_refl _
  un := fun _ _ _ => rfl
  ti := fun _ _ h => h.elim
theorem paid_put {u v : Nat} {m : Int} (hv : v < n) (h0 : y v = 0) : sm (fun x => if F u x ≤ f then (if x = v then m else y x) else 0) n = sm (fun x => if F u x ≤ f then y x else 0) n + (if F u v ≤ f then m else 0) := by
  have e : (if F u v ≤ f then m else 0) = sm (fun x => if x = v then (if F u v ≤ f then m else 0) else 0) n := by rw [sm_one (a := v) hv (fun i _ h => if_neg h), if_pos rfl]
  rw [e, ← sm_add]
  refine sm_congr fun i hi => ?_
  by_cases h : i = v
  · subst h
    by_cases g : F u i ≤ f
    · simp [g, h0]
    · simp [g]
  · simp only [if_neg h]
    by_cases g : F u i ≤ f
    · simp [g]
    · simp [g]
theorem GI.step (G : GI n F f s left y S) (sy : ∀ a b, a < n → b < n → F a b = F b a) {v : Nat} {m : Int} (hv : v < n) (hS : ¬ S v) (hm : ∃ u, u < n ∧ F v u ≤ f ∧ left u = m) (hle : ∀ u, u < n → F v u ≤ f → m ≤ left u) :
    GI n F f s (fun u => if F v u ≤ f then left u - m else left u) (fun x => if x = v then m else y x) (fun x => S x ∨ x = v) where
  eq := fun u hu => by
    have h := G.eq u hu
    have e := paid_put (F := F) (f := f) (u := u) (m := m) hv (G.un v hv hS)
    show (if F v u ≤ f then left u - m else left u) = _
    rw [e, sy v u hv hu]
    by_cases g : F u v ≤ f
    · rw [if_pos g, if_pos g]; omega
    · rw [if_neg g, if_neg g]; omega
  nn := fun u hu => by
    have h := G.nn u hu
    show 0 ≤ (if F v u ≤ f then left u - m else left u)
    by_cases g : F v u ≤ f
    · rw [if_pos g]; have := hle u hu g; omega
    · rw [if_neg g]; exact h
  yn := fun x hx => by
    show 0 ≤ (if x = v then m else y x)
    by_cases g : x = v
    · rw [if_pos g]
      obtain ⟨u, hu, _, e⟩ := hm
      have := G.nn u hu
      omega
    · rw [if_neg g]; exact G.yn x hx
  un := fun x hx h => by
    show (if x = v then m else y x) = 0
    rw [if_neg (fun g => h (.inr g))]
    exact G.un x hx fun z => h (.inl z)
  ti := fun x hx h => by
    have m0 : 0 ≤ m := by
      obtain ⟨u, hu, _, e⟩ := hm
      have := G.nn u hu
      omega
    rcases h with h | h
    · obtain ⟨u, hu, hd, e⟩ := G.ti x hx h
      refine ⟨u, hu, hd, ?_⟩
      show (if F v u ≤ f then left u - m else left u) = 0
      by_cases g : F v u ≤ f
      · rw [if_pos g]; have := hle u hu g; omega
      · rw [if_neg g]; exact e
    · subst h
      obtain ⟨u, hu, hd, e⟩ := hm
      refine ⟨u, hu, hd, ?_⟩
      show (if F x u ≤ f then left u - m else left u) = 0
      rw [if_pos hd]; omega
theorem GI.done (G : GI n F f s left y S) (h : ∀ v, v < n → S v) : (∀ u, u < n → sm (fun v => if F u v ≤ f then y v else 0) n ≤ s u) ∧ ∀ v, v < n → ∃ u, u < n ∧ F v u ≤ f ∧ sm (fun v => if F u v ≤ f then y v else 0) n = s u :=
  ⟨fun u hu => by have := G.eq u hu; have := G.nn u hu; omega, fun v hv => by
    obtain ⟨u, hu, hd, e⟩ := G.ti v hv (h v hv)
    have := G.eq u hu
    exact ⟨u, hu, hd, by omega⟩⟩
end
section
variable {n : Nat} {p : Nat → Nat} {l : Nat → Int} {D : Nat → Nat → Int} {f : Int} {y s : Nat → Int} {r al : Nat → Nat} {S : Nat → Prop}
theorem Gr.ainj (T : Tr n p l D) (G : Gr n D f y s r al S) {w w' : Nat} (h1 : S w) (h2 : S w') (e : al w = al w') : w = w' := by
  obtain ⟨hw, yw, _⟩ := G.s1 w h1
  exact G.alone T hw yw h1 h2 (G.ac w hw) (by rw [← e]; exact G.ac w hw)
theorem Gr.asSet (T : Tr n p l D) (G : Gr n D f y s r al S) (dS C : Nat → Bool) (hS : ∀ v, dS v = true ↔ S v) (hC : ∀ u, u < n → (C u = true ↔ ∃ w, S w ∧ al w = u)) :
    (∀ v, v < n → ∃ u, u < n ∧ C u = true ∧ D u v ≤ f) ∧ sm (fun u => if C u = true then s u else 0) n = sm y n := by
  refine ⟨fun v hv => ?_, ?_⟩
  · obtain ⟨w, hw, hd⟩ := G.covers T hv
    have hn := G.an w (G.s1 w hw).1
    exact ⟨al w, hn, (hC _ hn).mpr ⟨w, hw, rfl⟩, hd⟩
  · rw [← G.same T dS hS]
    have e1 : sm (fun w => if dS w = true then s (al w) else 0) n = sm (fun w => sm (fun u => if dS w = true then (if al w = u then s u else 0) else 0) n) n := sm_congr fun w hw => by
      by_cases h : dS w = true
      · simp only [if_pos h]
        rw [sm_one (a := al w) (G.an w hw) (fun i _ hi => if_neg (Ne.symm hi)), if_pos rfl]
      · simp only [if_neg h]
        exact (sm_zero fun _ _ => rfl).symm
    rw [e1, sm_swap]
    refine sm_congr fun u hu => ?_
    by_cases h : C u = true
    · rw [if_pos h]
      obtain ⟨w, hw, e⟩ := (hC u hu).mp h
      rw [sm_one (a := w) (G.s1 w hw).1, if_pos ((hS w).mpr hw), if_pos e]
      intro i hi hne
      by_cases g : dS i = true
      · rw [if_pos g, if_neg]
        intro e2
        exact hne (G.ainj T ((hS i).mp g) hw (e2.trans e.symm))
      · rw [if_neg g]
    · rw [if_neg h]
      refine (sm_zero fun w hw => ?_).symm
      by_cases g : dS w = true
      · rw [if_pos g, if_neg]
        intro e
        exact h ((hC u hu).mpr ⟨w, (hS w).mp g, e⟩)
      · rw [if_neg g]
end
theorem least_of {n : Nat} {P : Nat → Prop} {g : Nat → Int} : (∃ i, i < n ∧ P i) → ∃ t, t < n ∧ P t ∧ ∀ i, i < n → P i → g t ≤ g i := by
  induction n with
  | zero => rintro ⟨i, hi, _⟩; omega
  | succ n ih =>
    rintro ⟨i, hi, hp⟩
    by_cases hn : ∃ i, i < n ∧ P i
    · obtain ⟨t, ht, hpt, hm⟩ := ih hn
      by_cases hP : P n ∧ g n < g t
      · refine ⟨n, by omega, hP.1, fun j hj hpj => ?_⟩
        by_cases e : j = n
        · rw [e]; exact Int.le_refl _
        · have := hm j (by omega) hpj
          omega
      · refine ⟨t, by omega, hpt, fun j hj hpj => ?_⟩
        by_cases e : j = n
        · subst e
          have : ¬ g j < g t := fun z => hP ⟨hpj, z⟩
          omega
        · exact hm j (by omega) hpj
    · have e : i = n := by
        by_cases e : i = n
        · exact e
        · exact absurd ⟨i, by omega, hp⟩ hn
      subst e
      refine ⟨i, by omega, hp, fun j hj hpj => ?_⟩
      by_cases e : j = i
      · rw [e]; exact Int.le_refl _
      · exact absurd ⟨j, by omega, hpj⟩ hn
theorem pick_ex {n : Nat} {D : Nat → Nat → Int} {f : Int} {y : Nat → Int} {r al : Nat → Nat} (hr : ∀ v, v < n → r v < n) : ∀ k, ∃ S : Nat → Prop, (∀ v, S v → v < n ∧ 0 < y v ∧ n ≤ r v + k ∧ ∀ w, S w → r v < r w → ¬ D (al w) v ≤ f) ∧ ∀ v, v < n → 0 < y v → n ≤ r v + k → ¬ S v → ∃ w, S w ∧ r v < r w ∧ D (al w) v ≤ f := by
  intro k
  induction k with
  | zero => exact ⟨fun _ => False, fun v h => h.elim, fun v hv hy hk _ => by have := hr v hv; omega⟩
  | succ k ih =>
    obtain ⟨S, h1, h2⟩ := ih
    refine ⟨fun v => S v ∨ (v < n ∧ 0 < y v ∧ r v + k + 1 = n ∧ ∀ w, S w → ¬ D (al w) v ≤ f), fun v hv => ?_, fun v hv hy hk hn => ?_⟩
    · rcases hv with hv | ⟨a, b, c, d⟩
      · obtain ⟨a, b, c, d⟩ := h1 v hv
        refine ⟨a, b, by omega, fun w hw hlt => ?_⟩
        rcases hw with hw | ⟨_, _, c', _⟩
        · exact d w hw hlt
        · omega
      · refine ⟨a, b, by omega, fun w hw hlt => ?_⟩
        rcases hw with hw | ⟨_, _, c', _⟩
        · exact d w hw
        · omega
    · by_cases hk2 : n ≤ r v + k
      · obtain ⟨w, a, b, c⟩ := h2 v hv hy hk2 fun z => hn (.inl z)
        exact ⟨w, .inl a, b, c⟩
      · by_cases hex : ∃ w, S w ∧ D (al w) v ≤ f
        · obtain ⟨w, a, b⟩ := hex
          have := (h1 w a).2.2.1
          exact ⟨w, .inl a, by omega, b⟩
        · exact absurd (.inr ⟨hv, hy, by omega, fun w hw hd => hex ⟨w, hw, hd⟩⟩) hn
theorem greedy_opt {n : Nat} {p : Nat → Nat} {l : Nat → Int} {D : Nat → Nat → Int} {f : Int} {y s : Nat → Int} {r : Nat → Nat} (T : Tr n p l D) (yn : ∀ v, v < n → 0 ≤ y v) (sp : ∀ u, u < n → 0 < s u) (hr : ∀ v, v < n → r v < n)
    (inj : ∀ v w, v < n → w < n → r v = r w → v = w) (dp : ∀ v w, v < n → w < n → r v ≤ r w → D 0 w ≤ D 0 v) (fe : ∀ u, u < n → sm (fun v => if D u v ≤ f then y v else 0) n ≤ s u)
    (ti : ∀ v, v < n → ∃ u, u < n ∧ D u v ≤ f ∧ sm (fun x => if r x ≤ r v then (if D u x ≤ f then y x else 0) else 0) n = s u) :
    ∃ C : Nat → Bool, (∀ v, v < n → ∃ u, u < n ∧ C u = true ∧ D u v ≤ f) ∧ sm (fun u => if C u = true then s u else 0) n = sm y n := by
  have ha : ∀ v, ∃ u, v < n → u < n ∧ (D u v ≤ f ∧ sm (fun x => if r x ≤ r v then (if D u x ≤ f then y x else 0) else 0) n = s u) ∧ ∀ i, i < n → (D i v ≤ f ∧ sm (fun x => if r x ≤ r v then (if D i x ≤ f then y x else 0) else 0) n = s i) → D 0 u ≤ D 0 i := fun v => by
    by_cases hv : v < n
    · obtain ⟨u, h1, h2, h3⟩ := least_of (g := fun i => D 0 i) (ti v hv)
      exact ⟨u, fun _ => ⟨h1, h2, h3⟩⟩
    · exact ⟨0, fun z => absurd z hv⟩
  obtain ⟨al, hal⟩ := Classical.axiomOfChoice ha
  obtain ⟨S, s1, s2⟩ := pick_ex (D := D) (f := f) (y := y) (al := al) hr n
  have G : Gr n D f y s r al S := ⟨yn, sp, inj, dp, fe, fun v hv => (hal v hv).1, fun v hv => (hal v hv).2.1.1, fun v hv => (hal v hv).2.1.2, fun v u hv hu hd ht => (hal v hv).2.2 u hu ⟨hd, ht⟩,
    fun v h => ⟨(s1 v h).1, (s1 v h).2.1, (s1 v h).2.2.2⟩, fun v hv hy h => s2 v hv hy (by omega) h⟩
  refine ⟨fun u => @decide (∃ w, S w ∧ al w = u) (Classical.propDecidable _), ?_⟩
  exact G.asSet T (fun v => @decide (S v) (Classical.propDecidable _)) _ (fun v => by simp) (fun u _ => by simp)
structure GT (n : Nat) (F : Nat → Nat → Int) (f : Int) (s left y : Nat → Int) (r : Nat → Nat) (i : Nat) : Prop where
  gi : GI n F f s left y (fun x => r x < i)
  ti : ∀ v, v < n → r v < i → ∃ u, u < n ∧ F u v ≤ f ∧ sm (fun x => if r x ≤ r v then (if F u x ≤ f then y x else 0) else 0) n = s u
section
variable {n : Nat} {F : Nat → Nat → Int} {f : Int} {s left y : Nat → Int} {r : Nat → Nat} {i : Nat}
theorem GT.start (hs : ∀ u, u < n → 0 ≤ s u) : GT n F f s s (fun _ => 0) r 0 where
  gi := by
    have h := GI.start (F := F) (f := f) hs
    exact ⟨h.eq, h.nn, h.yn, fun v hv _ => rfl, fun v _ h => by omega⟩
  ti := fun v _ h => by omega
theorem GT.step (G : GT n F f s left y r i) (sy : ∀ a b, a < n → b < n → F a b = F b a) (inj : ∀ v w, v < n → w < n → r v = r w → v = w) {v : Nat} {m : Int} (hv : v < n) (hr : r v = i) (hm : ∃ u, u < n ∧ F v u ≤ f ∧ left u = m) (hle : ∀ u, u < n → F v u ≤ f → m ≤ left u) :
    GT n F f s (fun u => if F v u ≤ f then left u - m else left u) (fun x => if x = v then m else y x) r (i + 1) := by
  have g := G.gi.step sy hv (by omega) hm hle
  have g' : GI n F f s (fun u => if F v u ≤ f then left u - m else left u) (fun x => if x = v then m else y x) (fun x => r x < i + 1) := ⟨g.eq, g.nn, g.yn, fun x hx h => g.un x hx (fun z => by
      rcases z with z | z
      · omega
      · rw [z] at h; omega), fun x hx h => g.ti x hx (by
      by_cases e : r x < i
      · exact .inl e
      · exact .inr (inj x v hx hv (by omega)))⟩
  refine ⟨g', fun x hx h => ?_⟩
  by_cases e : r x < i
  · obtain ⟨u, hu, hd, hs⟩ := G.ti x hx e
    refine ⟨u, hu, hd, ?_⟩
    rw [← hs]
    refine sm_congr fun z hz => ?_
    by_cases ez : r z ≤ r x
    · rw [if_pos ez, if_pos ez, if_neg (show z ≠ v by intro q; rw [q] at ez; omega)]
    · rw [if_neg ez, if_neg ez]
  · have exv : x = v := inj x v hx hv (by omega)
    subst exv
    obtain ⟨u, hu, hd, e0⟩ := hm
    refine ⟨u, hu, by rw [sy u x hu hx]; exact hd, ?_⟩
    have q := g'.eq u hu
    have q2 : (if F x u ≤ f then left u - m else left u) = 0 := by rw [if_pos hd]; omega
    have q3 : sm (fun z => if F u z ≤ f then (if z = x then m else y z) else 0) n = s u := by
      have : (if F x u ≤ f then left u - m else left u) = s u - sm (fun z => if F u z ≤ f then (if z = x then m else y z) else 0) n := q
      omega
    rw [← q3]
    refine sm_congr fun z hz => ?_
    by_cases ez : r z ≤ r x
    · rw [if_pos ez]
    · rw [if_neg ez]
      have := g'.un z hz (by omega)
      have h0 : (if z = x then m else y z) = 0 := this
      rw [h0]
      by_cases g1 : F u z ≤ f
      · rw [if_pos g1]
      · rw [if_neg g1]
end
theorem GT.congr {n : Nat} {F : Nat → Nat → Int} {f : Int} {s left y left' y' : Nat → Int} {r : Nat → Nat} {i : Nat} (G : GT n F f s left y r i) (hl : ∀ u, u < n → left' u = left u) (hy : ∀ v, v < n → y' v = y v) : GT n F f s left' y' r i where
  gi := ⟨fun u hu => by
      rw [hl u hu, G.gi.eq u hu]
      congr 1
      exact sm_congr fun v hv => by rw [hy v hv], fun u hu => by rw [hl u hu]; exact G.gi.nn u hu, fun v hv => by rw [hy v hv]; exact G.gi.yn v hv, fun v hv h => by rw [hy v hv]; exact G.gi.un v hv h, fun v hv h => by
      obtain ⟨u, hu, hd, e⟩ := G.gi.ti v hv h
      exact ⟨u, hu, hd, by rw [hl u hu]; exact e⟩⟩
  ti := fun v hv h => by
    obtain ⟨u, hu, hd, e⟩ := G.ti v hv h
    refine ⟨u, hu, hd, ?_⟩
    rw [← e]
    exact sm_congr fun x hx => by rw [hy x hx]
end Mm
set_option Elab.async false
set_option linter.all false
set_option maxHeartbeats 0
namespace Mm
section
variable {n : Nat} {p : Nat → Nat} {l : Nat → Int} {D : Nat → Nat → Int} {f : Int} {y s : Nat → Int} {r : Nat → Nat}
theorem late_of (yn : ∀ v, v < n → 0 ≤ y v) (fe : ∀ u, u < n → sm (fun v => if D u v ≤ f then y v else 0) n ≤ s u) {u v x : Nat} (hu : u < n) (hx : x < n) (ht : sm (fun x => if r x ≤ r v then (if D u x ≤ f then y x else 0) else 0) n = s u) (hr : r v < r x) (hd : D u x ≤ f) : y x ≤ 0 := by
  have h1 := fe u hu
  have h2 : sm (fun x => if r x ≤ r v then (if D u x ≤ f then y x else 0) else 0) n + y x ≤ sm (fun v => if D u v ≤ f then y v else 0) n := by
    have e : y x = sm (fun i => if i = x then y x else 0) n := by rw [sm_one (a := x) hx (fun i _ e => if_neg e), if_pos rfl]
    rw [e, ← sm_add]
    refine sm_le fun i hi => ?_
    by_cases ex : i = x
    · subst ex
      simp only [if_neg (show ¬ r i ≤ r v by omega), if_pos hd, ↓reduceIte]
      omega
    · simp only [if_neg ex]
      by_cases e1 : r i ≤ r v
      · simp only [if_pos e1]; omega
      · simp only [if_neg e1]
        by_cases e2 : D u i ≤ f
        · simp only [if_pos e2]; have := yn i hi; omega
        · simp only [if_neg e2]; omega
  omega
theorem full_of (yn : ∀ v, v < n → 0 ≤ y v) (fe : ∀ u, u < n → sm (fun v => if D u v ≤ f then y v else 0) n ≤ s u) {u v : Nat} (hu : u < n) (ht : sm (fun x => if r x ≤ r v then (if D u x ≤ f then y x else 0) else 0) n = s u) : sm (fun v => if D u v ≤ f then y v else 0) n = s u := by
  have h1 := fe u hu
  have c : sm (fun x => if r x ≤ r v then (if D u x ≤ f then y x else 0) else 0) n ≤ sm (fun v => if D u v ≤ f then y v else 0) n := sm_le fun i hi => by
    by_cases e : r i ≤ r v
    · rw [if_pos e]; exact Int.le_refl _
    · rw [if_neg e]
      by_cases e2 : D u i ≤ f
      · rw [if_pos e2]; exact yn i hi
      · rw [if_neg e2]; exact Int.le_refl _
  omega
theorem fwd_cover (T : Tr n p l D) (yn : ∀ v, v < n → 0 ≤ y v) (dp : ∀ v w, v < n → w < n → r v ≤ r w → D 0 w ≤ D 0 v) (fe : ∀ u, u < n → sm (fun v => if D u v ≤ f then y v else 0) n ≤ s u)
    (ti : ∀ v, v < n → ∃ u, u < n ∧ D u v ≤ f ∧ sm (fun x => if r x ≤ r v then (if D u x ≤ f then y x else 0) else 0) n = s u)
    (C : Nat → Bool) (c1 : ∀ u, u < n → C u = true → sm (fun v => if D u v ≤ f then y v else 0) n = s u)
    (c2 : ∀ u u' h, u < n → u' < n → h < n → C u = true → C u' = true → 0 < y h → D u h ≤ f → D u' h ≤ f → u = u')
    (c3 : ∀ u, u < n → sm (fun v => if D u v ≤ f then y v else 0) n = s u → C u = false → ∃ u' h, u' < n ∧ h < n ∧ C u' = true ∧ D 0 u' ≤ D 0 u ∧ 0 < y h ∧ D u h ≤ f ∧ D u' h ≤ f) :
    (∀ v, v < n → ∃ u, u < n ∧ C u = true ∧ D u v ≤ f) ∧ sm (fun u => if C u = true then s u else 0) n = sm y n := by
  have cov : ∀ v, v < n → ∃ u, u < n ∧ C u = true ∧ D u v ≤ f := fun v hv => by
    obtain ⟨u, hu, hd, ht⟩ := ti v hv
    cases hc : C u with
    | true => exact ⟨u, hu, hc, hd⟩
    | false =>
      obtain ⟨u', h, hu', hh, hc', hz, hy, d1, d2⟩ := c3 u hu (full_of yn fe hu ht) hc
      refine ⟨u', hu', hc', T.gam hu hu' hh hv d1 hd d2 (dp h v hh hv ?_) hz⟩
      by_cases hr : r h ≤ r v
      · exact hr
      · have := late_of yn fe hu hh ht (by omega) d1
        omega
  refine ⟨cov, ?_⟩
  have e1 : sm (fun u => if C u = true then s u else 0) n = sm (fun u => sm (fun v => if C u = true then (if D u v ≤ f then y v else 0) else 0) n) n := sm_congr fun u hu => by
    by_cases h : C u = true
    · simp only [if_pos h]
      exact (c1 u hu h).symm
    · simp only [if_neg h]
      exact (sm_zero fun _ _ => rfl).symm
  rw [e1, sm_swap]
  refine sm_congr fun v hv => ?_
  by_cases hy : 0 < y v
  · obtain ⟨u, hu, hc, hd⟩ := cov v hv
    rw [sm_one (a := u) hu, if_pos hc, if_pos hd]
    intro i hi hne
    by_cases g : C i = true
    · rw [if_pos g, if_neg]
      intro e2
      exact hne (c2 i u v hi hu hv g hc hy e2 hd)
    · rw [if_neg g]
  · have e : y v = 0 := by have := yn v hv; omega
    rw [e]
    refine sm_zero fun u hu => ?_
    by_cases g : C u = true
    · rw [if_pos g]
      by_cases e2 : D u v ≤ f
      · rw [if_pos e2]
      · rw [if_neg e2]
    · rw [if_neg g]
end
section
variable {n : Nat} {F D : Nat → Nat → Int} {f : Int} {s left y : Nat → Int} {r : Nat → Nat} {i : Nat}
theorem GT.congrF (G : GT n F f s left y r i) (h : ∀ a b, a < n → b < n → F a b = D a b) : GT n D f s left y r i where
  gi := ⟨fun u hu => by
      rw [G.gi.eq u hu]
      congr 1
      exact sm_congr fun v hv => by rw [h u v hu hv], G.gi.nn, G.gi.yn, G.gi.un, fun v hv hS => by
      obtain ⟨u, hu, hd, e⟩ := G.gi.ti v hv hS
      exact ⟨u, hu, by rw [← h v u hv hu]; exact hd, e⟩⟩
  ti := fun v hv hr => by
    obtain ⟨u, hu, hd, e⟩ := G.ti v hv hr
    refine ⟨u, hu, by rw [← h u v hu hv]; exact hd, ?_⟩
    rw [← e]
    exact sm_congr fun x hx => by rw [h u x hu hx]
end
theorem sum_list (s : Nat → Int) (n : Nat) : ∀ cs : List Nat, cs.Nodup → (∀ u ∈ cs, u < n) → (cs.map s).sum = sm (fun u => if decide (u ∈ cs) = true then s u else 0) n
  | [], _, _ => by rw [sm_zero (fun i _ => by simp)]; rfl
  | c :: cs, nd, hc => by
    obtain ⟨h1, h2⟩ := List.nodup_cons.mp nd
    rw [List.map_cons, List.sum_cons, sum_list s n cs h2 fun u hu => hc u (List.mem_cons_of_mem _ hu)]
    have e : s c = sm (fun u => if u = c then s c else 0) n := by rw [sm_one (a := c) (hc c List.mem_cons_self) (fun i _ e => if_neg e), if_pos rfl]
    rw [e, ← sm_add]
    refine sm_congr fun u _ => ?_
    by_cases g : u = c
    · subst g
      simp [h1]
    · simp [g]
theorem sum_near (y : Nat → Int) (D : Nat → Nat → Int) (f : Int) (u : Nat) : ∀ n : Nat, (∀ v, v < n → 0 ≤ y v) → ((((List.range n).filter fun v => decide (D u v ≤ f)).filter fun v => decide (0 < y v)).map y).sum = sm (fun v => if D u v ≤ f then y v else 0) n
  | 0, _ => rfl
  | n + 1, h => by
    show _ = sm (fun v => if D u v ≤ f then y v else 0) n + (if D u n ≤ f then y n else 0)
    rw [← sum_near y D f u n fun v hv => h v (by omega), List.range_succ, List.filter_append, List.filter_append, List.map_append, List.sum_append]
    congr 1
    by_cases g : D u n ≤ f
    · by_cases k : 0 < y n
      · simp [g, k]
      · have := h n (by omega)
        have e : y n = 0 := by omega
        simp [g, e]
    · simp [g]
end Mm
set_option Elab.async false
set_option linter.all false
set_option maxRecDepth 100000
set_option maxHeartbeats 0
namespace L2
open PySem PySem.Spec PyProof.Rows
theorem dist_ex {ps : List (Option Nat)} {ls : List Int} {n : Nat} (T : TreeP ps ls n) : ∀ k, k ≤ n → ∃ F : Nat → Nat → Int, (∀ i, i < k → F i i = 0) ∧ ∀ i j m z, j < i → i < k → ps[i]? = some (some m) → ls[i]? = some z → F i j = F m j + z ∧ F j i = F m j + z := by
  intro k
  induction k with
  | zero => exact fun _ => ⟨fun _ _ => 0, fun i h => by omega, fun i j m z h1 h2 => by omega⟩
  | succ k ih =>
    intro hk
    obtain ⟨F, h0, h1⟩ := ih (by omega)
    by_cases hk0 : k = 0
    · subst hk0
      exact ⟨fun _ _ => 0, fun i h => rfl, fun i j m z a b => by omega⟩
    · obtain ⟨mk, hmk, hmlt⟩ := T.pj k (by omega) (by omega)
      have hlz : ls[k]? = some (ls[k]'(by rw [T.ll]; omega)) := List.getElem?_eq_getElem _
      generalize ls[k]'(by rw [T.ll]; omega) = zk at hlz
      refine ⟨fun i j => if i = k then (if j = k then 0 else F mk j + zk) else (if j = k then F mk i + zk else F i j), fun i hi => ?_, fun i j m z hji hi hm hz => ?_⟩
      · by_cases h : i = k
        · simp [h]
        · simp only [if_neg h]; exact h0 i (by omega)
      · by_cases h : i = k
        · subst h
          rw [hmk] at hm
          rw [hlz] at hz
          cases hm
          cases hz
          have hj : j ≠ i := by omega
          have hm' : mk ≠ i := by omega
          simp [hj, hm']
        · have hj : j ≠ k := by omega
          have hm' : m ≠ k := by
            intro e
            obtain ⟨q, e1, e2⟩ := T.pj i (by omega) (by omega)
            rw [hm] at e1
            cases e1
            omega
          simp only [if_neg h, if_neg hj, if_neg hm']
          exact h1 i j m z hji (by omega) hm hz
theorem rowV_snoc (F : Nat → Nat → Int) (n i : Nat) : rowV F (n + 1) i = rowV F n i ++ [.int (F i n)] := by unfold rowV; rw [List.range_succ, List.map_append]; rfl
theorem rowV_item {F : Nat → Nat → Int} {n i j : Nat} {x : V} (h : (rowV F n i)[j]? = some x) : x = .int (F i j) := by
  unfold rowV at h
  rw [List.getElem?_map] at h
  obtain ⟨q, hq, rfl⟩ := Option.map_eq_some_iff.mp h
  have hl := (List.getElem?_eq_some_iff.mp hq)
  obtain ⟨h1, h2⟩ := hl
  rw [List.getElem_range] at h2
  rw [h2]
structure SI (H0 H : Hp) (r : Addr) (rows : List V) (ad : Nat → Addr) (F : Nat → Nat → Int) (i w : Nat) : Prop where
  same : Same H0 H
  hr : H r = some (.lst rows)
  rl : rows.length = i
  row : ∀ a, a < i → rows[a]? = some (.ref (ad a)) ∧ ad a ≠ r ∧ H0 (ad a) = none
  inj : ∀ a b, a < i → b < i → ad a = ad b → a = b
  lst : ∀ a, a < i → H (ad a) = some (.lst (rowV F w a))
theorem wp_rng2 {t : TA} {σ : L2.St} {H : Hp} {R : It → Hp → Prop} (h : t σ H fun vs H1 => ∃ i j : Int, vs = [.int i, .int j] ∧ (-(2 ^ 62) ≤ i ∧ i < 2 ^ 62 ∧ -(2 ^ 62) ≤ j ∧ j < 2 ^ 62) ∧ R (Itr i (j - i).toNat) H1) : iRng2 t σ H R := h
theorem IsDist.tr {F : Nat → Nat → Int} {ps : List (Option Nat)} {ls : List Int} {n : Nat} (h : IsDist F ps ls n) (T : TreeP ps ls n) (hl : ∀ (j : Nat) z, 0 < j → ls[j]? = some z → 0 ≤ z) : Mm.Tr n (fun i => match ps[i]? with | some (some m) => m | _ => 0) (fun i => ls.getD i 0) F where
  pl := fun i h0 hi => by
    obtain ⟨m, e, l⟩ := T.pj i h0 hi
    show (match ps[i]? with | some (some m) => m | _ => 0) < i
    rw [e]; exact l
  lp := fun i h0 hi => by
    have hil : i < ls.length := by rw [T.ll]; exact hi
    have e : ls[i]? = some ls[i] := List.getElem?_eq_getElem hil
    show 0 ≤ ls.getD i 0
    rw [List.getD_eq_getElem?_getD, e]
    exact hl i _ h0 e
  z := h.zero
  st := fun i j hji hi => by
    obtain ⟨m, e, l⟩ := T.pj i (by omega) hi
    have hil : i < ls.length := by rw [T.ll]; exact hi
    have e2 : ls[i]? = some ls[i] := List.getElem?_eq_getElem hil
    obtain ⟨a, b⟩ := h.step i j m _ hji hi e e2
    refine ⟨?_, by rw [a, b]⟩
    show F i j = F (match ps[i]? with | some (some m) => m | _ => 0) j + ls.getD i 0
    rw [e, List.getD_eq_getElem?_getD, e2]
    exact a
theorem sub_lookup {cl cells : List (Str × Addr)} (h : ∀ p ∈ cl, cells.lookup p.1 = some p.2) : ∀ y c, cl.lookup y = some c → cells.lookup y = some c := fun y c e => h (y, c) (PySem.mem_of_lookup e)
theorem sub1 {cells : List (Str × Addr)} {a : Str} {x : Addr} (h : cells.lookup a = some x) : ∀ y c, List.lookup y [(a, x)] = some c → cells.lookup y = some c := sub_lookup fun p hp => by rw [List.mem_singleton.mp hp]; exact h
theorem sub2 {cells : List (Str × Addr)} {a b : Str} {x z : Addr} (h : cells.lookup a = some x) (h2 : cells.lookup b = some z) : ∀ y c, List.lookup y [(a, x), (b, z)] = some c → cells.lookup y = some c := sub_lookup fun p hp => by
  rcases List.mem_cons.mp hp with e | e
  · rw [e]; exact h
  · rw [List.mem_singleton.mp e]; exact h2
end L2
set_option Elab.async false
set_option linter.all false
set_option maxRecDepth 100000
set_option maxHeartbeats 0
namespace L2
open PySem PySem.Spec PyProof.Rows
noncomputable def pairOf : Value → Int × Tok
  | .int i t => (i, t)
  | _ => (0, 0)
theorem vals_items : ∀ {ns : List Int} {us : List Value}, Vals (ns.map V.int) us → us.toArray = intItems (us.map pairOf).toArray ∧ (us.map pairOf).map (·.1) = ns
  | [], us, r => by
    cases r
    exact ⟨by simp [intItems], rfl⟩
  | n :: ns, us, r => by
    cases r with
    | @cons _ u _ us ru rr =>
      obtain ⟨t, rfl⟩ := ru
      obtain ⟨h1, h2⟩ := vals_items rr
      refine ⟨?_, by rw [List.map_cons, List.map_cons, h2]; rfl⟩
      have : us = (us.map pairOf).map fun p => Value.int p.1 p.2 := by
        have := congrArg Array.toList h1
        simpa [intItems] using this
      unfold intItems
      simp only [List.map_cons, List.map_toArray]
      rw [← this]
      rfl
theorem numAt_list {ns : List Int} {us : List Value} (h : (us.map pairOf).map (·.1) = ns) (i : Nat) : numAt (us.map pairOf).toArray i = ns.getD i 0 := by
  unfold numAt
  rw [← h, List.getD_eq_getElem?_getD, List.getElem?_map]
  simp
noncomputable def rMinL (K : PySem.W.Frag) : List V → Hp → VK → Prop := fun xs H Q => ∃ (p : Addr) (ns : List Int), xs = [.ref p] ∧ ns ≠ [] ∧ SqL K H p (ns.map V.int) ∧ ∀ m, m ∈ ns → (∀ x ∈ ns, m ≤ x) → Q (.int m) H
theorem call_minL {X : Cx} (hc : X.calm = true) : CallR X (.builtin "min") (rMinL X.K) := by
  intro pins s σ H xs us Q I r h
  obtain ⟨p, ns, rfl, hne, hq, q⟩ := h
  obtain ⟨u, rfl, rx⟩ := vals1 r
  cases rx
  obtain ⟨its, r', pl, hz⟩ := I.list hq
  obtain ⟨e1, e2⟩ := vals_items r'
  have hl := r'.length
  rw [List.length_map] at hl
  have hpos : 0 < ns.length := List.length_pos_iff.mpr hne
  have hL := pl.isList
  rw [e1] at hL
  have hsz : (its.map pairOf).toArray.size = ns.length := by rw [List.size_toArray, List.length_map, hl]
  refine min_intList (I.ok.hd hc) hL (by rw [hsz]; exact hpos) fun v h' tk hv hk => ?_
  rw [hsz] at hv
  obtain ⟨b1, b2⟩ := argBest_lt (numAt (its.map pairOf).toArray) (ns.length - 1)
  generalize argBest (fun i j => decide (numAt (its.map pairOf).toArray i < numAt (its.map pairOf).toArray j)) (ns.length - 1) = k at *
  obtain ⟨t, rfl⟩ := intItems_at hv
  rw [numAt_list e2] at *
  refine ⟨.int (ns.getD k 0), H, I.kept hk, ⟨_, rfl⟩, q _ ?_ fun x hx => ?_⟩
  · rw [List.getD_eq_getElem?_getD, List.getElem?_eq_getElem (by omega)]
    exact List.getElem_mem _
  · obtain ⟨j, hj, rfl⟩ := List.mem_iff_getElem.mp hx
    have := b2 j (by omega)
    rw [numAt_list e2] at this
    rw [List.getD_eq_getElem?_getD (l := ns) (i := j), List.getElem?_eq_getElem hj] at this
    exact this
theorem vals_of_ints : ∀ {ns : List Int} {us : List Value}, IntsAre us ns → Vals (ns.map V.int) us
  | _, _, .nil => .nil
  | _, _, .cons n t h => .cons ⟨t, rfl⟩ (vals_of_ints h)
theorem ints_of_vals : ∀ {ns : List Int} {us : List Value}, Vals (ns.map V.int) us → IntsAre us ns
  | [], us, r => by cases r; exact .nil
  | n :: ns, us, r => by
    cases r with
    | @cons _ u _ us ru rr =>
      obtain ⟨t, rfl⟩ := ru
      exact .cons n t (ints_of_vals rr)
noncomputable def rSortI (K : PySem.W.Frag) : List V → Hp → VK → Prop := fun xs H Q => ∃ (p : Addr) (ns : List Int), xs = [.ref p] ∧ ns.length < 64 ∧ SqL K H p (ns.map V.int) ∧ ∀ (l : Addr) (ns' : List Int), ns'.Perm ns → ns'.Pairwise (· ≤ ·) → H l = none → Q (.ref l) (upd H l (.lst (ns'.map V.int)))
theorem call_sortI {X : Cx} : CallR X (.builtin "sorted") (rSortI X.K) := by
  intro pins s σ H xs us Q I r h
  obtain ⟨p, ns, rfl, h64, hq, q⟩ := h
  obtain ⟨u, rfl, rx⟩ := vals1 r
  cases rx
  obtain ⟨its, r', pl, hz⟩ := I.list hq
  have hl := r'.length
  rw [List.length_map] at hl
  refine sorted_ints pl.isList (ints_of_vals r') (by omega) fun out ns' a1 a2 a3 => ?_
  obtain ⟨e, he⟩ := sortedAll_at s.heap its out
  have hf : H (s.heap.objs.size + 1) = none := I.hok.fresh (Nat.le_succ _)
  have I2 := I.laid (a := s.heap.objs.size + 1) (o := .lst (ns'.map V.int)) (t' := s.toks) (h' := sortedAll s.heap its out) (fun _ _ => sortedAll_old) (Nat.le_succ _)
    ⟨by rw [List.length_map, a2.length_eq]; rw [List.length_map] at hz; exact hz, out.toList, e, vals_of_ints a1, by rw [Array.toArray_toList]; exact he⟩
  exact ⟨.ref (s.heap.objs.size + 1), _, I2, rfl, q _ ns' a2 a3 hf⟩
noncomputable def CDivB (i j : Int) : Prop := 0 < j ∧ j < 2 ^ 64
theorem op_fdivB {X : Cx} : OpR X (binaryOp .FloorDiv) (rI CDivB fun i j => .int (i / j)) := opI fun i j _ _ _ _ _ hc q => by
  have h1 : (0 : Int) < j := hc.1
  have h2 : j < 2 ^ 64 := hc.2
  refine floordiv_int (by omega) (by rw [Int.fdiv_eq_ediv_of_nonneg i (by omega)]; exact q) (.inl (PyProof.noPylong_of_log2 ?_))
  have h3 : j.natAbs < 2 ^ 64 := by omega
  have h4 : j.natAbs ≠ 0 := by omega
  have := (Nat.log2_lt h4).mpr h3
  omega
theorem wp_fdivB {i j : Int} {H : Hp} {Q : VK} (h0 : 0 < j) (h1 : j < 2 ^ 64) (h : Q (.int (i / j)) H) : rI CDivB (fun i j => .int (i / j)) (.int i) (.int j) H Q := ⟨i, j, rfl, rfl, ⟨h0, h1⟩, h⟩
end L2
set_option Elab.async false
set_option linter.all false
set_option maxRecDepth 100000
set_option maxHeartbeats 0
namespace L2
open PySem PySem.Spec PyProof.Rows
theorem IsDist.uniq {F G : Nat → Nat → Int} {ps : List (Option Nat)} {ls : List Int} {n : Nat} (T : TreeP ps ls n) (h1 : IsDist F ps ls n) (h2 : IsDist G ps ls n) : ∀ k i j, i + j < k → i < n → j < n → F i j = G i j := by
  intro k
  induction k with
  | zero => intro i j h; omega
  | succ k ih =>
    intro i j h hi hj
    by_cases e : i = j
    · subst e
      rw [h1.zero i hi, h2.zero i hi]
    · by_cases hlt : j < i
      · obtain ⟨m, em, hm⟩ := T.pj i (by omega) hi
        have hil : i < ls.length := by rw [T.ll]; exact hi
        have el : ls[i]? = some ls[i] := List.getElem?_eq_getElem hil
        rw [(h1.step i j m _ hlt hi em el).1, (h2.step i j m _ hlt hi em el).1, ih m j (by omega) (by omega) hj]
      · obtain ⟨m, em, hm⟩ := T.pj j (by omega) hj
        have hjl : j < ls.length := by rw [T.ll]; exact hj
        have el : ls[j]? = some ls[j] := List.getElem?_eq_getElem hjl
        rw [(h1.step j i m _ (by omega) hj em el).2, (h2.step j i m _ (by omega) hj em el).2, ih m i (by omega) (by omega) hi]
noncomputable def Greedy (D : Nat → Nat → Int) (f : Int) (ys ss : List Int) (n : Nat) : Prop := ∃ (rk : Nat → Nat) (left : Nat → Int), (∀ v, v < n → rk v < n) ∧ (∀ v w, v < n → w < n → rk v = rk w → v = w) ∧ (∀ v w, v < n → w < n → rk v ≤ rk w → D 0 w ≤ D 0 v) ∧ Mm.GT n D f (fun u => ss.getD u 0) left (fun v => ys.getD v 0) rk n
section
variable {D : Nat → Nat → Int} {f : Int} {ys ss ls : List Int} {ps : List (Option Nat)} {n : Nat}
theorem Greedy.yn (G : Greedy D f ys ss n) (hl : ys.length = n) : ∀ y ∈ ys, 0 ≤ y := fun y hy => by
  obtain ⟨rk, left, r1, r2, r3, g⟩ := G
  obtain ⟨i, hi, rfl⟩ := List.mem_iff_getElem.mp hy
  have := g.gi.yn i (by omega)
  have e : ys.getD i 0 = ys[i] := by rw [List.getD_eq_getElem?_getD, List.getElem?_eq_getElem hi]; rfl
  rw [← e]
  exact this
theorem Greedy.fe (G : Greedy D f ys ss n) : (∀ u, u < n → Mm.sm (fun v => if D u v ≤ f then ys.getD v 0 else 0) n ≤ ss.getD u 0) ∧ ∀ v, v < n → ∃ u, u < n ∧ D v u ≤ f ∧ Mm.sm (fun v => if D u v ≤ f then ys.getD v 0 else 0) n = ss.getD u 0 := by
  obtain ⟨rk, left, r1, r2, r3, g⟩ := G
  exact g.gi.done r1
theorem Greedy.opt {p : Nat → Nat} {l : Nat → Int} (G : Greedy D f ys ss n) (T : Mm.Tr n p l D) (sp : ∀ u, u < n → 0 < ss.getD u 0) : ∃ C : Nat → Bool, (∀ v, v < n → ∃ u, u < n ∧ C u = true ∧ D u v ≤ f) ∧ Mm.sm (fun u => if C u = true then ss.getD u 0 else 0) n = Mm.sm (fun v => ys.getD v 0) n := by
  obtain ⟨rk, left, r1, r2, r3, g⟩ := G
  exact Mm.greedy_opt T g.gi.yn sp r1 r2 r3 (fun u hu => by have := g.gi.eq u hu; have := g.gi.nn u hu; omega) fun v hv => g.ti v hv (r1 v hv)
end
end L2
set_option Elab.async false
set_option linter.all false
set_option maxRecDepth 100000
set_option maxHeartbeats 0
namespace L2
open PySem PySem.Spec PyProof.Rows
noncomputable def sortTail (a f : Addr) (keyStore : Value) (before : Nat) (items : Array Value) : Sem Fin := do
  rule "list.sort.key"
  for x in items do
    match ← (call (.ref f) [x]).attempt with
    | .ok k => Builtin.List.listUpdate keyStore (·.push k)
    | .error e =>
      rule "list.sort.key-raised"
      let made ← Builtin.List.listItems keyStore
      Builtin.List.listUpdate keyStore fun _ => #[]
      letGo made.toList.reverse [e]
      Builtin.List.listUpdate (.ref a) fun _ => items; throw e
  let keys ← Builtin.List.listItems keyStore
  let kind ← if items.size < 2 then pure general' else keyKind' keys
  let ((), s) ← (if items.size < 2 then pure () else sortRuns').run (SortSt.mk' kind (keys.zip items) #[] 7 none)
  let sorted := (arrOf s).map (·.2)
  Builtin.List.listUpdate keyStore fun _ => #[]
  letGo ((arrOf s).map (·.1)).toList (failedOf s).toList
  let touched := (← seqEpoch a) != before
  Builtin.List.listUpdate (.ref a) fun _ => sorted
  if let some e := failedOf s then rule "list.sort.comparison-raised"; throw e
  if touched then rule "list.sort.modified"; raiseError "ValueError" "list modified during sort"
  ret .none
theorem list_sort_key (a f : Addr) : Builtin.«list.sort» ⟨[.ref a], [("key", .ref f)]⟩ = (do
    let items ← Builtin.List.listItems (.ref a)
    Builtin.List.listUpdate (.ref a) fun _ => #[]
    let before ← seqEpoch a
    let held ← newTuple items.toList
    let keyStore ← newList []
    holding [held, keyStore] (sortTail a f keyStore before items)) := rfl
noncomputable def kvOf (ks : List Int) (i : Nat) : List Int := (List.range i).map fun j => ks.getD j 0
theorem kvOf_len (ks : List Int) (i : Nat) : (kvOf ks i).length = i := by unfold kvOf; rw [List.length_map, List.length_range]
theorem ints_snoc {k : Int} {t : Tok} : ∀ {kv : List Value} {l : List Int}, IntsAre kv l → IntsAre (kv ++ [.int k t]) (l ++ [k])
  | _, _, .nil => .cons k t .nil
  | _, _, .cons n u h => .cons n u (ints_snoc h)
theorem ints_at' : ∀ {kv : List Value} {l : List Int} {i : Nat} {x : Value}, IntsAre kv l → kv[i]? = some x → ∃ t, x = .int (l.getD i 0) t
  | _, _, i, x, .nil, h => by simp at h
  | _, _, 0, x, .cons n u h, e => by simp at e; subst e; exact ⟨u, rfl⟩
  | _, _, i + 1, x, .cons n u h, e => by
    obtain ⟨t, q⟩ := ints_at' (i := i) h (by simpa using e)
    exact ⟨t, by simpa using q⟩
section
variable {prog : Program} {w : World} {A : Around} {E : Value → Shared → Prop} {s : Shared}
theorem sort_tail {a f kst : Addr} {vs : List Value} {ks : List Int} {e1 : Nat} {P : Fin → Shared → Prop} {h2 : Heap} (hka : kst ≠ a) (hk2 : h2.get? kst = some (seqObj "list" #[] 0)) (ha2 : h2.get? a = some (seqObj "list" #[] e1)) (hne : ∀ o, s.heap.get? kst = some o → False)
    (hoth2 : ∀ b o, b ≠ a → s.heap.get? b = some o → h2.get? b = some o) (h64 : vs.length < 64)
    (key : ∀ (h : Heap) (tk : Nat) (i : Nat) (x : Value) (Q' : Value → Shared → Prop) (E' : Value → Shared → Prop), vs[i]? = some x → (∀ b o, b ≠ a → s.heap.get? b = some o → h.get? b = some o) →
      (∀ h' tk' t, (∀ b o, h.get? b = some o → h'.get? b = some o) → Q' (.int (ks.getD i 0) t) { s with heap := h', toks := tk' }) → wpAny (model prog w) A (call (.ref f) [x]) Q' E' { s with heap := h, toks := tk })
    (h : ∀ (h' : Heap) (tk : Nat) (kv : List Value) (arr : Array Keyed) (e : Nat), (∀ b o, b ≠ a → s.heap.get? b = some o → h'.get? b = some o) → h'.get? a = some (seqObj "list" (arr.map (·.2)) e) → IntsAre kv (kvOf ks vs.length) → arr.Perm (kv.toArray.zip vs.toArray) → SortedTo arr vs.length →
      P (.done (.ret .none)) { s with heap := h', toks := tk }) :
    wpAny (model prog w) A (sortTail a f (.ref kst) e1 vs.toArray) P E { s with heap := h2 } := by
  unfold sortTail
  refine wpAny_bind (wpAny_rule ?_)
  refine wpAny_bind (MeetsSeq2.wpAny_forIn_array _ (fun rest (b : PUnit) st => ∃ (dn kv : List Value) (h : Heap) (tk e : Nat), st = { s with heap := h, toks := tk } ∧ vs = dn ++ rest ∧ IntsAre kv (kvOf ks dn.length) ∧ h.get? kst = some (seqObj "list" kv.toArray e) ∧ h.get? a = some (seqObj "list" #[] e1) ∧ ∀ b o, b ≠ a → s.heap.get? b = some o → h.get? b = some o) _ ?_ ?_ _ _ ?_)
  · rintro x rest b _ ⟨dn, kv, h, tk, e, rfl, hv, hi, hk, hae, hoth⟩
    have hx : vs[dn.length]? = some x := by rw [hv]; simp
    have hkl : kv.length = dn.length := by have := hi.length; rw [kvOf_len] at this; exact this
    have hdl : dn.length < 64 := by have := congrArg List.length hv; rw [List.length_append] at this; omega
    refine wpAny_bind (wpAny_attempt (key h tk dn.length x _ _ hx hoth fun h' tk' t hkeep => ?_))
    refine wpAny_bind (listUpdate_at (s := { s with heap := h', toks := tk' }) (hkeep _ _ hk) rfl ?_ (by rw [List.size_toArray, sizeLine_eq]; omega) (by rw [Array.size_push, List.size_toArray, sizeLine_eq]; omega))
    refine wpAny_pure ?_
    obtain ⟨e2, hq2⟩ : ∃ e2, (h'.update kst (Obj.mapSeq fun xs => xs.push (Value.int (ks.getD dn.length 0) t))).get? kst = some (seqObj "list" (kv ++ [Value.int (ks.getD dn.length 0) t]).toArray e2) := ⟨_, by simpa using get?_update_seq (hkeep _ _ hk) (fun xs => xs.push (.int (ks.getD dn.length 0) t))⟩
    refine ⟨dn ++ [x], kv ++ [.int (ks.getD dn.length 0) t], _, tk', e2, rfl, by rw [hv]; simp, ?_, hq2, ?_, fun b o hb q => ?_⟩
    · rw [List.length_append]
      show IntsAre _ (kvOf ks (dn.length + 1))
      unfold kvOf
      rw [List.range_succ, List.map_append]
      exact ints_snoc hi
    · exact (Heap.get?_update_ne _ _ _ _ (Ne.symm hka)).trans (hkeep _ _ hae)
    · exact (Heap.get?_update_ne _ _ _ _ (fun z => hne o (by rw [← z]; exact q))).trans (hkeep _ _ (hoth b o hb q))
  · rintro b _ ⟨dn, kv, h', tk, e, rfl, hv, hi, hk, hae, hoth⟩
    rw [List.append_nil] at hv
    subst hv
    have hkl : kv.length = vs.length := by have := hi.length; rw [kvOf_len] at this; exact this
    have zsz : (kv.toArray.zip vs.toArray).size = vs.length := by simp [hkl]
    refine wpAny_bind (listItems_at (s := { s with heap := h', toks := tk }) hk rfl ?_)
    have fin : ∀ st' : SortSt, (arrOf st').Perm (kv.toArray.zip vs.toArray) → failedOf st' = none → SortedTo (arrOf st') vs.length →
        wpAny (model prog w) A (do
          Builtin.List.listUpdate (.ref kst) fun _ => #[]
          letGo ((arrOf st').map (·.1)).toList (failedOf st').toList
          let touched := (← seqEpoch a) != e1
          Builtin.List.listUpdate (.ref a) fun _ => (arrOf st').map (·.2)
          if let some e := failedOf st' then rule "list.sort.comparison-raised"; throw e
          if touched then rule "list.sort.modified"; raiseError "ValueError" "list modified during sort"
          ret .none) P E { s with heap := h', toks := tk } := by
      intro st' hp hf hs
      refine wpAny_bind (listUpdate_at (s := { s with heap := h', toks := tk }) hk rfl ?_ (by rw [List.size_toArray, sizeLine_eq]; omega) (by simp))
      refine wpAny_bind (wpAny_letGo ?_)
      have hae2 : (h'.update kst (Obj.mapSeq fun _ => #[])).get? a = some (seqObj "list" #[] e1) := (Heap.get?_update_ne _ _ _ _ (Ne.symm hka)).trans hae
      refine wpAny_bind (seqEpoch_at (s := { s with heap := h'.update kst (Obj.mapSeq fun _ => #[]), toks := tk }) hae2 rfl ?_)
      have asz : ((arrOf st').map (·.2)).size = vs.length := by rw [Array.size_map, hp.size_eq, zsz]
      refine wpAny_bind (listUpdate_at (s := { s with heap := h'.update kst (Obj.mapSeq fun _ => #[]), toks := tk }) hae2 rfl ?_ (by simp) (by rw [asz, sizeLine_eq]; omega))
      rw [hf]
      simp only [bne_self_eq_false, Bool.false_eq_true, if_false]
      refine wpAny_pure (h _ tk kv (arrOf st') _ (fun b o hb q => ?_) (get?_update_seq hae2 (fun _ => (arrOf st').map (·.2))) hi hp hs)
      exact (Heap.get?_update_ne _ _ _ _ hb).trans ((Heap.get?_update_ne _ _ _ _ (fun z => hne o (by rw [← z]; exact q))).trans (hoth b o hb q))
    by_cases hl2 : vs.toArray.size < 2
    · rw [if_pos hl2, if_pos hl2]
      refine wpAny_bind (wpAny_pure ?_)
      show wpAny _ _ ((pure () : StateT SortSt Sem Unit).run _ >>= _) _ _ _
      rw [StateT.run_pure]
      refine wpAny_bind (wpAny_pure ?_)
      refine fin (SortSt.mk' general' (kv.toArray.zip vs.toArray) #[] 7 none) (Array.Perm.refl _) rfl ?_
      intro i j hij hj
      have : i = j := by rw [List.size_toArray] at hl2; omega
      subst this; exact Int.le_refl _
    · rw [if_neg hl2, if_neg hl2]
      have hkk : keyKind' kv.toArray = pure oneType' := by
        match kv, hkl, hi with
        | [], q, _ => simp at hl2; simp at q; omega
        | [_], q, _ => simp at hl2; simp at q; omega
        | v₁ :: v₂ :: rest, _, hi => exact keyKind_ints hi
      rw [hkk]
      refine wpAny_bind (wpAny_pure ?_)
      refine wpAny_bind (wpAny_mono (wpS_sortRuns (a₀ := kv.toArray.zip vs.toArray) (st := SortSt.mk' oneType' (kv.toArray.zip vs.toArray) #[] 7 none)
        (Q := fun _ st' => (arrOf st').Perm (kv.toArray.zip vs.toArray) ∧ failedOf st' = none ∧ SortedTo (arrOf st') (kv.toArray.zip vs.toArray).size)
        (fun p hp => ?_) ⟨Array.Perm.refl _, rfl, rfl, rfl⟩ (by rw [zsz]; rw [List.size_toArray] at hl2; omega) (by rw [zsz]; exact h64) fun st' a1 a2 a3 => ⟨a1, a2, a3⟩) ?_ fun _ _ e => e)
      · rw [show (kv.toArray.zip vs.toArray).toList = kv.zip vs by simp] at hp
        exact hi.all _ (List.of_mem_zip (a := p.1) (b := p.2) hp).1
      · rintro ⟨⟨⟩, st'⟩ s' ⟨rfl, hp, hf, hs⟩
        rw [zsz] at hs
        exact fin st' hp hf hs
  · exact ⟨[], [], h2, s.toks, 0, rfl, rfl, .nil, hk2, ha2, hoth2⟩
theorem list_sort_by {a f : Addr} {vs : List Value} {ks : List Int} {n0 : Nat} {P : Fin → Shared → Prop} (ho : s.heap.get? a = some (seqObj "list" vs.toArray n0)) (h64 : vs.length < 64)
    (key : ∀ (h : Heap) (tk : Nat) (i : Nat) (x : Value) (Q' : Value → Shared → Prop) (E' : Value → Shared → Prop), vs[i]? = some x → (∀ b o, b ≠ a → s.heap.get? b = some o → h.get? b = some o) →
      (∀ h' tk' t, (∀ b o, h.get? b = some o → h'.get? b = some o) → Q' (.int (ks.getD i 0) t) { s with heap := h', toks := tk' }) → wpAny (model prog w) A (call (.ref f) [x]) Q' E' { s with heap := h, toks := tk })
    (h : ∀ (h' : Heap) (tk : Nat) (kv : List Value) (arr : Array Keyed) (e : Nat), (∀ b o, b ≠ a → s.heap.get? b = some o → h'.get? b = some o) → h'.get? a = some (seqObj "list" (arr.map (·.2)) e) → IntsAre kv (kvOf ks vs.length) → arr.Perm (kv.toArray.zip vs.toArray) → SortedTo arr vs.length →
      P (.done (.ret .none)) { s with heap := h', toks := tk }) :
    wpAny (model prog w) A (Builtin.«list.sort» ⟨[.ref a], [("key", .ref f)]⟩) P E s := by
  rw [list_sort_key]
  have ha : a < s.heap.objs.size := Heap.lt_size ho
  refine wpAny_bind (listItems_at ho rfl ?_)
  refine wpAny_bind (listUpdate_at ho rfl ?_ (by rw [List.size_toArray, sizeLine_eq]; omega) (by simp))
  obtain ⟨e1, ho1⟩ : ∃ e1, (s.heap.update a (Obj.mapSeq fun _ => #[])).get? a = some (seqObj "list" #[] e1) := ⟨_, get?_update_seq ho (fun _ => #[])⟩
  refine wpAny_bind (seqEpoch_at ho1 rfl ?_)
  refine wpAny_bind (wpAny_newTuple ?_)
  refine wpAny_bind (wpAny_newList ?_)
  refine wpAny_holding ?_
  have ho6 : (((s.heap.update a (Obj.mapSeq fun _ => #[])).push (seqObj "tuple" vs.toArray 0)).push (seqObj "list" #[] 0)).get? a = some (seqObj "list" #[] e1) := by
    rw [Heap.get?_push_ne _ _ _ (by rw [size_push', Heap.size_update]; exact Nat.ne_of_lt (Nat.lt_succ_of_lt ha)), Heap.get?_push_ne _ _ _ (by rw [Heap.size_update]; exact Nat.ne_of_lt ha)]
    exact ho1
  have ksz : ((s.heap.update a (Obj.mapSeq fun _ => #[])).push (seqObj "tuple" vs.toArray 0)).objs.size = s.heap.objs.size + 1 := by rw [size_push', Heap.size_update]
  refine sort_tail (s := s) (h2 := ((s.heap.update a (Obj.mapSeq fun _ => #[])).push (seqObj "tuple" vs.toArray 0)).push (seqObj "list" #[] 0)) (kst := ((s.heap.update a (Obj.mapSeq fun _ => #[])).push (seqObj "tuple" vs.toArray 0)).objs.size)
    (by rw [ksz]; exact Nat.ne_of_gt (Nat.lt_succ_of_lt ha)) (Heap.get?_push_size _ rfl) ho6 (fun o q => ?_) (fun b o hb q => ?_) h64 key h
  · have := Heap.lt_size q
    rw [ksz] at this
    exact Nat.lt_irrefl _ (Nat.lt_of_succ_lt this)
  · exact Heap.get?_push_of_some _ (Heap.get?_push_of_some _ ((Heap.get?_update_ne _ _ _ _ hb).trans q))
theorem collect_range {Q : List Value → Shared → Prop} {r : Addr} {a b c : Int} {t u v : Tok} {n : Nat} (hh : A.handled = none) (hr : IsRange s.heap r a b c t u v) (hsmall : Builtin.Range.small a b c = true) (hn : Builtin.Range.rangeSize a b c = n) (hlen : n ≤ 2 ^ 24)
    (hQ : ∀ h' tk acc, (∀ b o, s.heap.get? b = some o → h'.get? b = some o) → ItemsOf (fun i v => ∃ t, v = .int (a + i * c) t) acc n → Q acc.toList { s with heap := h', toks := tk }) :
    wpAny (model prog w) A (collect (.ref r)) Q E s := by
  unfold collect
  refine wpAny_bind (wpAny_runValue (codeAny_builtin PySem.F.entry_proto_collect ?_))
  rw [Around.under_plainId PySem.F.plain_proto_collect _]
  show wpAny _ A.in1 (newList [] >>= fun l => again (.builtin "list.__iadd__" ⟨[l, .ref r], []⟩)) _ _ s
  refine wpAny_bind (wpAny_newObj_type ?_)
  refine wpAny_pure ⟨plainId_quiet PySem.F.plain_list_iadd _, codeAny_builtin PySem.F.entry_list_iadd ?_⟩
  rw [Around.under_plainId PySem.F.plain_list_iadd _]
  show wpAny _ A.in1 (Builtin.List.listExtendWith (.ref s.heap.objs.size) (.ref r) (.ref s.heap.objs.size)) _ _ _
  refine wpAny_extend_range (R := fun r s' => match r with | .ok (.ret v) => wpAny (model prog w) A (match v with | .ref a => (do let o ← load a; match o.data with | .seq xs _ => pure xs.toList | _ => unsupported "internal:collect") | _ => unsupported "internal:collect") Q E s' | .ok _ => False | .error e => E e s') (s := { s with heap := s.heap.push { cls := .type "list", data := .seq #[] } }) hh (Heap.get?_push_of_some _ hr) hsmall hn hlen s.heap.objs.size (.ref s.heap.objs.size) 0 (Heap.get?_push_size _ rfl) fun h' tk acc c' hk hS hacc => ?_
  show wpAny _ A (load s.heap.objs.size >>= _) _ _ _
  refine wpAny_bind (wpAny_load hS ?_)
  exact wpAny_pure (hQ h' tk acc (fun b o e => hk b o (Nat.ne_of_lt (Heap.lt_size e)) (Heap.get?_push_of_some _ e)) hacc)
end
theorem order_of {kv vs : List Value} {ks : List Int} {arr : Array Keyed} (hk : IntsAre kv (kvOf ks vs.length)) (hvs : ∀ (i : Nat) x, vs[i]? = some x → ∃ t, x = .int (i : Int) t) (hp : arr.Perm (kv.toArray.zip vs.toArray)) (hs : SortedTo arr vs.length) :
    ∃ os : List Nat, IntsAre (arr.map (·.2)).toList (os.map fun (u : Nat) => (u : Int)) ∧ os.Perm (List.range vs.length) ∧ os.Pairwise fun u v => ks.getD u 0 ≤ ks.getD v 0 := by
  have hl : arr.toList.Perm (kv.zip vs) := by have := Array.perm_iff_toList_perm.mp hp; simpa using this
  have hkl : kv.length = vs.length := by have := hk.length; rw [kvOf_len] at this; exact this
  have hmem : ∀ p, p ∈ arr.toList → ∃ (i : Nat) (t t' : Tok), i < vs.length ∧ p = (.int (ks.getD i 0) t', .int (i : Int) t) := fun p hp' => by
    have hm := hl.mem_iff.mp hp'
    obtain ⟨i, hi, e⟩ := List.mem_iff_getElem.mp hm
    have hiv : i < vs.length := by rw [List.length_zip] at hi; omega
    rw [List.getElem_zip] at e
    obtain ⟨t, e2⟩ := hvs i _ (List.getElem?_eq_getElem hiv)
    obtain ⟨t', e1⟩ := ints_at' hk (List.getElem?_eq_getElem (show i < kv.length by omega))
    refine ⟨i, t, t', hiv, ?_⟩
    rw [← e, e1, e2]
    congr 2
    unfold kvOf
    rw [List.getD_eq_getElem?_getD, List.getElem?_map, List.getElem?_range hiv]
    rfl
  refine ⟨arr.toList.map fun (p : Keyed) => (numOf p.2).toNat, ?_, ?_, ?_⟩
  · rw [Array.toList_map]
    have key : ∀ l : List Keyed, (∀ p ∈ l, ∃ (i : Nat) (t t' : Tok), i < vs.length ∧ p = (.int (ks.getD i 0) t', .int (i : Int) t)) → IntsAre (l.map (·.2)) ((l.map fun (p : Keyed) => (numOf p.2).toNat).map fun (u : Nat) => (u : Int)) := by
      intro l
      induction l with
      | nil => exact fun _ => .nil
      | cons p l ih =>
        intro hl
        obtain ⟨i, t, t', _, e⟩ := hl p List.mem_cons_self
        subst e
        have : ((numOf (.int (i : Int) t)).toNat : Int) = i := by show ((i : Int).toNat : Int) = i; omega
        show IntsAre (.int (i : Int) t :: l.map (·.2)) (((numOf (.int (i : Int) t)).toNat : Int) :: _)
        rw [this]
        exact .cons _ t (ih fun q hq => hl q (List.mem_cons_of_mem _ hq))
    exact key _ hmem
  · refine (hl.map _).trans ?_
    refine List.Perm.of_eq ?_
    apply List.ext_getElem
    · rw [List.length_map, List.length_zip, List.length_range]; omega
    · intro i h1 h2
      rw [List.length_range] at h2
      rw [List.getElem_map, List.getElem_zip, List.getElem_range]
      obtain ⟨t, e2⟩ := hvs i _ (List.getElem?_eq_getElem h2)
      show (numOf vs[i]).toNat = i
      rw [e2]
      show (i : Int).toNat = i
      omega
  · rw [List.pairwise_iff_getElem]
    intro i j hi hj hij
    rw [List.length_map] at hi hj
    have hj' : j < arr.size := by simpa using hj
    have hi' : i < arr.size := by simpa using hi
    have asz : arr.size = vs.length := by rw [hp.size_eq]; simp [hkl]
    have h1 := hs i j (Nat.le_of_lt hij) (by omega)
    rw [K_eq hi', K_eq hj'] at h1
    rw [List.getElem_map, List.getElem_map]
    obtain ⟨a, t, t', _, ea⟩ := hmem arr[i] (by simp)
    obtain ⟨b, u, u', _, eb⟩ := hmem arr[j] (by simp)
    have e1 : arr.toList[i] = arr[i] := by simp
    have e2 : arr.toList[j] = arr[j] := by simp
    rw [e1, e2, ea, eb]
    rw [ea, eb] at h1
    show ks.getD (a : Int).toNat 0 ≤ ks.getD (b : Int).toNat 0
    rw [Int.toNat_natCast, Int.toNat_natCast]
    exact h1
theorem args_sortedK (a f : Value) : argsOk "sorted" ⟨[a], [("key", f)]⟩ := by unfold argsOk; kernel_rfl
theorem args_list_sortK (a f : Value) : argsOk "list.sort" ⟨[a], [("key", f)]⟩ := by unfold argsOk; kernel_rfl
section
variable {prog : Program} {w : World} {A : Around} {E : Value → Shared → Prop} {s : Shared}
theorem sorted_by {r f : Addr} {n : Nat} {t u v : Tok} {ks : List Int} {Q : Value → Shared → Prop} (hh : A.handled = none) (hr : IsRange s.heap r 0 (n : Int) 1 t u v) (h64 : n < 64)
    (key : ∀ (A' : Around) (h : Heap) (tk : Nat) (i : Nat) (ti : Tok) (Q' : Value → Shared → Prop) (E' : Value → Shared → Prop), A'.depth = A.depth → i < n → (∀ b o, s.heap.get? b = some o → h.get? b = some o) →
      (∀ h' tk' t, (∀ b o, h.get? b = some o → h'.get? b = some o) → Q' (.int (ks.getD i 0) t) { s with heap := h', toks := tk' }) → wpAny (model prog w) A' (call (.ref f) [.int (i : Int) ti]) Q' E' { s with heap := h, toks := tk })
    (h : ∀ (h1 h' : Heap) (tk : Nat) (out : List Value) (os : List Nat) (e : Nat), (∀ b o, s.heap.get? b = some o → h1.get? b = some o) → (∀ b o, h1.get? b = some o → h'.get? b = some o) → h'.get? h1.objs.size = some (seqObj "list" out.toArray e) → IntsAre out (os.map fun (u : Nat) => (u : Int)) → os.Perm (List.range n) →
      os.Pairwise (fun u v => ks.getD u 0 ≤ ks.getD v 0) → Q (.ref h1.objs.size) { s with heap := h', toks := tk }) :
    wpAny (model prog w) A (call (.builtin "sorted") [.ref r] [("key", .ref f)]) Q E s := by
  refine call_function_entry_kw kind_sorted plain_sorted entry_sorted (args_sortedK _ _) ?_
  unfold Builtin.«sorted»
  refine wpAny_bind (m := checkCount "sorted" 1 1 _) (wpAny_pure ?_)
  have hsz1 : Builtin.Range.rangeSize 0 (n : Int) 1 = (n : Int) := by rw [rangeSize_one]; split <;> omega
  refine wpAny_bind (collect_range (A := A.in1) hh hr (small_one (by decide) (by decide) (by omega) (by omega)) hsz1 (by omega) fun h1 tk1 acc hk1 hacc => ?_)
  obtain ⟨hs, hi⟩ := hacc
  have hvl : acc.toList.length = n := by simpa using hs
  refine wpAny_bind (wpAny_newList ?_ (by rw [hvl, sizeLine_eq]; omega))
  have hvs : ∀ (i : Nat) x, acc.toList[i]? = some x → ∃ t, x = .int (i : Int) t := fun i x e => by
    obtain ⟨t, q⟩ := hi i x (by simpa using e)
    exact ⟨t, by rw [q]; simp⟩
  refine wpAny_bind (wpAny_holding (wpAny_call_entry_kw (A := A.in1) slot_list_sort ⟨_, Heap.get?_push_size _ rfl, rfl⟩ entry_list_sort
    (list_sort_by (A := A.in1.in1) (ks := ks) (vs := acc.toList) (n0 := 0) (Heap.get?_push_size _ rfl) (by omega) (fun h2 tk2 i x Q' E' hx hk2 hq => ?_) fun h2 tk2 kv arr e hk2 ha2 hkv hp hs2 => ⟨_, rfl, ?_⟩) (args_list_sortK _ _)))
  · have hin : i < n := by rw [← hvl]; exact (List.getElem?_eq_some_iff.mp hx).1
    obtain ⟨ti, rfl⟩ := hvs i x hx
    exact key A.in1.in1 h2 tk2 i ti Q' E' rfl hin (fun b o q => hk2 b o (Nat.ne_of_lt (Heap.lt_size (hk1 b o q))) (Heap.get?_push_of_some _ (hk1 b o q))) hq
  · obtain ⟨os, o1, o2, o3⟩ := order_of hkv hvs hp hs2
    rw [hvl] at o2
    exact wpAny_pure ⟨_, rfl, h h1 h2 tk2 (arr.map (·.2)).toList os e hk1 (fun b o q => hk2 b o (Nat.ne_of_lt (Heap.lt_size q)) (Heap.get?_push_of_some _ q)) (by rw [Array.toArray_toList]; exact ha2) o1 o2 o3⟩
theorem key_call {f ca t a0 c' : Addr} {q : Str} {params : Arguments} {lsc : Scope} {pm ctv : Value} {cl : List (Str × Addr)} {x y : Str} {p1 p2 p3 p4 p5 : Pos} {kd : Nat} {rows items : Array Value} {i : Nat} {ti : Tok} {u : Value} {Q : Value → Shared → Prop}
    (hroom : A.depth < recursionLimit) (hlim : s.heap.NoLimit)
    (ho : s.heap.get? f = some (PySem.W.kla_obj "<lambda>" q params (.Subscript (.Subscript (.Name y p1) (.Constant (.int 0) kd p2) p3) (.Name x p4) p5) lsc cl pm c' ctv)) (hcd : s.heap.CodeRec (.ref c') q)
    (hb : ∀ v, bindArgs (PySem.W.kla_fn "<lambda>" q params (.Subscript (.Subscript (.Name y p1) (.Constant (.int 0) kd p2) p3) (.Name x p4) p5) lsc cl pm (.ref c') ctv) ⟨[v], []⟩ = pure [(x, v)])
    (hk : lsc.kind = .function) (hco : lsc.isCoroutine = false) (hgen : lsc.isGenerator = false) (hnc : ∀ z ∈ lsc.names, z.2 ≠ .cell) (hx : lsc.names.lookup x = some .local) (hy : lsc.names.lookup y = some .free)
    (hdx : (x == ("__debug__" : Str)) = false) (hdy : (y == ("__debug__" : Str)) = false) (hdz : (y == ("__classdict__" : Str)) = false)
    (hc : cl.lookup y = some ca) (hcell : s.heap.IsCell ca (some (.ref t))) (ht : s.heap.IsList t rows) (hr0 : rows[0]? = some (.ref a0)) (ha0 : s.heap.IsList a0 items) (hi : items[i]? = some u) (hlt : (i : Int) < 2 ^ 63)
    (h : ∀ h' tk, (∀ b o, s.heap.get? b = some o → h'.get? b = some o) → Q u { s with heap := h', toks := tk }) :
    wpAny (model prog w) A (call (.ref f) [.int (i : Int) ti]) Q E s := by
  refine wpAny_call (PySem.W.kla_callFunE hroom ho rfl hco hgen rfl hcd ?_)
  rw [hb]
  refine wpAny_pure (wpAny_newFunctionEnv hnc (fun z hz => ?_) (fun h₁ hns hsb => ⟨hlim.fresh _ hsb, ?_⟩) hk)
  · rw [List.mem_singleton.mp hz]; exact hx
  have hk₁ : ∀ b o, s.heap.get? b = some o → h₁.get? b = some o := fun b o e => hsb.extBut b o (Nat.ne_of_lt (Heap.lt_size e)) (Heap.get?_push_of_some _ e)
  refine PySem.W.kla_codeExpr (Subscript_ (Subscript_ (wpAny_Name (wpAny_loadName_free hk hy hc (hcell.keeps hk₁) (wpAny_Constant_int ?_) hdz) hdy)))
  refine item_listR (x := .ref a0) (ht.at fun o e => hk₁ _ _ e) (by decide) (by decide) hr0 ?_
  refine wpAny_Name (wpAny_loadName_local hk hx hns (v := .int (i : Int) ti) (by simp) ?_) hdx
  exact item_listR (ha0.at fun o e => hk₁ _ _ e) (by omega) hlt (by simpa using hi) (h _ _ hk₁)
end
end L2
set_option Elab.async false
set_option linter.all false
set_option maxRecDepth 100000
set_option maxHeartbeats 0
namespace L2
open PySem PySem.Spec PyProof.Rows
noncomputable def Itv (K : PySem.W.Frag) (a : Addr) (n : Nat) : It :=
  ⟨fun i H => i < n ∧ ∃ xs, SqL K H a xs ∧ xs.length = n, fun i H x H' => H' = H ∧ ∀ xs, SqL K H a xs → xs.length = n → xs[n - 1 - i]? = some x, fun i H => n ≤ i⟩
theorem turn_rev {P : Program} {w : World} {K : PySem.W.Frag} {tg : Expr} (a it : Addr) (n : Nat) : Turn P w K tg (Itv K a n) [it] it (fun i h => i ≤ n ∧ h.IsRevIter it a ((n : Int) - 1 - (i : Int))) where
  mem := by simp
  obj := fun i h st b hb => by
    have e : b = it := by simpa using hb
    subst e
    obtain ⟨_, o, e, c, d⟩ := st
    exact ⟨o, e, fun v z => by rw [d] at z; cases z⟩
  keep := fun i h h' st k => ⟨st.1, st.2.at fun o e => k it (by simp) o e⟩
  item := by
    intro X hP hw hK hc i pins s σ H E I hf st hg
    subst hP hw hK
    obtain ⟨hin, xs, hq, hx⟩ := hg
    obtain ⟨its, rv, p, hz⟩ := I.list hq
    have hxi : xs[n - 1 - i]? = some (xs[n - 1 - i]'(by omega)) := List.getElem?_eq_getElem (by omega)
    obtain ⟨u, hu, ru⟩ := rv.get hxi
    obtain ⟨f0, f1, f2, f3, f4, f5⟩ := hf it (by simp)
    have e : (n : Int) - 1 - (i : Int) = ((n - 1 - i : Nat) : Int) := by omega
    have hit := st.2
    rw [e] at hit
    refine wpAny_pyNext_rev_item hit p.isList (x := u) (by simpa using hu) fun h' st' sb => ?_
    have e2 : ((n - 1 - i : Nat) : Int) - 1 = (n : Int) - 1 - ((i + 1 : Nat) : Int) := by omega
    rw [e2] at st'
    have I1 : Inv X pins σ H { s with heap := h' } := I.turned (t' := s.toks) (fun b o hb e => (sb.2 b hb).trans e) f0 f1 f3 f4 f5
    obtain ⟨o, e, c, d⟩ := id st'
    exact ⟨u, rfl, go_of (s := { s with heap := h' }) e c d (by decide) ⟨_, H, I1, ru, ⟨rfl, fun ys hy _ => by rw [I.list_inj hy hq]; exact hxi⟩, ⟨hin, st'⟩, fun b hb => (hf b hb).1⟩⟩
  done := by
    intro X hP hw hK hc i pins s σ H E I hf st hg
    subst hP hw hK
    have hg' : n ≤ i := hg
    obtain ⟨f0, f1, f2, f3, f4, f5⟩ := hf it (by simp)
    have e : (n : Int) - 1 - (i : Int) = -1 := by have := st.1; omega
    have hit := st.2
    rw [e] at hit
    exact wpAny_pyNext_rev_end (I.ok.hd hc) hit fun h' eb => ⟨rfl, I.turned (t' := s.toks) (fun b o hb e => eb b o hb e) f0 f1 f3 f4 f5⟩
  self := fun _ _ _ _ _ st h => wpAny_pyIter_revIter st.2 h
section
variable {X : Cx} {tg : Expr}
noncomputable def iRev (K : PySem.W.Frag) (ta : TA) : TI := fun σ H R => ta σ H fun vs H1 => ∃ a xs, vs = [.ref a] ∧ SqL K H1 a xs ∧ R (Itv K a xs.length) H1
theorem pi_rev {a : Expr} {ta : TA} {p pos : Pos} (hg : Gl X "reversed") (hm : X.mg "reversed" = none) (ha : PA X [a] ta) (hs : starEach [a] X.env = [(false, eval a X.env)] := by rfl) : PI X tg (.Call (.Name "reversed" p) [a] [] pos) (iRev X.K ta) := by
  intro pins s σ H R I h
  refine Call_ (ld_blt I hg hm boot_reversed (PyProof.Rows.callWith_type1 (thn (ha pos pins s σ H _ I h) fun us s1 ⟨vs, H1, I1, r1, q1⟩ => ?_) hs rfl))
  obtain ⟨a, xs, e, hq, q⟩ := q1
  subst e
  obtain ⟨u, rfl, ru⟩ := r1.one
  cases ru
  obtain ⟨its, rv, pl, hz⟩ := I1.list hq
  have hl := rv.length
  refine call_reversed_list pl.isList ?_
  have hit : (s1.heap.push (revObj a ((its.toArray.size : Int) - 1))).IsRevIter s1.heap.objs.size a ((its.toArray.size : Int) - 1) := ⟨_, Heap.get?_push_size _ rfl, rfl, rfl⟩
  refine wpAny_pyIter_revIter hit ?_
  refine ⟨s1.heap.objs.size, [s1.heap.objs.size], _, _, H1, rfl, I1.kept (t' := s1.toks) fun b o e => Heap.get?_push_of_some _ e, turn_rev a _ xs.length, ⟨Nat.zero_le _, ?_⟩, fun b hb => ?_, q⟩
  · have e : ((xs.length : Int) - 1 - ((0 : Nat) : Int)) = ((its.toArray.size : Int) - 1) := by rw [List.size_toArray]; omega
    rw [e]
    exact hit
  · have e : b = s1.heap.objs.size := by simpa using hb
    subst e
    exact I1.fpOk (Nat.le_refl _) (I1.hok.fresh (Nat.le_refl _))
theorem wp_rev {K : PySem.W.Frag} {σ : St} {H : Hp} {t : TA} {R : It → Hp → Prop} (h : t σ H fun vs H1 => ∃ a xs, vs = [.ref a] ∧ SqL K H1 a xs ∧ R (Itv K a xs.length) H1) : iRev K t σ H R := h
theorem loop_rev {K : PySem.W.Frag} {a : Addr} {xs : List V} {g : TG} {tb : TS} {D : Ends} {σ : St} {H : Hp} (Pv : Nat → St → Hp → Prop) (h0 : Pv 0 σ H) (hl : ∀ i σ H, i ≤ xs.length → Pv i σ H → SqL K H a xs)
    (hs : ∀ i x σ H, xs.reverse[i]? = some x → Pv i σ H → g x σ H fun σ2 H2 => tb { D with nx := Pv (i + 1), ct := Pv (i + 1), bk := D.nx } σ2 H2) (hd : ∀ σ H, Pv xs.length σ H → D.nx σ H) : tLoop g tb D σ (Itv K a xs.length) H := by
  refine ⟨fun i m σ H => m = xs.length - i ∧ i ≤ xs.length ∧ Pv i σ H, ⟨_, rfl, Nat.zero_le _, h0⟩, ?_⟩
  rintro i m σ H ⟨rfl, hi, hp⟩
  have d3 := hl i σ H hi hp
  by_cases hlt : i < xs.length
  · refine .inr ⟨⟨hlt, xs, d3, rfl⟩, Pv (i + 1), fun σ' H' hp' => ⟨xs.length - (i + 1), by omega, rfl, hlt, hp'⟩, fun v H2 y => ?_⟩
    obtain ⟨rfl, hx⟩ := y
    exact hs i v σ _ (by rw [List.getElem?_reverse (by omega)]; exact hx xs d3 rfl) hp
  · have e : i = xs.length := by omega
    subst e
    exact .inl ⟨Nat.le_refl _, hd σ H hp⟩
end
noncomputable def BMain (mg : Str → Option Value) (base : Heap) : Prop := ∃ bm ob, mg "__builtins__" = some (.ref bm) ∧ bm ≠ builtinsNs ∧ base.get? bm = some ob ∧ ob.cls = .type "module" ∧ ob.dict = some builtinsNs ∧ ob.data = .plain
section
variable {X : Cx}
theorem lam_made {pins : List (Addr × Obj)} {s : Shared} {σ : St} {H : Hp} (I : Inv X pins σ H s) {c P : Addr} {q : Str} {tq : Tok} {params : Arguments} {body : Expr} {lsc : Scope} {lpos : Pos} {cl : List (Str × Addr)} {Q : Value → Shared → Prop} {E : Value → Shared → Prop}
    (hcode : X.env.code = .ref c) (C : PySem.W.CodeHd X.base c P) (bm : BMain X.mg X.base) (hcl : closureFor lsc X.env = pure cl) (hP : H P = some (.tbl #[rawInt lpos.line, rawInt lpos.col, .str q tq])) (hq : X.env.qual ++ "<lambda>" = q) (hdef : defaultsOf params X.env = ([], []))
    (h : ∀ (f c' : Addr) (pm ctv : Value) (H' : Hp) (s' : Shared), Inv X pins σ H' s' → Same H H' → (∀ b o, b ≠ P → s.heap.get? b = some o → s'.heap.get? b = some o) → s'.heap.get? f = some (PySem.W.kla_obj "<lambda>" q params body lsc cl pm c' ctv) → s'.heap.CodeRec (.ref c') q → Q (.ref f) s') :
    wpAny (model X.prog X.w) X.A (eval (.Lambda params body lsc lpos) X.env) Q E s := by
  refine PySem.W.kla_eval hdef ?_
  rw [hq]
  have neP : ∀ b, H b = none → b ≠ P := fun b n z => by rw [z, hP] at n; cases n
  have hg := I.mod.glob.keeps I.bk
  obtain ⟨go, ges, gep, g1, g2, g3⟩ := id I.mod.glob
  have hgP : mainGlobals ≠ P := neP _ (I.bs _ _ g1).2
  obtain ⟨bm, ob, b1, b2, b3, b4, b5, b6⟩ := bm
  have hbG : bm ≠ mainGlobals := fun z => by
    rw [z, g1] at b3; cases b3; rw [g2] at b6; cases b6
  have hbA : s.heap.BuiltinsAt X.mg P := ⟨bm, ob, b1, b2, hbG, neP _ (I.bs _ _ b3).2, I.bk _ _ b3, b4, b5, b6⟩
  obtain ⟨ps, hps, ht⟩ := (show ObjOk X.prog X.w H s.heap P (.tbl _) from I.hok P _ hP)
  rcases ht with rfl | ⟨l, k, q', t', c', e1, e2, e3, e4⟩
  · refine PySem.W.kla_makeFunction (mg := X.mg) hcl I.ok.glob hg hcode (C.keeps I.bk) hps trivial rfl hgP hbA fun c' ctv h' tk hx hge hlt hrec htb => ?_
    have hcn : H c' = none := I.hok.fresh hge
    have htb' : h'.get? P = some (PySem.W.tabObj #[rawInt lpos.line, rawInt lpos.col, .ref c']) := by simpa using htb
    have kp : ∀ b o, b ≠ P → s.heap.get? b = some o → (h'.push (PySem.W.kla_obj "<lambda>" q params body lsc cl ((X.mg "__name__").getD .none) c' ctv)).get? b = some o := fun b o hb e => Heap.get?_push_of_some _ (hx b o hb e)
    have hrec' := hrec.keeps (h' := h'.push (PySem.W.kla_obj "<lambda>" q params body lsc cl ((X.mg "__name__").getD .none) c' ctv)) fun b o e => Heap.get?_push_of_some _ e
    have cP : c' ≠ P := fun z => by rw [z, hP] at hcn; cases hcn
    have sm : Same H (upd H c' (.own P)) := fun b o e => by rw [upd_ne (ne_of_none e hcn)]; exact e
    refine h h'.objs.size c' _ ctv (upd H c' (.own P)) _ (I.un (t' := tk) (h' := h'.push (PySem.W.kla_obj "<lambda>" q params body lsc cl ((X.mg "__name__").getD .none) c' ctv)) ⟨fun b o e n _ _ => kp b o (neP b n) e, fun b o e n _ _ => ⟨o.slots, kp b o (neP b n) e⟩, fun b o e n _ => ?_, fun b o e _ => ?_, fun b xs e => sm _ _ e, fun b o u e => sm _ _ e, fun b ps e => ⟨#[], by rw [sm _ _ e]; simp⟩⟩ fun b u e => ?_) sm kp (Heap.get?_push_size _ rfl) hrec'
    · rw [upd_ne (Nat.ne_of_lt (Nat.lt_of_lt_of_le (Heap.lt_size e) hge))]; exact n
    · by_cases hb : b = P
      · subst hb; exact ⟨_, Heap.get?_push_of_some _ htb'⟩
      · exact ⟨o, kp b o hb e⟩
    · by_cases hb : b = c'
      · subst hb
        rw [upd_same] at e
        cases e
        obtain ⟨c2, oc, vs, t, f1, f2, _⟩ := hrec'
        cases f1
        exact ⟨oc, f2⟩
      · rw [upd_ne hb] at e
        by_cases hbP : b = P
        · subst hbP
          rw [hP] at e
          cases e
          exact ⟨_, Heap.get?_push_of_some _ htb', .inr ⟨_, _, q, tq, c', rfl, rfl, upd_same, hrec'⟩⟩
        · refine (I.hok b u e).stay (fun d v hd r => kp d v ?_ r) (fun d r => sm _ _ r) fun d xs r => sm _ _ r
          rcases hd with z | z
          · rw [z]; exact hbP
          · intro w; rw [w, hP] at z; cases z
  · have eq : l = rawInt lpos.line ∧ k = rawInt lpos.col ∧ q' = q := by
      have := congrArg Array.toList e1
      simp only [List.cons.injEq, and_true] at this
      obtain ⟨a, b, d⟩ := this
      cases d
      exact ⟨a.symm, b.symm, rfl⟩
    obtain ⟨rfl, rfl, rfl⟩ := eq
    subst e2
    have hf : codeAmong lpos (#[rawInt lpos.line, rawInt lpos.col, .ref c'] : Array Value).toList = some (.ref c') := by simp [codeAmong, rawInt]
    refine PySem.W.kla_makeFunctionHit (mg := X.mg) hcl I.ok.glob hg hcode (C.keeps I.bk) hps (by simp [TriplesOk, rawInt]) hf hbA fun ctv h' tk hk hsz => ?_
    refine h h'.objs.size c' _ ctv H _ (I.kept (t' := tk) fun b o e => Heap.get?_push_of_some _ (hk b o e)) (Same.refl _) (fun b o _ e => Heap.get?_push_of_some _ (hk b o e)) (Heap.get?_push_size _ rfl) (e4.keeps fun b o e => Heap.get?_push_of_some _ (hk b o e))
noncomputable def tSortBy (K : PySem.W.Frag) (iy : Nat) (P : Addr) (d : Array Value) (te : TE) : TE := fun σ H Q => te σ H fun x H1 => ∃ (n : Nat) (t a0 : Addr) (rows : List V) (ks : List Int), x = .int (n : Int) ∧ n < 64 ∧ σ[iy]? = some (some (.ref t)) ∧ SqL K H1 t rows ∧ rows[0]? = some (.ref a0) ∧ SqL K H1 a0 (ks.map V.int) ∧ n ≤ ks.length ∧ H1 P = some (.tbl d) ∧
   ∀ (l : Addr) (os : List Nat) (H' : Hp), Same H1 H' → H1 l = none → H' l = some (.lst (os.map fun (u : Nat) => V.int (u : Int))) → os.Perm (List.range n) → os.Pairwise (fun u v => ks.getD u 0 ≤ ks.getD v 0) → Q (.ref l) H'
theorem ints_vals {vs : List Value} {os : List Nat} (h : IntsAre vs (os.map fun (u : Nat) => (u : Int))) : Vals (os.map fun (u : Nat) => V.int (u : Int)) vs := by
  have q := vals_of_ints h
  rw [List.map_map] at q
  exact q
theorem pe_sortBy {e : Expr} {te : TE} {p p2 pos pos2 p1 p3 p4 p5 p6 kp lpos : Pos} {kd : Nat} {x y : Str} {params : Arguments} {lsc : Scope} {c P ca : Addr} {q : Str} {tq : Tok} {iy : Nat} {k : Nat}
    (hcm : X.calm = true) (hr : Room k X.A) (hg : Gl X "sorted") (hm : X.mg "sorted" = none) (hg2 : Gl X "range") (hm2 : X.mg "range" = none) (he : PE X e te)
    (hcode : X.env.code = .ref c) (C : PySem.W.CodeHd X.base c P) (bm : BMain X.mg X.base) (hca : X.env.cells.lookup y = some ca) (hky : X.env.kindOf y = some .cell) (hcl : closureFor lsc X.env = pure [(y, ca)]) (hq : X.env.qual ++ "<lambda>" = q) (hdef : defaultsOf params X.env = ([], []))
    (hN : X.N[iy]? = some y) (hvy : Vis X.env.scope y)
    (hb : ∀ pm cd ctv v, bindArgs (PySem.W.kla_fn "<lambda>" q params (.Subscript (.Subscript (.Name y p1) (.Constant (.int 0) kd p3) p4) (.Name x p5) p6) lsc [(y, ca)] pm cd ctv) ⟨[v], []⟩ = pure [(x, v)])
    (hk : lsc.kind = .function) (hco : lsc.isCoroutine = false) (hgen : lsc.isGenerator = false) (hnc : ∀ z ∈ lsc.names, z.2 ≠ .cell) (hx : lsc.names.lookup x = some .local) (hy : lsc.names.lookup y = some .free)
    (hdx : (x == ("__debug__" : Str)) = false) (hdy : (y == ("__debug__" : Str)) = false) (hdz : (y == ("__classdict__" : Str)) = false)
    (hs1 : starEach [.Call (.Name "range" p2) [e] [] pos2] X.env = [(false, eval (.Call (.Name "range" p2) [e] [] pos2) X.env)] := by rfl) (hs2 : starEach [e] X.env = [(false, eval e X.env)] := by rfl) :
    PE X (.Call (.Name "sorted" p) [.Call (.Name "range" p2) [e] [] pos2] [⟨some "key", .Lambda params (.Subscript (.Subscript (.Name y p1) (.Constant (.int 0) kd p3) p4) (.Name x p5) p6) lsc lpos, kp⟩] pos) (tSortBy X.K iy P #[rawInt lpos.line, rawInt lpos.col, .str q tq] te) := by
  intro pins s σ H Q I h
  refine wpAny_Call_Name_kw (ld_blt I hg hm boot_sorted ?_)
  refine callWith_kw ?_ (by rw [hs1]; rfl) (by rw [hs1]; rfl)
  rw [hs1]
  refine Calls.spliced_cons ?_
  refine wpAny_Call_Name_kw (ld_blt I hg2 hm2 boot_range ?_)
  refine PyProof.Rows.callWith_type1 ?_ hs2 rfl
  rw [hs2]
  refine Calls.spliced_cons (thn (he pins s σ H _ I h) fun u s1 ⟨x', H1, I1, r1, q1⟩ => Calls.spliced_nil ?_)
  obtain ⟨n, t, a0, rows, ks, rfl, h64, hσ, hrows, hr0, hks, hnk, hP, hQ⟩ := q1
  obtain ⟨tt, rfl⟩ := r1
  refine call_range_1 (Calls.spliced_nil ?_)
  refine kws_cons ?_
  have I2 : Inv X pins σ H1 { s1 with heap := s1.heap.push { cls := .type "range", data := .fields #[.int 0 s1.toks, .int (n : Int) tt, .int 1 (s1.toks + 1)] }, toks := s1.toks + 1 + 1 } := I1.kept fun b o e => Heap.get?_push_of_some _ e
  refine lam_made I2 hcode C bm hcl hP hq hdef fun f c' pm ctv H3 s3 I3 sm3 kp3 hf hcd => ?_
  refine kws_nil ?_
  show wpAny _ _ (call (.builtin "sorted") [.ref s1.heap.objs.size] [("key", .ref f)]) _ _ s3
  have hr3 : IsRange s3.heap s1.heap.objs.size 0 (n : Int) 1 s1.toks tt (s1.toks + 1) := kp3 _ _ (Nat.ne_of_gt (I1.hok.lt hP)) (IsRange.new ..)
  obtain ⟨m, hn, hl⟩ := I3.loc
  obtain ⟨u, ru, look⟩ := hl iy y (.ref t) hN hσ hvy
  cases ru
  have hcell : s3.heap.IsCell ca (some (.ref t)) := by
    rcases look with ⟨k1, _⟩ | ⟨_, c0, e0, z⟩
    · rw [hky] at k1; cases k1
    · rw [hca] at e0; cases e0; exact z
  obtain ⟨its, rv, pl, hz⟩ := I3.list (sm3.seq hrows)
  obtain ⟨its0, rv0, pl0, hz0⟩ := I3.list (sm3.seq hks)
  obtain ⟨u0, hu0, ru0⟩ := rv.get hr0
  cases ru0
  refine sorted_by (ks := ks) (I3.ok.hd hcm) hr3 h64 (fun A' h' tk i ti Q' E' hA hi hk' hq' => ?_) fun h1 h' tk out os e k1 k2 ha1 o1 o2 o3 => ?_
  · have hi0 : (ks.map V.int)[i]? = some (.int (ks.getD i 0)) := by
      rw [List.getElem?_map, List.getD_eq_getElem?_getD, List.getElem?_eq_getElem (by omega)]
      rfl
    obtain ⟨u, hu, t1, rfl⟩ := rv0.get hi0
    exact key_call (s := { s3 with heap := h', toks := tk }) (by rw [hA]; exact hr.depth) (I3.nolimit.keeps hk') (hk' _ _ hf) (hcd.keeps hk') (fun v => hb _ _ _ v) hk hco hgen hnc hx hy hdx hdy hdz (ca := ca) (by simp) (hcell.keeps hk') (pl.isList.at fun o e => hk' _ _ e) (by simpa using hu0) (pl0.isList.at fun o e => hk' _ _ e) (by simpa using hu) (by omega) fun h2 tk2 k2 => hq' h2 tk2 _ k2
  · have I4 : Inv X pins σ H3 { s3 with heap := h1, toks := s3.toks } := I3.kept k1
    have hf1 : H3 h1.objs.size = none := I4.hok.fresh (Nat.le_refl _)
    have hlen : os.length = n := by rw [o2.length_eq, List.length_range]
    have I5 := I4.laid (a := h1.objs.size) (o := .lst (os.map fun (u : Nat) => V.int (u : Int))) (t' := tk) (h' := h') k2 (Nat.le_refl _) ⟨by rw [List.length_map, sizeLine_eq]; omega, out, e, ints_vals o1, ha1⟩
    exact ⟨.ref h1.objs.size, _, I5, rfl, hQ _ os _ (sm3.trans (Same.upd hf1)) (sm3.free hf1) upd_same o2 o3⟩
end
theorem comp_enum {K : PySem.W.Frag} {H : Hp} {Q : VK} {a : Addr} {xs : List V} {tc : TT} {te : TE} {cvs : List V} (hz : xs.length ≤ 100000) (Pv : Addr → Nat → List V → Hp → Prop)
    (h0 : ∀ D, H D = none → Pv D 0 [] (upd H D (.lst []))) (hD : ∀ D i acc H', H D = none → i ≤ xs.length → Pv D i acc H' → H' D = some (.lst acc) ∧ acc.length ≤ i ∧ SqL K H' a xs)
    (hs : ∀ D i x acc H' p (N : List V → Hp → Prop), H D = none → xs[i]? = some x → acc.length < sizeLine → H' p = none → (∀ acc' H2, Pv D (i + 1) acc' H2 → N acc' H2) → Pv D i acc H' → tc (some (.int i) :: some x :: cvs.map some) (upd H' p (.tup [.int i, x])) fun b H2 => if b = true then te (some (.int i) :: some x :: cvs.map some) H2 fun v H3 => H3 D = some (.lst acc) ∧ acc.length < sizeLine ∧ N (acc ++ [v]) (upd H3 D (.lst (acc ++ [v]))) else N acc H2)
    (hd : ∀ D acc H', H D = none → Pv D xs.length acc H' → Q (.ref D) H') : compK2 tc te cvs Q (Ite K a) H := by
  intro D hDn
  refine ⟨fun i m acc H' => m = xs.length - i ∧ i ≤ xs.length ∧ Pv D i acc H', ⟨_, rfl, Nat.zero_le _, h0 D hDn⟩, ?_⟩
  rintro i m acc H' ⟨rfl, hi, hp⟩
  obtain ⟨d1, d2, d3⟩ := hD D i acc H' hDn hi hp
  refine ⟨d1, ?_⟩
  by_cases hlt : i < xs.length
  · refine .inr ⟨⟨xs, xs[i], d3, by simp [hlt]⟩, fun v H2 y => ?_⟩
    obtain ⟨p, rfl, hpn, x, hx, rfl⟩ := y
    refine ⟨p, .int i, x, rfl, upd_same, ?_⟩
    exact hs D i x acc H' p (fun acc' H2 => ∃ m', m' < xs.length - i ∧ (m' = xs.length - (i + 1) ∧ i + 1 ≤ xs.length ∧ Pv D (i + 1) acc' H2)) hDn (hx xs d3) (by rw [sizeLine_eq]; omega) hpn (fun acc' H2 hq => ⟨_, by omega, rfl, hlt, hq⟩) hp
  · have e : i = xs.length := by omega
    subst e
    exact .inl ⟨⟨xs, d3, Nat.le_refl _⟩, hd D acc H' hDn hp⟩
section
variable {X : Cx}
noncomputable def rGetL (K : PySem.W.Frag) : V → V → Hp → VK → Prop := fun o i H Q => ∃ (p : Addr) (xs : List V) (j : Nat) (v : V), o = .ref p ∧ i = .int (j : Int) ∧ SqL K H p xs ∧ xs[j]? = some v ∧ Q v H
theorem get_listL : PGet X (rGetL X.K) := by
  intro pins s σ H o i ov iv Q I ro ri h
  obtain ⟨p, xs, j, z, rfl, rfl, hq, he, q⟩ := h
  cases ro
  obtain ⟨t, rfl⟩ := ri
  obtain ⟨its, r, pl, hz⟩ := I.list hq
  obtain ⟨w, ew, rw'⟩ := r.get he
  have hl := r.length
  have hn := line63
  have hj : j < xs.length := (List.getElem?_eq_some_iff.mp he).1
  exact wpAny_getItem_list pl.isList (by omega) (by omega) (by simpa using ew) ⟨z, H, I, rw', q⟩
theorem wp_augS {to ti te : TE} {tget : V → V → Hp → VK → Prop} {tip : TIp} {tset : TSet} {D : Ends} {σ : St} {H : Hp} (h : to σ H fun o H1 => ti σ H1 fun i H2 => tget o i H2 fun x H3 => te σ H3 fun y H4 => tip x y H4 fun z H5 => tset o i z H5 fun H6 => D.nx σ H6) : tAugS to ti te tget tip tset D σ H := h
theorem wp_ipI {f : Int → Int → Int} {i j : Int} {H : Hp} {Q : VK} (h : Q (.int (f i j)) H) : ipI f (.int i) (.int j) H Q := ⟨i, j, rfl, rfl, h⟩
theorem wp_sortBy {K : PySem.W.Frag} {iy : Nat} {P : Addr} {d : Array Value} {te : TE} {σ : St} {H : Hp} {Q : VK} (h : te σ H fun x H1 => ∃ (n : Nat) (t a0 : Addr) (rows : List V) (ks : List Int), x = .int (n : Int) ∧ n < 64 ∧ σ[iy]? = some (some (.ref t)) ∧ SqL K H1 t rows ∧ rows[0]? = some (.ref a0) ∧ SqL K H1 a0 (ks.map V.int) ∧ n ≤ ks.length ∧ H1 P = some (.tbl d) ∧
   ∀ (l : Addr) (os : List Nat) (H' : Hp), Same H1 H' → H1 l = none → H' l = some (.lst (os.map fun (u : Nat) => V.int (u : Int))) → os.Perm (List.range n) → os.Pairwise (fun u v => ks.getD u 0 ≤ ks.getD v 0) → Q (.ref l) H') : tSortBy K iy P d te σ H Q := h
end
structure FnC (K : PySem.W.Frag) (mg : Str → Option Value) (x : Str) (st : Stmt) (ps : List Str) (c : Addr) : Prop where
  ex : ∃ f fd, Fun K x x st f fd ∧ mg x = some (.ref f) ∧ Binds K fd ps [] ∧ fd.code = .ref c
section
variable {P : Program} {w : World} {K : PySem.W.Frag} {mg : Str → Option Value} {base : Heap}
theorem FnC.ok {x : Str} {st : Stmt} {N ps : List Str} {k : Nat} {sp : Sp} {c : Addr} (F : FnC K mg x st ps c) (S : FnScope N ps (defScope st)) (len : ∀ vs H Q E, sp vs H Q E → vs.length = ps.length)
    (hbody : ∀ (f : Addr) (A : Around) (outer : List Env) (s : Shared) (H : Hp) (vs : List V) (Q : VK) (E : XK), Room k (A.deeper (envOfC x (defScope st) s.heap.objs.size f (.ref c))) → sp vs H Q E →
      ∃ t, PSs (cxOf CX0 P w K mg base N x (defScope st) f (.ref c) A outer s H E).nox (defBody st) t ∧ t { nx := fun _ H' => Q .non H', rt := Q } (start N vs) H) : FnAll P w K mg base x (k + 1) ps sp := by
  obtain ⟨f, fd, F, hm, hb, hc⟩ := F.ex
  obtain ⟨oc, od, kV, doc, pm, an, cdv, ct, osl, rfl, lk, hcd⟩ := id F.ex
  have ec : cdv = .ref c := hc
  subst ec
  refine ⟨f, _, fn_of lk hcd S len fun A outer s H vs Q E hr hsp => ?_, hm, F.kp, hb⟩
  obtain ⟨t, h, q⟩ := hbody f A outer s H vs Q E hr hsp
  exact ⟨t, h.nox, q⟩
end
theorem law_callT {P : Program} {w : World} {K : PySem.W.Frag} {mg mb : Str → Option Value} {CX : CXT} {k : Nat} {fa a tb c : Addr} {d : Array Value} {fd : FuncData} {x : Str} {sp : Sp} {s₁ : Shared} {vs : List Value} {ns : List Int}
    (KX : K.In s₁.heap) (hns : s₁.heap.Ns mainGlobals mg) (hb : s₁.heap.Ns builtinsNs mb) (hbb : ∀ x : Str, x ≠ "__name__" → mb x = bootBuiltins x) (hlim : s₁.heap.NoLimit) (hg : s₁.gens = #[])
    (hbm : BMain mg s₁.heap) (hT : s₁.heap.get? tb = some (PySem.W.tabObj #[])) (hC : PySem.W.CodeHd s₁.heap c tb) (hKT : K.lookup tb = none)
    (ha : s₁.heap.get? a = some { cls := .type "list", data := .seq vs.toArray }) (hi : IntsAre vs ns) (hl : ns.length ≤ sizeLine) (hr : Room k callerA)
    (F : ∀ base : Heap, K.In base → base.Ns mainGlobals mg → BMain mg base → FnOk P w K mg base CX k fa fd [x] sp) (hbind : ∀ (s : Shared) (u : Value), BindsTo s fd ⟨[u], []⟩ [(x, u)])
    (hsp : ∀ H : Hp, H tb = some (.tbl d) → SqL K H a (ns.map V.int) → sp [.ref a] H (fun v _ => v = .bl true) fun _ _ _ => False)
    (hCX : ∀ H e s', CX [] H s₁ (fun _ _ _ => False) e s' → False) :
    codeAny (model P w) callerA (.call (.ref fa) ⟨[.ref a], []⟩) (fun r s' => r = .ok (.ret (.bool true)) ∧ OldK s₁.heap s'.heap ∧ s'.os = s₁.os ∧ AllBare s'.gens) s₁ := by
  have rv := vals_ints hi
  have lenV := hi.length
  have hat : a ≠ tb := fun z => by rw [z, hT] at ha; cases ha
  have core : ∀ H : Hp, H tb = some (.tbl d) → (H a = none ∨ ∃ o xs, H a = some (.frz o (.lst xs))) → SqL K H a (ns.map V.int) → HOk P w H s₁.heap → (∀ b, H b ≠ none → b = a ∨ b = tb) → (H a ≠ none → K.lookup a = none) →
      codeAny (model P w) callerA (.call (.ref fa) ⟨[.ref a], []⟩) (fun r s' => r = .ok (.ret (.bool true)) ∧ OldK s₁.heap s'.heap ∧ s'.os = s₁.os ∧ AllBare s'.gens) s₁ := by
    intro H hHT hO hS hok hA hK
    have base_of : ∀ {b : Addr} {o : Obj}, s₁.heap.get? b = some o → H b = none → (hidT s₁.heap H).get? b = some o := fun e n => hidT_get e n
    have noB : ∀ {b : Addr} {o : Obj}, s₁.heap.get? b = some o → (∀ xs n, o.data ≠ .seq xs n) → (∀ xs, o.data ≠ .fields xs) → H b = none := fun {b o} e d1 d2 => by
      cases q : H b with
      | none => rfl
      | some u =>
        rcases hA b (by rw [q]; simp) with e' | e'
        · subst e'
          rw [ha] at e; cases e
          exact absurd rfl (d1 _ _)
        · subst e'
          rw [hT] at e; cases e
          exact absurd rfl (d2 _)
    have nsK : ∀ {b : Addr} {m : Str → Option Value}, s₁.heap.Ns b m → (hidT s₁.heap H).Ns b m := fun {b m} ⟨o, es, ep, e, d, r⟩ => ⟨o, es, ep, base_of e (noB e (fun xs n z => by rw [d] at z; cases z) (fun xs z => by rw [d] at z; cases z)), d, r⟩
    have hKb : K.In (hidT s₁.heap H) := fun b o e => base_of (KX b o e) (by
      cases q : H b with
      | none => rfl
      | some u =>
        rcases hA b (by rw [q]; simp) with e' | e'
        · subst e'
          rw [hK (by rw [q]; simp)] at e; cases e
        · subst e'
          rw [hKT] at e; cases e)
    have hbK : BMain mg (hidT s₁.heap H) := let ⟨bm, ob, b1, b2, b3, b4, b5, b6⟩ := hbm; ⟨bm, ob, b1, b2, base_of b3 (noB b3 (fun xs n z => by rw [b6] at z; cases z) (fun xs z => by rw [b6] at z; cases z)), b4, b5, b6⟩
    have hM : Mod K mg (hidT s₁.heap H) := ⟨hKb, nsK hns, ⟨mb, nsK hb, hbb⟩, let ⟨mc, h1, h2⟩ := hlim; ⟨mc, nsK h1, h2⟩⟩
    have e0 : Env0 P w K mg (hidT s₁.heap H) callerA [] s₁ H := ⟨rfl, hM, fun b o e => of_hidT e, Nat.le_of_eq (hidT_size _ _), trivial, fun b hb => absurd (show b ∈ ([] : List Addr) from hb) (by simp), hok, .of_eq hg⟩
    refine codeAny_mono ((F _ hKb (nsK hns) hbK).run callerA [] s₁ H ⟨[.ref a], []⟩ [.ref a] [.ref a] _ _ hr e0 (hbind s₁ (.ref a)) (.cons rfl .nil) (hsp H hHT hS)) fun r s' h => ?_
    cases r with
    | error e => exact (hCX H e s' h).elim
    | ok fl =>
      cases fl with
      | next => exact False.elim h
      | brk => exact False.elim h
      | cont => exact False.elim h
      | ret u =>
        obtain ⟨v, H', os, bare, un, hok', r', q⟩ := h
        have q' : v = .bl true := q
        subst q'
        obtain rfl : u = Value.bool true := r'
        have keep : ∀ b o, b ≠ tb → s₁.heap.get? b = some o → s'.heap.get? b = some o := fun b o hbt e => by
          cases q : H b with
          | none => exact un.keep b o e q (by intro z; exact absurd (show b ∈ ([] : List Addr) from z) (by simp)) (by simp)
          | some u =>
            rcases hA b (by rw [q]; simp) with z | z
            · subst z
              rcases hO with z | ⟨ob, xs, z⟩
              · rw [q] at z; cases z
              · have z2 := un.frzs b ob _ z
                obtain ⟨e1, _⟩ := hok b _ z
                obtain ⟨e2, _⟩ := hok' b _ z2
                rw [e] at e1; cases e1
                exact e2
            · exact absurd z hbt
        obtain ⟨more, e2⟩ := un.tbls tb d hHT
        obtain ⟨ps, e3, _⟩ := (show ObjOk P w H' s'.heap tb (.tbl _) from hok' tb _ e2)
        refine ⟨rfl, ⟨fun b o e => ?_, fun b o e => ?_⟩, os, bare⟩
        · by_cases hbt : b = tb
          · subst hbt
            rw [hT] at e
            cases e
            exact .inr (.inl ⟨(hC.tab hT).isCodeTable, rfl, #[], ps, rfl, by rw [Array.empty_append]; exact e3⟩)
          · exact .inl (keep b o hbt e)
        · by_cases hbt : b = tb
          · subst hbt
            exact ⟨_, e3⟩
          · exact ⟨o, keep b o hbt e⟩
  cases hk : K.lookup a with
  | some o =>
    have e := KX a o hk
    rw [ha] at e
    cases e
    refine core (fun b => if b = tb then some (.tbl d) else none) (if_pos rfl) (.inl (if_neg hat)) (.inr ⟨_, vs.toArray, _, hk, rfl, rfl, rfl, by rw [List.size_toArray, lenV]; exact hl, by simpa using rv⟩) (fun b u z => ?_) (fun b z => ?_) fun z => absurd (if_neg hat) z
    · by_cases hb : b = tb
      · have z' := (if_pos hb).symm.trans z
        cases z'
        subst hb
        exact ⟨#[], hT, .inl rfl⟩
      · have z' := (if_neg hb).symm.trans z
        cases z'
    · by_cases hb : b = tb
      · exact .inr hb
      · exact absurd (if_neg hb) z
  | none =>
    refine core (fun b => if b = tb then some (.tbl d) else if b = a then some (.frz { cls := .type "list", data := .seq vs.toArray } (.lst (ns.map V.int))) else none) (if_pos rfl) (.inr ⟨_, _, (if_neg hat).trans (if_pos rfl)⟩) (.inl (.inr ⟨{ cls := .type "list", data := .seq vs.toArray }, (if_neg hat).trans (if_pos rfl)⟩)) (fun b u z => ?_) (fun b z => ?_) fun _ => hk
    · by_cases hb : b = tb
      · have z' := (if_pos hb).symm.trans z
        cases z'
        subst hb
        exact ⟨#[], hT, .inl rfl⟩
      · by_cases hba : b = a
        · have z' := ((if_neg hb).trans (if_pos hba)).symm.trans z
          cases z'
          subst hba
          exact ⟨ha, by rw [List.length_map]; exact hl, vs, _, rv, ha⟩
        · have z' := ((if_neg hb).trans (if_neg hba)).symm.trans z
          cases z'
    · by_cases hb : b = tb
      · exact .inr hb
      · by_cases hba : b = a
        · exact .inl hba
        · exact absurd ((if_neg hb).trans (if_neg hba)) z
theorem walk_ofT {l : PySem.W.OpenLaw} {n k : Nat} {q : Program} {loose : List Str} {XP : (Str → Option Value) → Heap → Prop} {YP : World → Heap → Prop} {d : DefRec} {K : Params → PySem.W.Frag} {CX : World → CXT} {sp : World → Sp} {x : Str} {tb c : Addr} {td : Array Value}
    (hn : l.most = some n) (hn2 : n ≤ sizeLine) (hdf : d.params.defaults = []) (hr : Room k callerA)
    (hY : ∀ (w : World) (h : Heap), YP w h → (K w.params).In h) (hYT : ∀ (w : World) (h : Heap), YP w h → h.get? tb = some (PySem.W.tabObj #[])) (hKC : ∀ (w : World) (h : Heap), (K w.params).In h → PySem.W.CodeHd h c tb) (hKT : ∀ w : World, (K w.params).lookup tb = none)
    (F : ∀ (w : World) (mg : Str → Option Value) (fa : Addr) (h : Heap), (K w.params).In h → h.Ns mainGlobals mg → mg d.name = some (.ref fa) →
      ∃ fd : FuncData, (∀ (s : Shared) (u : Value), BindsTo s fd ⟨[u], []⟩ [(x, u)]) ∧
        ∀ base : Heap, (K w.params).In base → base.Ns mainGlobals mg → BMain mg base → FnOk l.prog w (K w.params) mg base (CX w) k fa fd [x] (sp w))
    (hsp : ∀ (w : World) (H : Hp) (a : Addr) (ns : List Int), ns.length ≤ n → H tb = some (.tbl td) → SqL (K w.params) H a (ns.map V.int) → sp w [.ref a] H (fun v _ => v = .bl true) fun _ _ _ => False)
    (hCX : ∀ (w : World) (H : Hp) (s : Shared) (e : Value) (s' : Shared), CX w [] H s (fun _ _ _ => False) e s' → False) :
    PySem.W.WalkO q loose XP YP l.row.toRowW d [] (fun f vs => PySem.call f vs) := by
  refine Att.attach_call hn hdf fun w s₀ s₁ mg mb fa o pm cd doc a vs ns G Y ho hd hcd hmg hobj hints hlen hg => ?_
  have KX := hY w _ Y
  obtain ⟨fd, hb, hF⟩ := F w mg fa _ KX G.T.g hmg
  exact law_callT KX G.T.g G.T.b G.T.builtins G.T.nolimit hg G.T.bmain (hYT w _ Y) (hKC w _ KX) (hKT w) hobj hints (Nat.le_trans hlen hn2) hr hF hb (fun H hO hS => hsp w H a ns hlen hO hS) fun H e s' => hCX w H s₁ e s'
end L2
set_option Elab.async false
set_option linter.all false
set_option maxRecDepth 100000
set_option maxHeartbeats 0
namespace L2
open PySem PySem.Spec PyProof.Rows
noncomputable def rAny : List V → Hp → VK → Prop := fun xs H Q => ∃ (a : Addr) (bs : List Bool), xs = [.ref a] ∧ H a = some (.lst (bs.map V.bl)) ∧ Q (.bl (bs.any id)) H
theorem call_anyL {X : Cx} (hc : X.calm = true) : CallR X (.builtin "any") rAny := by
  intro pins s σ H xs us Q I r h
  obtain ⟨a, bs, rfl, ha, q⟩ := h
  obtain ⟨u, rfl, ru⟩ := vals1 r
  cases ru
  obtain ⟨its, rv, p, hz⟩ := I.list (.inl (.inl ha))
  have hl := rv.length
  rw [List.length_map] at hl
  have hab : a < s.heap.objs.size := I.hok.lt ha
  refine call_any_walk (wpAny_pyIter_list p.isList ?_)
  refine ⟨s.heap.objs.size, _, _, _, _, _, fun i => bs.getD i false, rfl, Walks.list (A := X.A.in1) (by first | exact I.ok.hd hc | simpa [Around.in1] using I.ok.hd hc) s.heap.objs.size a (Nat.ne_of_lt hab) its.toArray, ?_, ?_, fun h' tk hk => ?_⟩
  · exact ⟨⟨_, Heap.get?_push_size _ rfl, rfl, rfl⟩, p.isList.at fun o e => Heap.get?_push_of_some _ e⟩
  · intro i v s' Q' E' hv hq
    have hv' : its[i]? = some v := by simpa using hv
    have hi : i < its.length := (List.getElem?_eq_some_iff.mp hv').1
    have hb : (bs.map V.bl)[i]? = some (V.bl (bs[i]'(by omega))) := by rw [List.getElem?_map, List.getElem?_eq_getElem (by omega)]; rfl
    obtain ⟨u, e1, e2⟩ := rv.get hb
    rw [hv'] at e1
    cases e1
    have e2' : v = Value.bool (bs[i]'(by omega)) := e2
    subst e2'
    refine wpAny_truthy_bool ?_
    have e3 : bs.getD i false = bs[i]'(by omega) := by simp [List.getD, List.getElem?_eq_getElem (show i < bs.length by omega)]
    have hq' : Q' (bs.getD i false) s' := hq
    rw [e3] at hq'
    exact hq'
  · refine ⟨.bl (bs.any id), H, I.kept (t' := tk) fun b u e => hk b u (fun z => ?_) (Heap.get?_push_of_some _ e), ?_, q⟩
    · have : b = s.heap.objs.size := by simpa using z
      exact absurd (Heap.lt_size e) (by rw [this]; exact Nat.lt_irrefl _)
    · show _ = Value.bool _
      have : its.toArray.size = bs.length := by simp [hl]
      rw [this]
      congr 1
      clear q ha rv hz hl p hab hk this r
      induction bs with
      | nil => rfl
      | cons b bs ih => rw [List.length_cons, List.range_succ_eq_map, List.any_cons, List.any_map, List.any_cons, ← ih]; rfl
theorem wp_anyL {H : Hp} {Q : VK} {a : Addr} {bs : List Bool} (h : H a = some (.lst (bs.map V.bl))) (q : Q (.bl (bs.any id)) H) : rAny [.ref a] H Q := ⟨a, bs, rfl, h, q⟩
noncomputable def rInI : R2 := fun x y H Q => ∃ (a : Addr) (kvs : List (Key × V)) (i : Int), y = .ref a ∧ H a = some (.dK kvs) ∧ x = .int i ∧ Q (.bl (valV kvs (.inl i)).isSome) H
theorem op_inI {X : Cx} (hu : X.A.units + 1 < cLine) : OpR X (compareOp .In) rInI := by
  intro pins s σ H x y v u Q I rx ry h
  obtain ⟨a, kvs, i, rfl, e, rfl, q⟩ := h
  cases ry
  exact d_in hu I (DGet.k (k := .inl i) e) rx fun s' I' => ⟨.bl _, H, I', rfl, q⟩
theorem wp_inI {H : Hp} {Q : VK} {a : Addr} {kvs : List (Key × V)} {i : Int} (h : H a = some (.dK kvs)) (q : Q (.bl (valV kvs (.inl i)).isSome) H) : rInI (.int i) (.ref a) H Q := ⟨a, kvs, i, rfl, h, rfl, q⟩
end L2
set_option Elab.async false
set_option linter.all false
set_option maxRecDepth 100000
set_option maxHeartbeats 0
namespace L2
open PySem PySem.Spec PyProof.Rows
end L2
set_option Elab.async false
set_option linter.all false
set_option maxRecDepth 100000
set_option maxHeartbeats 0
namespace Ts
open PySem PyProof.Rows
noncomputable abbrev N (x : Keyed) : Int := numOf x.1
noncomputable def IK (x : Keyed) : Prop := ∃ n t, x.1 = .int n t
structure SB (a₀ : Array Keyed) (st : SortSt) : Prop where
  perm : (arrOf st).Perm a₀
  kind : kindOf st = oneType'
  failed : failedOf st = none
structure Gd (a₀ : Array Keyed) : Prop where
  ik : ∀ p, p ∈ a₀.toList → IK p
  nd : (a₀.toList.map N).Nodup
noncomputable def Sg (xs : Array Keyed) (lo hi : Nat) : Prop := ∀ i j, lo ≤ i → i ≤ j → j < hi → K xs i ≤ K xs j
noncomputable def Off (xs ys : Array Keyed) (lo hi : Nat) : Prop := ∀ i, i < lo ∨ hi ≤ i → K xs i = K ys i
theorem K_at {xs : Array Keyed} {i : Nat} (h : i < xs.size) : K xs i = N xs[i] := by unfold K; rw [getElem?_pos xs i h]
section
variable {prog : Program} {w : World} {A : Around} {E : Value → Shared → Prop} {s : Shared} {a₀ : Array Keyed}
theorem SB.sz {st : SortSt} (h : SB a₀ st) : (arrOf st).size = a₀.size := h.perm.size_eq
theorem SB.arr {st : SortSt} (h : SB a₀ st) {xs : Array Keyed} (hp : xs.Perm (arrOf st)) : SB a₀ (setArr st xs) := ⟨hp.trans h.perm, h.kind, h.failed⟩
theorem ik_perm {xs : Array Keyed} (g : Gd a₀) (h : xs.Perm a₀) {i : Nat} (hi : i < xs.size) : IK xs[i] :=
  g.ik _ ((Array.perm_iff_toList_perm.mp h).mem_iff.mp (by simp))
theorem nd_perm {xs : Array Keyed} (g : Gd a₀) (h : xs.Perm a₀) : (xs.toList.map N).Nodup :=
  (((Array.perm_iff_toList_perm.mp h).map N).nodup_iff).mpr g.nd
theorem inj_perm {xs : Array Keyed} (g : Gd a₀) (h : xs.Perm a₀) {i j : Nat} (hi : i < xs.size) (hj : j < xs.size) (e : K xs i = K xs j) : i = j := by
  rw [K_at hi, K_at hj] at e
  have nd := nd_perm g h
  have pw := List.pairwise_iff_getElem.mp nd
  rcases Nat.lt_trichotomy i j with q | q | q
  · exact absurd (show (xs.toList.map N)[i]'(by simpa using hi) = (xs.toList.map N)[j]'(by simpa using hj) by simp only [List.getElem_map, Array.getElem_toList]; exact e) (pw i j (by simpa using hi) (by simpa using hj) q)
  · exact q
  · exact absurd (show (xs.toList.map N)[j]'(by simpa using hj) = (xs.toList.map N)[i]'(by simpa using hi) by simp only [List.getElem_map, Array.getElem_toList]; exact e.symm) (pw j i (by simpa using hj) (by simpa using hi) q)
theorem wp_lt {st : SortSt} {x y : Keyed} {Q : Option Bool → SortSt → Prop} (hk : kindOf st = oneType') (hx : IK x) (hy : IK y)
    (h : Q (some (decide (N x < N y))) st) : wpS (model prog w) A E s (lt' x y) Q st := by
  obtain ⟨⟨x1, x2⟩, ⟨y1, y2⟩⟩ := (x, y)
  obtain ⟨a, t, hx⟩ := hx
  obtain ⟨b, u, hy⟩ := hy
  rw [lt'_eq]
  refine wpS_bind (wpS_get ?_)
  rw [hk, keyLt'_oneType, hx, hy]
  refine wpS_bind (wpS_lift (wpAny_attempt (oneLt_int ⟨rfl, ?_⟩)))
  unfold N at h
  rw [hx, hy] at h
  exact wpS_pure h
theorem wp_elem {st : SortSt} {xs : Array Keyed} {i : Nat} {Q : Keyed → SortSt → Prop} (hi : i < xs.size) (h : Q xs[i] st) : wpS (model prog w) A E s (elem' xs i) Q st := by
  rw [elem'_eq, getElem?_pos xs i hi]
  exact wpS_pure h
theorem wp_ltAt {st : SortSt} {i j : Nat} {Q : Option Bool → SortSt → Prop} (g : Gd a₀) (hB : SB a₀ st) (hi : i < a₀.size) (hj : j < a₀.size)
    (h : Q (some (decide (K (arrOf st) i < K (arrOf st) j))) st) : wpS (model prog w) A E s (ltAt' i j) Q st := by
  rw [ltAt'_eq]
  have hi' : i < (arrOf st).size := by rw [hB.sz]; exact hi
  have hj' : j < (arrOf st).size := by rw [hB.sz]; exact hj
  refine wpS_bind (wpS_get ?_)
  refine wpS_bind (wp_elem hi' (wpS_bind (wp_elem hj' (wp_lt hB.kind (ik_perm g hB.perm hi') (ik_perm g hB.perm hj') ?_))))
  rw [← K_at hi', ← K_at hj']
  exact h
theorem Sg.one {xs : Array Keyed} {lo : Nat} : Sg xs lo (lo + 1) := by
  intro i j a b c
  have : i = j := by omega
  subst this
  exact Int.le_refl _
theorem Sg.more {xs : Array Keyed} {lo n : Nat} (h : Sg xs lo (lo + n)) (h1 : 1 ≤ n) (le : ¬ K xs (lo + n) < K xs (lo + n - 1)) : Sg xs lo (lo + (n + 1)) := by
  intro i j a b c
  rcases Nat.lt_or_ge j (lo + n) with q | q
  · exact h i j a b q
  · have : j = lo + n := by omega
    subst this
    rcases Nat.lt_or_ge i (lo + n) with q | q
    · exact Int.le_trans (h i (lo + n - 1) a (by omega) (by omega)) (Int.not_lt.mp le)
    · have : i = lo + n := by omega
      subst this; exact Int.le_refl _
noncomputable def Dg (xs : Array Keyed) (lo hi : Nat) : Prop := ∀ i j, lo ≤ i → i < j → j < hi → K xs j < K xs i
theorem Dg.more {xs : Array Keyed} {lo n : Nat} (h : Dg xs lo (lo + n)) (h1 : 1 ≤ n) (le : K xs (lo + n) < K xs (lo + n - 1)) : Dg xs lo (lo + (n + 1)) := by
  intro i j a b c
  rcases Nat.lt_or_ge j (lo + n) with q | q
  · exact h i j a b q
  · have : j = lo + n := by omega
    subst this
    rcases Nat.lt_or_ge i (lo + n - 1) with q | q
    · exact Int.lt_trans le (h i (lo + n - 1) a q (by omega))
    · have : i = lo + n - 1 := by omega
      subst this; exact le
theorem Off.refl {xs : Array Keyed} {lo hi : Nat} : Off xs xs lo hi := fun _ _ => rfl
theorem Off.wide {xs ys : Array Keyed} {lo hi lo' hi' : Nat} (h : Off xs ys lo hi) (a : lo' ≤ lo) (b : hi ≤ hi') : Off xs ys lo' hi' := fun i q => h i (by omega)
theorem Sg.off {xs ys : Array Keyed} {lo hi l r : Nat} (h : Sg ys l r) (o : Off xs ys lo hi) (q : r ≤ lo ∨ hi ≤ l) : Sg xs l r := by
  intro i j a b c
  rw [o i (by omega), o j (by omega)]
  exact h i j a b c
theorem wp_binarySort {st : SortSt} {lo n ok : Nat} {Q : Bool → SortSt → Prop} (g : Gd a₀) (hn : lo + n ≤ a₀.size) (hok : ok ≤ n) (hB : SB a₀ st) (hs : Sg (arrOf st) lo (lo + ok))
    (h : ∀ st', SB a₀ st' → Sg (arrOf st') lo (lo + n) → Off (arrOf st') (arrOf st) lo (lo + n) → pendingOf st' = pendingOf st → Q true st') :
    wpS (model prog w) A E s (binarySort' lo n ok) Q st := by
  rw [binarySort'_eq]
  refine wpS_bind (wpS_mono (wpS_forRange (I := fun k c z => c = (none, ()) ∧ SB a₀ z ∧ Sg (arrOf z) lo (lo + min k n) ∧ Off (arrOf z) (arrOf st) lo (lo + n) ∧ pendingOf z = pendingOf st)
    (Q := fun c z => c = (none, ()) ∧ SB a₀ z ∧ Sg (arrOf z) lo (lo + n) ∧ Off (arrOf z) (arrOf st) lo (lo + n) ∧ pendingOf z = pendingOf st) ?a ?b ?c) ?d)
  case d => rintro c z ⟨rfl, h1, h2, h3, h4⟩; exact wpS_pure (h z h1 h2 h3 h4)
  case c =>
    refine ⟨rfl, hB, fun i j a b d => ?_, Off.refl, rfl⟩
    rcases Nat.lt_or_ge j (lo + ok) with z | z
    · exact hs i j a b z
    · have : i = j := by omega
      subst this; exact Int.le_refl _
  case b =>
    rintro c z ⟨hc, h1, h2, h3⟩
    refine ⟨hc, h1, fun i j a b d => h2 i j a b (by omega), h3⟩
  case a =>
    rintro k c z ak kn ⟨rfl, h1, h2, h3, h4⟩
    have h2 : Sg (arrOf z) lo (lo + k) := fun i j a b d => h2 i j a b (by omega)
    have hk : lo + k < a₀.size := by omega
    refine wpS_bind (wpS_mono (wpS_forRange (I := fun x c y => y = z ∧ ∃ l r, c = (none, l, r) ∧ l ≤ r ∧ r ≤ k ∧ r - l ≤ k - x ∧
        (∀ i, lo ≤ i → i < lo + l → K (arrOf z) i ≤ K (arrOf z) (lo + k)) ∧ (∀ i, lo + r ≤ i → i < lo + k → K (arrOf z) (lo + k) ≤ K (arrOf z) i))
      (Q := fun c y => y = z ∧ ∃ l r, c = (none, l, r) ∧ l ≤ k ∧
        (∀ i, lo ≤ i → i < lo + l → K (arrOf z) i ≤ K (arrOf z) (lo + k)) ∧ (∀ i, lo + l ≤ i → i < lo + k → K (arrOf z) (lo + k) ≤ K (arrOf z) i)) ?a1 ?b1 ?c1) ?d1)
    case c1 => exact ⟨rfl, 0, k, rfl, by omega, by omega, by omega, fun i _ _ => by omega, fun i _ _ => by omega⟩
    case b1 =>
      rintro c y ⟨rfl, l, r, rfl, q1, q2, q3, q4, q5⟩
      have : r = l := by omega
      subst this
      exact ⟨rfl, r, r, rfl, q2, q4, q5⟩
    case a1 =>
      rintro x c y _ xk ⟨rfl, l, r, rfl, q1, q2, q3, q4, q5⟩
      dsimp only
      by_cases ge : l ≥ r
      · rw [if_pos ge]
        have : r = l := by omega
        subst this
        exact wpS_pure ⟨rfl, r, r, rfl, q2, q4, q5⟩
      · rw [if_neg ge]
        refine wpS_bind (wp_ltAt g h1 hk (by omega) ?_)
        by_cases le : K (arrOf y) (lo + k) < K (arrOf y) (lo + (l + r) / 2)
        · simp only [le, decide_true, if_true]
          refine wpS_pure ⟨rfl, l, (l + r) / 2, rfl, by omega, by omega, by omega, q4, fun i a b => ?_⟩
          exact Int.le_trans (Int.le_of_lt le) (h2 _ _ (by omega) a b)
        · simp only [le, decide_false, Bool.false_eq_true, if_false]
          refine wpS_pure ⟨rfl, (l + r) / 2 + 1, r, rfl, by omega, by omega, by omega, fun i a b => ?_, q5⟩
          exact Int.le_trans (h2 i (lo + (l + r) / 2) a (by omega) (by omega)) (Int.not_lt.mp le)
    case d1 =>
      rintro c y ⟨rfl, l, r, rfl, lk, q4, q5⟩
      show wpS _ _ _ _ (do moveDown' (lo + k) (lo + l); pure (ForInStep.yield (none, ()))) _ _
      rw [moveDown'_eq]
      have hks : lo + k < (arrOf y).size := by rw [h1.sz]; exact hk
      have kb : ∀ i, K (bubble (arrOf y) (lo + k) (lo + k - (lo + l))) i = if i = lo + l then K (arrOf y) (lo + k) else if lo + l < i ∧ i ≤ lo + k then K (arrOf y) (i - 1) else K (arrOf y) i := by
        intro i
        rw [K_bubble hks (by omega), show lo + k - (lo + k - (lo + l)) = lo + l by omega]
      refine wpS_bind (wpS_modify (wpS_pure ⟨rfl, h1.arr (bubble_perm _ _ _), ?_, fun i a => ?_, h4⟩))
      · intro i j a b c
        show K (bubble (arrOf y) (lo + k) (lo + k - (lo + l))) i ≤ K (bubble (arrOf y) (lo + k) (lo + k - (lo + l))) j
        rw [kb, kb]
        repeat' split
        all_goals first
          | (exfalso; omega)
          | exact Int.le_refl _
          | exact q4 _ (by omega) (by omega)
          | exact q5 _ (by omega) (by omega)
          | exact h2 _ _ (by omega) (by omega) (by omega)
      · show K (bubble (arrOf y) (lo + k) (lo + k - (lo + l))) i = _
        rw [kb, if_neg (by omega), if_neg (by omega)]
        exact h3 i a
theorem wp_countRun {st : SortSt} {lo nr : Nat} {Q : Option Nat → SortSt → Prop} (g : Gd a₀) (hn : lo + nr ≤ a₀.size) (h1r : 1 ≤ nr) (hB : SB a₀ st)
    (h : ∀ n st', 1 ≤ n → n ≤ nr → SB a₀ st' → Sg (arrOf st') lo (lo + n) → Off (arrOf st') (arrOf st) lo (lo + nr) → pendingOf st' = pendingOf st → Q (some n) st') :
    wpS (model prog w) A E s (countRun' lo nr) Q st := by
  rw [countRun'_eq]
  refine wpS_bind (wpS_mono (wpS_forRange (I := fun x c z => z = st ∧ ∃ n, c = (none, n) ∧ n = x ∧ Sg (arrOf z) lo (lo + n))
    (Q := fun c z => z = st ∧ ∃ n, c = (none, n) ∧ 1 ≤ n ∧ n ≤ nr ∧ Sg (arrOf z) lo (lo + n) ∧ (n < nr → K (arrOf z) (lo + n) < K (arrOf z) (lo + n - 1))) ?a ?b ?c) ?d)
  case c => exact ⟨rfl, 1, rfl, rfl, Sg.one⟩
  case b =>
    rintro c z ⟨rfl, n, rfl, hx, hs⟩
    exact ⟨rfl, n, rfl, by omega, by omega, hs, fun q => by omega⟩
  case a =>
    rintro x c z x1 xn ⟨rfl, n, rfl, rfl, hs⟩
    dsimp only
    refine wpS_bind (wp_ltAt g hB (by omega) (by omega) ?_)
    by_cases le : K (arrOf z) (lo + n) < K (arrOf z) (lo + n - 1)
    · simp only [le, decide_true, if_true]
      exact wpS_pure ⟨rfl, n, rfl, by omega, by omega, hs, fun _ => le⟩
    · simp only [le, decide_false, Bool.false_eq_true, if_false]
      exact wpS_pure ⟨rfl, n + 1, rfl, rfl, hs.more x1 le⟩
  case d =>
    rintro c z ⟨rfl, n, rfl, n1, nn, hs, hd⟩
    dsimp only
    by_cases en : n = nr
    · rw [if_pos (by simpa using en)]
      exact wpS_pure (h n z n1 nn hB hs Off.refl rfl)
    · rw [if_neg (by simpa using en)]
      have nl : n < nr := by omega
      by_cases n2 : n > 1
      · rw [if_pos n2]
        refine wpS_bind (wp_ltAt g hB (by omega) (by omega) ?_)
        have le : K (arrOf z) lo < K (arrOf z) (lo + n - 1) := by
          have q := hs lo (lo + n - 1) (Nat.le_refl _) (by omega) (by omega)
          rcases Int.lt_or_eq_of_le q with q | q
          · exact q
          · have := inj_perm g hB.perm (by rw [hB.sz]; omega) (by rw [hB.sz]; omega) q
            omega
        simp only [le, decide_true, if_true]
        exact wpS_pure (h n z n1 nn hB hs Off.refl rfl)
      · rw [if_neg n2]
        have : n = 1 := by omega
        subst this
        refine wpS_bind (wpS_lift (wpAny_rule ⟨rfl, ?_⟩))
        have hd := hd nl
        refine wpS_bind (wpS_mono (wpS_forRange (I := fun x c y => y = z ∧ ∃ n, c = (none, n, 0) ∧ n = x ∧ Dg (arrOf z) lo (lo + n))
          (Q := fun c y => y = z ∧ ∃ n, c = (none, n, 0) ∧ 2 ≤ n ∧ n ≤ nr ∧ Dg (arrOf z) lo (lo + n)) ?a1 ?b1 ?c1) ?d1)
        case c1 =>
          refine ⟨rfl, 2, rfl, rfl, fun i j a b c => ?_⟩
          have e : j = lo + 1 := by omega
          have e2 : i = lo := by omega
          subst e e2
          exact hd
        case b1 =>
          rintro c y ⟨rfl, n, rfl, hx, hs⟩
          exact ⟨rfl, n, rfl, by omega, by omega, hs⟩
        case a1 =>
          rintro x c y x1 xn ⟨rfl, n, rfl, rfl, hs⟩
          dsimp only
          refine wpS_bind (wp_ltAt g hB (by omega) (by omega) ?_)
          by_cases le : K (arrOf y) (lo + n) < K (arrOf y) (lo + n - 1)
          · simp only [le, decide_true, if_true, Nat.lt_irrefl, gt_iff_lt, if_false]
            exact wpS_pure ⟨rfl, n + 1, rfl, rfl, hs.more (by omega) le⟩
          · simp only [le, decide_false, Bool.false_eq_true, if_false]
            refine wpS_bind (wp_ltAt g hB (by omega) (by omega) ?_)
            have lt : K (arrOf y) (lo + n - 1) < K (arrOf y) (lo + n) := by
              rcases Int.lt_or_eq_of_le (Int.not_lt.mp le) with q | q
              · exact q
              · have := inj_perm g hB.perm (by rw [hB.sz]; omega) (by rw [hB.sz]; omega) q
                omega
            simp only [lt, decide_true, if_true]
            exact wpS_pure ⟨rfl, n, rfl, by omega, by omega, hs⟩
        case d1 =>
          rintro c y ⟨rfl, n, rfl, n2', nn', hs'⟩
          simp only [Nat.lt_irrefl, gt_iff_lt, if_false]
          rw [reverseSlice'_eq]
          have hm : lo + n ≤ (arrOf y).size := by rw [hB.sz]; omega
          refine wpS_bind (wpS_modify ?_)
          have hB2 : SB a₀ (setArr y (mirror (arrOf y) lo (lo + n) ((lo + n - lo) / 2))) := hB.arr (mirror_perm _ _ _ _)
          have hs2 : Sg (mirror (arrOf y) lo (lo + n) ((lo + n - lo) / 2)) lo (lo + n) := by
            intro i j a b c
            rw [K_mirror hm, K_mirror hm, if_pos ⟨a, by omega⟩, if_pos ⟨by omega, c⟩]
            rcases Nat.lt_or_ge i j with q | q
            · exact Int.le_of_lt (hs' _ _ (by omega) (by omega) (by omega))
            · have : i = j := by omega
              subst this; exact Int.le_refl _
          have ho2 : Off (mirror (arrOf y) lo (lo + n) ((lo + n - lo) / 2)) (arrOf y) lo (lo + nr) := by
            intro i q
            rw [K_mirror hm, if_neg (by omega)]
          have e2 : arrOf (setArr y (mirror (arrOf y) lo (lo + n) ((lo + n - lo) / 2))) = mirror (arrOf y) lo (lo + n) ((lo + n - lo) / 2) := rfl
          rw [← e2] at hs2 ho2
          have pe : pendingOf (setArr y (mirror (arrOf y) lo (lo + n) ((lo + n - lo) / 2))) = pendingOf y := rfl
          show wpS _ _ _ _ _ _ (setArr y (mirror (arrOf y) lo (lo + n) ((lo + n - lo) / 2)))
          generalize setArr y (mirror (arrOf y) lo (lo + n) ((lo + n - lo) / 2)) = z2 at hB2 hs2 ho2 pe ⊢
          refine wpS_bind (wpS_mono (wpS_forRange (I := fun x c q => q = z2 ∧ ∃ n, c = (none, n) ∧ n = x ∧ Sg (arrOf z2) lo (lo + n))
            (Q := fun c q => q = z2 ∧ ∃ n, c = (none, n) ∧ 1 ≤ n ∧ n ≤ nr ∧ Sg (arrOf z2) lo (lo + n)) ?a2 ?b2 ?c2) ?d2)
          case c2 => exact ⟨rfl, n, rfl, rfl, hs2⟩
          case b2 =>
            rintro c y ⟨rfl, n, rfl, hx, hs⟩
            exact ⟨rfl, n, rfl, by omega, by omega, hs⟩
          case a2 =>
            rintro x c y x1 xn ⟨rfl, n, rfl, rfl, hs⟩
            dsimp only
            refine wpS_bind (wp_ltAt g hB2 (by omega) (by omega) ?_)
            by_cases le : K (arrOf y) (lo + n) < K (arrOf y) (lo + n - 1)
            · simp only [le, decide_true, if_true]
              exact wpS_pure ⟨rfl, n, rfl, by omega, by omega, hs⟩
            · simp only [le, decide_false, Bool.false_eq_true, if_false]
              exact wpS_pure ⟨rfl, n + 1, rfl, rfl, hs.more (by omega) le⟩
          case d2 =>
            rintro c y ⟨rfl, n, rfl, n3, n4, hs3⟩
            exact wpS_pure (h n y n3 n4 hB2 hs3 ho2 pe)
end
end Ts
set_option Elab.async false
set_option linter.all false
set_option maxRecDepth 100000
set_option maxHeartbeats 0
namespace Ts
open PySem PyProof.Rows
noncomputable def gal : Bool → Keyed → Array Keyed → Nat → Nat → Nat → StateT SortSt Sem (Option Nat) := sortPriv% PySem.Builtin.gallop
noncomputable def bd (l : Bool) (ky : Keyed) (xs : Array Keyed) (b i : Nat) : StateT SortSt Sem (Option Bool) := do
  let x ← elem' xs (b + i)
  if l then lt' x ky else return (← lt' ky x).map (!·)
theorem gal_eq (l : Bool) (ky : Keyed) (xs : Array Keyed) (b n hn : Nat) : gal l ky xs b n hn = (do
  let mut la := 0; let mut of := 1; let mut p := 0; let mut q := 0
  let some r ← bd l ky xs b hn | return none
  if r then
    let mx := n - hn
    for _ in [0:n] do
      if of ≥ mx then break
      let some mo ← bd l ky xs b (hn + of) | return none
      if !mo then break
      la := of; of := 2 * of + 1
    p := hn + la + 1; q := hn + min of mx
  else
    let mx := hn + 1
    for _ in [0:n] do
      if of ≥ mx then break
      let some fo ← bd l ky xs b (hn - of) | return none
      if fo then break
      la := of; of := 2 * of + 1
    p := hn + 1 - min of mx; q := hn - la
  for _ in [0:n] do
    if p ≥ q then break
    let m := p + (q - p) / 2
    let some mo ← bd l ky xs b m | return none
    if mo then p := m + 1 else q := m
  return some q) := rfl
noncomputable def Bv (l : Bool) (ky : Keyed) (xs : Array Keyed) (b i : Nat) : Bool := if l then decide (K xs (b + i) < N ky) else !decide (N ky < K xs (b + i))
section
variable {prog : Program} {w : World} {A : Around} {E : Value → Shared → Prop} {s : Shared}
theorem wp_bd {st : SortSt} {l : Bool} {ky : Keyed} {xs : Array Keyed} {b i : Nat} {Q : Option Bool → SortSt → Prop} (hk : kindOf st = oneType') (iy : IK ky) (hi : b + i < xs.size) (ix : IK xs[b + i])
    (h : Q (some (Bv l ky xs b i)) st) : wpS (model prog w) A E s (bd l ky xs b i) Q st := by
  unfold bd
  refine wpS_bind (wp_elem hi ?_)
  unfold Bv at h
  rw [K_at hi] at h
  cases l with
  | true => exact wp_lt hk ix iy h
  | false => exact wpS_bind (wp_lt hk iy ix (wpS_pure h))
theorem wp_gal {st : SortSt} {l : Bool} {ky : Keyed} {xs : Array Keyed} {b n hn : Nat} {Q : Option Nat → SortSt → Prop} (hk : kindOf st = oneType') (iy : IK ky) (hz : b + n ≤ xs.size)
    (ix : ∀ i (h : i < xs.size), IK xs[i]) (hh : hn < n) (mo : ∀ i j, i ≤ j → j < n → Bv l ky xs b j = true → Bv l ky xs b i = true)
    (h : ∀ k, k ≤ n → (∀ i, i < k → Bv l ky xs b i = true) → (∀ i, k ≤ i → i < n → Bv l ky xs b i = false) → Q (some k) st) :
    wpS (model prog w) A E s (gal l ky xs b n hn) Q st := by
  have mo' : ∀ i j, i ≤ j → j < n → Bv l ky xs b i = false → Bv l ky xs b j = false := by
    intro i j a c d
    cases e : Bv l ky xs b j with
    | false => rfl
    | true => rw [mo i j a c e] at d; cases d
  have fin : ∀ p q, p ≤ q → q ≤ n → (∀ i, i < p → Bv l ky xs b i = true) → (∀ i, q ≤ i → i < n → Bv l ky xs b i = false) →
      wpS (model prog w) A E s (do
        let mut p := p; let mut q := q
        for _ in [0:n] do
          if p ≥ q then break
          let m := p + (q - p) / 2
          let some mo ← bd l ky xs b m | return none
          if mo then p := m + 1 else q := m
        return some q) Q st := by
    intro p q pq qn hp hq
    refine wpS_bind (wpS_mono (wpS_forRange (I := fun x c z => z = st ∧ ∃ p q, c = (none, p, q) ∧ p ≤ q ∧ q ≤ n ∧ q - p ≤ n - x ∧ (∀ i, i < p → Bv l ky xs b i = true) ∧ (∀ i, q ≤ i → i < n → Bv l ky xs b i = false))
      (Q := fun c z => z = st ∧ ∃ p, c = (none, p, p) ∧ p ≤ n ∧ (∀ i, i < p → Bv l ky xs b i = true) ∧ (∀ i, p ≤ i → i < n → Bv l ky xs b i = false)) ?a ?b ?c) ?d)
    case c => exact ⟨rfl, p, q, rfl, pq, qn, by omega, hp, hq⟩
    case b =>
      rintro c z ⟨rfl, p, q, rfl, a1, a2, a3, a4, a5⟩
      have : q = p := by omega
      subst this
      exact ⟨rfl, q, rfl, a2, a4, a5⟩
    case a =>
      rintro x c z _ xn ⟨rfl, p, q, rfl, a1, a2, a3, a4, a5⟩
      dsimp only
      by_cases ge : p ≥ q
      · rw [if_pos ge]
        have : q = p := by omega
        subst this
        exact wpS_pure ⟨rfl, q, rfl, a2, a4, a5⟩
      · rw [if_neg ge]
        refine wpS_bind (wp_bd hk iy (by omega) (ix _ _) ?_)
        cases e : Bv l ky xs b (p + (q - p) / 2) with
        | true =>
          simp only [if_true]
          exact wpS_pure ⟨rfl, _, q, rfl, by omega, by omega, by omega, fun i c => mo i _ (by omega) (by omega) e, a5⟩
        | false =>
          simp only [Bool.false_eq_true, if_false]
          exact wpS_pure ⟨rfl, p, _, rfl, by omega, by omega, by omega, a4, fun i c d => mo' _ i c d e⟩
    case d =>
      rintro c z ⟨rfl, p, rfl, a1, a2, a3⟩
      exact wpS_pure (h p a1 a2 a3)
  rw [gal_eq]
  refine wpS_bind (wp_bd hk iy (by omega) (ix _ _) ?_)
  dsimp only
  cases e : Bv l ky xs b hn with
  | true =>
    simp only [if_true]
    refine wpS_bind (wpS_mono (wpS_forRange (I := fun x c z => z = st ∧ ∃ la of, c = (none, la, of) ∧ la < of ∧ la < n - hn ∧ x + 1 ≤ of ∧ Bv l ky xs b (hn + la) = true)
      (Q := fun c z => z = st ∧ ∃ la of, c = (none, la, of) ∧ la < of ∧ la < n - hn ∧ Bv l ky xs b (hn + la) = true ∧ (of < n - hn → Bv l ky xs b (hn + of) = false)) ?a3 ?b3 ?c3) ?d3)
    case c3 => exact ⟨rfl, 0, 1, rfl, by omega, by omega, by omega, e⟩
    case b3 =>
      rintro c z ⟨rfl, la, of, rfl, a1, a2, a3, a4⟩
      exact ⟨rfl, la, of, rfl, a1, a2, a4, fun q => by omega⟩
    case a3 =>
      rintro x c z _ xn ⟨rfl, la, of, rfl, a1, a2, a3, a4⟩
      dsimp only
      by_cases ge : of ≥ n - hn
      · rw [if_pos ge]
        exact wpS_pure ⟨rfl, la, of, rfl, a1, a2, a4, fun q => by omega⟩
      · rw [if_neg ge]
        refine wpS_bind (wp_bd hk iy (by omega) (ix _ _) ?_)
        cases e : Bv l ky xs b (hn + of) with
        | true =>
          simp only [Bool.not_true, Bool.false_eq_true, if_false]
          exact wpS_pure ⟨rfl, of, _, rfl, by omega, by omega, by omega, e⟩
        | false =>
          simp only [Bool.not_false, if_true]
          exact wpS_pure ⟨rfl, la, of, rfl, a1, a2, a4, fun _ => e⟩
    case d3 =>
      rintro c z ⟨rfl, la, of, rfl, a1, a2, a4, a5⟩
      refine fin (hn + la + 1) (hn + min of (n - hn)) (by omega) (by omega) (fun i c => mo i _ (by omega) (by omega) a4) fun i c d => ?_
      rcases Nat.lt_or_ge of (n - hn) with q | q
      · exact mo' _ i (by omega) d (a5 q)
      · omega
  | false =>
    simp only [Bool.false_eq_true, if_false]
    refine wpS_bind (wpS_mono (wpS_forRange (I := fun x c z => z = st ∧ ∃ la of, c = (none, la, of) ∧ la < of ∧ la ≤ hn ∧ x + 1 ≤ of ∧ Bv l ky xs b (hn - la) = false)
      (Q := fun c z => z = st ∧ ∃ la of, c = (none, la, of) ∧ la < of ∧ la ≤ hn ∧ Bv l ky xs b (hn - la) = false ∧ (of ≤ hn → Bv l ky xs b (hn - of) = true)) ?a4 ?b4 ?c4) ?d4)
    case c4 => exact ⟨rfl, 0, 1, rfl, by omega, by omega, by omega, e⟩
    case b4 =>
      rintro c z ⟨rfl, la, of, rfl, a1, a2, a3, a4⟩
      exact ⟨rfl, la, of, rfl, a1, a2, a4, fun q => by omega⟩
    case a4 =>
      rintro x c z _ xn ⟨rfl, la, of, rfl, a1, a2, a3, a4⟩
      dsimp only
      by_cases ge : of ≥ hn + 1
      · rw [if_pos ge]
        exact wpS_pure ⟨rfl, la, of, rfl, a1, a2, a4, fun q => by omega⟩
      · rw [if_neg ge]
        refine wpS_bind (wp_bd hk iy (by omega) (ix _ _) ?_)
        cases e : Bv l ky xs b (hn - of) with
        | true =>
          simp only [if_true]
          exact wpS_pure ⟨rfl, la, of, rfl, a1, a2, a4, fun _ => e⟩
        | false =>
          simp only [Bool.false_eq_true, if_false]
          exact wpS_pure ⟨rfl, of, _, rfl, by omega, by omega, by omega, e⟩
    case d4 =>
      rintro c z ⟨rfl, la, of, rfl, a1, a2, a4, a5⟩
      refine fin (hn + 1 - min of (hn + 1)) (hn - la) (by omega) (by omega) (fun i c => ?_) fun i c d => mo' _ i c d a4
      rcases Nat.lt_or_ge hn of with q | q
      · omega
      · exact mo i _ (by omega) (by omega) (a5 q)
end
end Ts
set_option Elab.async false
set_option linter.all false
set_option maxRecDepth 100000
set_option maxHeartbeats 0
namespace Ts
open PySem PyProof.Rows
noncomputable def smg : Nat → StateT SortSt Sem Unit := sortPriv% PySem.Builtin.setMinGallop
noncomputable def mLo : Array Keyed → Array Keyed → StateT SortSt Sem (Array Keyed) := sortPriv% PySem.Builtin.mergeLo
noncomputable def mHi : Array Keyed → Array Keyed → StateT SortSt Sem (Array Keyed) := sortPriv% PySem.Builtin.mergeHi
noncomputable abbrev mgSt (st : SortSt) (g : Nat) : SortSt := SortSt.mk' (kindOf st) (arrOf st) (pendingOf st) g (failedOf st)
noncomputable abbrev dnA (a b o : Array Keyed) (i j : Nat) : Array Keyed := o ++ a.extract i a.size ++ b.extract j b.size
noncomputable abbrev laA (a b o : Array Keyed) (i j : Nat) : Array Keyed := o ++ b.extract j b.size ++ a.extract i a.size
noncomputable abbrev S5 := Option (Array Keyed) × Array Keyed × Nat × Nat × Nat
noncomputable abbrev S6 := Option (Array Keyed) × Array Keyed × Nat × Nat × Nat × Nat
noncomputable abbrev S7 := Option (Array Keyed) × Array Keyed × Nat × Nat × Nat × Nat × Nat
section
variable (a b : Array Keyed)
noncomputable def loA (i mg ac bc : Nat) (o : Array Keyed) (j : Nat) : StateT SortSt Sem (ForInStep S7) :=
  elem' a i >>= fun x => if (i + 1 + 1 == a.size) = true then pure (.done (some (laA a b (o.push x) (i + 1) j), o.push x, i + 1, j, mg, ac, bc))
    else if (decide (ac < 7) && decide (bc < 7)) = true then pure (.done (none, o.push x, i + 1, j, mg, ac, bc)) else pure (.yield (none, o.push x, i + 1, j, mg, ac, bc))
noncomputable def loC (j mg ac bc : Nat) (o : Array Keyed) (i : Nat) : StateT SortSt Sem (ForInStep S7) :=
  elem' b j >>= fun x => if (j + 1 == b.size) = true then pure (.done (some (dnA a b (o.push x) i (j + 1)), o.push x, i, j + 1, mg, ac, bc))
    else elem' a i >>= fun y => gal true y b (j + 1) (b.size - (j + 1)) 0 >>= fun r => match r with
  | some k => if k > 0 then (if (j + 1 + k == b.size) = true then pure (.done (some (dnA a b (o.push x ++ b.extract (j + 1) (j + 1 + k)) i (j + 1 + k)), o.push x ++ b.extract (j + 1) (j + 1 + k), i, j + 1 + k, mg, ac, k)) else loA a b i mg ac k (o.push x ++ b.extract (j + 1) (j + 1 + k)) (j + 1 + k)) else loA a b i mg ac k (o.push x) (j + 1)
  | _ => pure (.done (some (dnA a b (o.push x) i (j + 1)), o.push x, i, j + 1, mg, ac, bc))
noncomputable def loE (o : Array Keyed) (i j ac bc mg : Nat) : StateT SortSt Sem (ForInStep S7) :=
  smg mg >>= fun _ => elem' b j >>= fun x => gal false x a i (a.size - i) 0 >>= fun r => match r with
  | some k => if k > 0 then (if (i + k + 1 == a.size) = true then pure (.done (some (laA a b (o ++ a.extract i (i + k)) (i + k) j), o ++ a.extract i (i + k), i + k, j, mg, k, bc))
      else if (i + k == a.size) = true then pure (.done (some (dnA a b (o ++ a.extract i (i + k)) (i + k) j), o ++ a.extract i (i + k), i + k, j, mg, k, bc)) else loC a b j mg k bc (o ++ a.extract i (i + k)) (i + k)) else loC a b j mg k bc o i
  | _ => pure (.done (some (dnA a b o i j), o, i, j, mg, ac, bc))
noncomputable def lo3 (c : S7) : StateT SortSt Sem (ForInStep S7) :=
  if c.2.2.2.2.1 > 1 then loE a b c.2.1 c.2.2.1 c.2.2.2.1 c.2.2.2.2.2.1 c.2.2.2.2.2.2 (c.2.2.2.2.1 - 1) else loE a b c.2.1 c.2.2.1 c.2.2.2.1 c.2.2.2.2.2.1 c.2.2.2.2.2.2 c.2.2.2.2.1
noncomputable def lo2 (mg : Nat) (c : S6) : StateT SortSt Sem (ForInStep S6) :=
  elem' b c.2.2.2.1 >>= fun x => elem' a c.2.2.1 >>= fun y => lt' x y >>= fun r => match r with
  | some bw => if bw = true then elem' b c.2.2.2.1 >>= fun x => (if (c.2.2.2.1 + 1 == b.size) = true then pure (.done (some (dnA a b (c.2.1.push x) c.2.2.1 (c.2.2.2.1 + 1)), c.2.1.push x, c.2.2.1, c.2.2.2.1 + 1, 0, c.2.2.2.2.2 + 1))
        else if c.2.2.2.2.2 + 1 ≥ mg then pure (.done (none, c.2.1.push x, c.2.2.1, c.2.2.2.1 + 1, 0, c.2.2.2.2.2 + 1)) else pure (.yield (none, c.2.1.push x, c.2.2.1, c.2.2.2.1 + 1, 0, c.2.2.2.2.2 + 1)))
      else elem' a c.2.2.1 >>= fun x => (if (c.2.2.1 + 1 + 1 == a.size) = true then pure (.done (some (laA a b (c.2.1.push x) (c.2.2.1 + 1) c.2.2.2.1), c.2.1.push x, c.2.2.1 + 1, c.2.2.2.1, c.2.2.2.2.1 + 1, 0))
        else if c.2.2.2.2.1 + 1 ≥ mg then pure (.done (none, c.2.1.push x, c.2.2.1 + 1, c.2.2.2.1, c.2.2.2.2.1 + 1, 0)) else pure (.yield (none, c.2.1.push x, c.2.2.1 + 1, c.2.2.2.1, c.2.2.2.2.1 + 1, 0)))
  | _ => pure (.done (some (dnA a b c.2.1 c.2.2.1 c.2.2.2.1), c.2.1, c.2.2.1, c.2.2.2.1, c.2.2.2.2.1, c.2.2.2.2.2))
noncomputable def lo1 (c : S5) : StateT SortSt Sem (ForInStep S5) :=
  forIn [:a.size + b.size] (none, c.2.1, c.2.2.1, c.2.2.2.1, 0, 0) (fun _ d => lo2 a b c.2.2.2.2 d) >>= fun d => match d.1 with
  | some r => pure (.done (some r, d.2.1, d.2.2.1, d.2.2.2.1, c.2.2.2.2))
  | none => liftM (rule "list.sort.gallop") >>= fun _ => forIn [:a.size + b.size] (none, d.2.1, d.2.2.1, d.2.2.2.1, c.2.2.2.2 + 1, d.2.2.2.2.1, d.2.2.2.2.2) (fun _ c => lo3 a b c) >>= fun c => match c.1 with
    | some r => pure (.done (some r, c.2.1, c.2.2.1, c.2.2.2.1, c.2.2.2.2.1))
    | none => smg (c.2.2.2.2.1 + 1) >>= fun _ => pure (.yield (none, c.2.1, c.2.2.1, c.2.2.2.1, c.2.2.2.2.1 + 1))
theorem mLo_eq : mLo a b = (liftM (rule "list.sort.merge-lo") >>= fun _ => elem' b 0 >>= fun x => if (1 == b.size) = true then pure (dnA a b #[x] 0 1)
    else if (0 + 1 == a.size) = true then pure (laA a b #[x] 0 1)
    else get >>= fun z => forIn [:a.size + b.size] (none, #[x], 0, 1, gallopOf z) (fun _ c => lo1 a b c) >>= fun c => match c.1 with
      | some r => pure r
      | none => liftM (unsupported "internal:list.sort.merge-bound")) := by kernel_rfl
end
theorem sgP {a : Array Keyed} (h : Sg a 0 a.size) : a.toList.Pairwise fun x y => N x ≤ N y := by
  refine List.pairwise_iff_getElem.mpr fun i j hi hj ij => ?_
  have hi' : i < a.size := by simpa using hi
  have hj' : j < a.size := by simpa using hj
  have := h i j (Nat.zero_le _) (Nat.le_of_lt ij) hj'
  rw [K_at hi', K_at hj'] at this
  simpa only [Array.getElem_toList] using this
theorem ex_list {a : Array Keyed} {i k : Nat} (h : i + k ≤ a.size) : (a.extract i (i + k)).toList = (a.toList.drop i).take k := by
  rw [Array.toList_extract, List.extract_eq_take_drop]
  congr 1
  omega
theorem mem_ex {a : Array Keyed} {i k : Nat} (h : i + k ≤ a.size) {x : Keyed} (hx : x ∈ (a.extract i (i + k)).toList) : ∃ m, i ≤ m ∧ m < i + k ∧ N x = K a m := by
  rw [ex_list h] at hx
  obtain ⟨m, hm, e⟩ := List.mem_iff_getElem.mp hx
  have l : m < k := by
    have := hm
    rw [List.length_take] at this
    omega
  refine ⟨i + m, by omega, by omega, ?_⟩
  rw [K_at (by omega), ← e]
  simp
structure J (a b o : Array Keyed) (i j : Nat) : Prop where
  pm : (o.toList ++ (a.toList.drop i ++ b.toList.drop j)).Perm (a.toList ++ b.toList)
  so : o.toList.Pairwise fun x y => N x ≤ N y
  oa : ∀ x ∈ o.toList, ∀ m, i ≤ m → m < a.size → N x ≤ K a m
  ob : ∀ x ∈ o.toList, ∀ m, j ≤ m → m < b.size → N x ≤ K b m
noncomputable def Res (a b r : Array Keyed) : Prop := r.toList.Perm (a.toList ++ b.toList) ∧ r.toList.Pairwise fun x y => N x ≤ N y
section
variable {a b o : Array Keyed} {i j k : Nat}
theorem J.sw (h : J a b o i j) : J b a o j i :=
  ⟨((List.Perm.append_left _ List.perm_append_comm).trans h.pm).trans List.perm_append_comm, h.so, h.ob, h.oa⟩
theorem J.app (h : J a b o i j) (sa : Sg a 0 a.size) (hk : i + k ≤ a.size) (c : ∀ m, i ≤ m → m < i + k → ∀ m', j ≤ m' → m' < b.size → K a m ≤ K b m') : J a b (o ++ a.extract i (i + k)) (i + k) j := by
  have sp : (a.extract i (i + k)).toList ++ a.toList.drop (i + k) = a.toList.drop i := by
    rw [ex_list hk, ← List.drop_drop]
    exact List.take_append_drop k _
  have pe : (a.extract i (i + k)).toList.Pairwise fun x y => N x ≤ N y := by
    rw [ex_list hk]
    exact (sgP sa).sublist ((List.take_sublist _ _).trans (List.drop_sublist _ _))
  refine ⟨?_, ?_, ?_, ?_⟩
  · rw [Array.toList_append, List.append_assoc, ← List.append_assoc _ _ (b.toList.drop j), sp]
    exact h.pm
  · rw [Array.toList_append]
    refine List.pairwise_append.mpr ⟨h.so, pe, fun x hx y hy => ?_⟩
    obtain ⟨m, m1, m2, e⟩ := mem_ex hk hy
    rw [e]
    exact h.oa x hx m m1 (by omega)
  · intro x hx m m1 m2
    rw [Array.toList_append] at hx
    rcases List.mem_append.mp hx with hx | hx
    · exact h.oa x hx m (by omega) m2
    · obtain ⟨m', a1, a2, e⟩ := mem_ex hk hx
      rw [e]
      exact sa m' m (Nat.zero_le _) (by omega) m2
  · intro x hx m m1 m2
    rw [Array.toList_append] at hx
    rcases List.mem_append.mp hx with hx | hx
    · exact h.ob x hx m m1 m2
    · obtain ⟨m', a1, a2, e⟩ := mem_ex hk hx
      rw [e]
      exact c m' a1 a2 m m1 m2
theorem push_ex (hi : i < a.size) : o.push a[i] = o ++ a.extract i (i + 1) := by
  apply Array.toList_inj.mp
  rw [Array.toList_append, Array.toList_push, ex_list hi, List.drop_eq_getElem_cons (by simpa using hi)]
  simp
theorem J.push (h : J a b o i j) (sa : Sg a 0 a.size) (hi : i < a.size) (c : ∀ m', j ≤ m' → m' < b.size → K a i ≤ K b m') : J a b (o.push a[i]) (i + 1) j := by
  rw [push_ex hi]
  refine h.app sa hi fun m m1 m2 => ?_
  have : m = i := by omega
  subst this
  exact c
theorem J.dn (h : J a b o i j) (sa : Sg a 0 a.size) (sb : Sg b 0 b.size) (hi : i ≤ a.size) (hj : j ≤ b.size) (e : i = a.size ∨ j = b.size) : Res a b (dnA a b o i j) := by
  have l : (dnA a b o i j).toList = o.toList ++ (a.toList.drop i ++ b.toList.drop j) := by
    show (o ++ a.extract i a.size ++ b.extract j b.size).toList = _
    rw [Array.toList_append, Array.toList_append, List.append_assoc]
    congr 2
    · have := ex_list (a := a) (i := i) (k := a.size - i) (by omega)
      rw [show i + (a.size - i) = a.size by omega] at this
      rw [this]
      exact List.take_of_length_le (by simp)
    · have := ex_list (a := b) (i := j) (k := b.size - j) (by omega)
      rw [show j + (b.size - j) = b.size by omega] at this
      rw [this]
      exact List.take_of_length_le (by simp)
  refine ⟨l ▸ h.pm, ?_⟩
  rw [l]
  have ma : ∀ {c : Array Keyed} {i : Nat} {y : Keyed}, y ∈ c.toList.drop i → ∃ m, i ≤ m ∧ m < c.size ∧ N y = K c m := by
    intro c i y hy
    obtain ⟨m, hm, e⟩ := List.mem_iff_getElem.mp hy
    have l : m < c.size - i := by simpa using hm
    refine ⟨i + m, by omega, by omega, ?_⟩
    rw [K_at (by omega), ← e]
    simp
  refine List.pairwise_append.mpr ⟨h.so, List.pairwise_append.mpr ⟨(sgP sa).sublist (List.drop_sublist _ _), (sgP sb).sublist (List.drop_sublist _ _), fun x hx y hy => ?_⟩, fun x hx y hy => ?_⟩
  · obtain ⟨m, m1, m2, _⟩ := ma hx
    obtain ⟨m', m3, m4, _⟩ := ma hy
    omega
  · rcases List.mem_append.mp hy with hy | hy
    · obtain ⟨m, m1, m2, e⟩ := ma hy
      rw [e]; exact h.oa x hx m m1 m2
    · obtain ⟨m, m1, m2, e⟩ := ma hy
      rw [e]; exact h.ob x hx m m1 m2
theorem J.la (h : J a b o i j) (sa : Sg a 0 a.size) (sb : Sg b 0 b.size) (hi : i + 1 = a.size) (hj : j ≤ b.size) (c : ∀ m, m < b.size → K b m ≤ K a (a.size - 1)) : Res a b (laA a b o i j) := by
  have h1 := h.sw.app (k := b.size - j) sb (by omega) fun m m1 m2 m' m3 m4 => by
    have : m' = a.size - 1 := by omega
    subst this
    exact c m (by omega)
  rw [show j + (b.size - j) = b.size by omega] at h1
  have h2 := h1.sw.dn sa sb (by omega) (Nat.le_refl _) (.inr rfl)
  have e : dnA a b (o ++ b.extract j b.size) i b.size = laA a b o i j := by
    apply Array.toList_inj.mp
    simp
  rwa [e] at h2
end
end Ts
set_option Elab.async false
set_option linter.all false
set_option maxRecDepth 100000
set_option maxHeartbeats 0
namespace Ts
open PySem PyProof.Rows
section
variable {prog : Program} {w : World} {A : Around} {E : Value → Shared → Prop} {s : Shared}
theorem wp_galR {st : SortSt} {ky : Keyed} {xs : Array Keyed} {b n hn : Nat} {v : Int} {Q : Option Nat → SortSt → Prop} (hk : kindOf st = oneType') (iy : IK ky) (ev : N ky = v) (hz : b + n ≤ xs.size)
    (ix : ∀ i (h : i < xs.size), IK xs[i]) (hh : hn < n) (sx : Sg xs b (b + n))
    (h : ∀ k, k ≤ n → (∀ m, b ≤ m → m < b + k → K xs m ≤ v) → (∀ m, b + k ≤ m → m < b + n → v < K xs m) → Q (some k) st) :
    wpS (model prog w) A E s (gal false ky xs b n hn) Q st := by
  subst ev
  have bt : ∀ i, Bv false ky xs b i = true ↔ K xs (b + i) ≤ N ky := by
    intro i
    simp only [Bv, Bool.false_eq_true, if_false, Bool.not_eq_true', decide_eq_false_iff_not, Int.not_lt]
  refine wp_gal hk iy hz ix hh (fun i j a c d => ?_) fun k kn p q => h k kn (fun m a c => ?_) fun m a c => ?_
  · exact (bt i).mpr (Int.le_trans (sx _ _ (by omega) (by omega) (by omega)) ((bt j).mp d))
  · have := (bt (m - b)).mp (p _ (by omega))
    rwa [show b + (m - b) = m by omega] at this
  · have := q (m - b) (by omega) (by omega)
    rcases Int.lt_or_le (N ky) (K xs m) with z | z
    · exact z
    · rw [(bt (m - b)).mpr (by rw [show b + (m - b) = m by omega]; exact z)] at this
      cases this
theorem wp_galL {st : SortSt} {ky : Keyed} {xs : Array Keyed} {b n hn : Nat} {v : Int} {Q : Option Nat → SortSt → Prop} (hk : kindOf st = oneType') (iy : IK ky) (ev : N ky = v) (hz : b + n ≤ xs.size)
    (ix : ∀ i (h : i < xs.size), IK xs[i]) (hh : hn < n) (sx : Sg xs b (b + n))
    (h : ∀ k, k ≤ n → (∀ m, b ≤ m → m < b + k → K xs m < v) → (∀ m, b + k ≤ m → m < b + n → v ≤ K xs m) → Q (some k) st) :
    wpS (model prog w) A E s (gal true ky xs b n hn) Q st := by
  subst ev
  have bt : ∀ i, Bv true ky xs b i = true ↔ K xs (b + i) < N ky := by
    intro i
    simp only [Bv, if_true, decide_eq_true_eq]
  refine wp_gal hk iy hz ix hh (fun i j a c d => ?_) fun k kn p q => h k kn (fun m a c => ?_) fun m a c => ?_
  · exact (bt i).mpr (Int.lt_of_le_of_lt (sx _ _ (by omega) (by omega) (by omega)) ((bt j).mp d))
  · have := (bt (m - b)).mp (p _ (by omega))
    rwa [show b + (m - b) = m by omega] at this
  · have := q (m - b) (by omega) (by omega)
    rcases Int.lt_or_le (K xs m) (N ky) with z | z
    · rw [(bt (m - b)).mpr (by rw [show b + (m - b) = m by omega]; exact z)] at this
      cases this
    · exact z
noncomputable def Sim (st z : SortSt) : Prop := kindOf z = kindOf st ∧ arrOf z = arrOf st ∧ pendingOf z = pendingOf st ∧ failedOf z = failedOf st
theorem Sim.mg {st z : SortSt} (h : Sim st z) (g : Nat) : Sim st (mgSt z g) := ⟨h.1, h.2.1, h.2.2.1, h.2.2.2⟩
theorem wp_beq {σ α : Type} {x y : Nat} {m n : StateT σ Sem α} {Q : α → σ → Prop} {z : σ} (h1 : x = y → wpS (model prog w) A E s m Q z) (h2 : ¬ x = y → wpS (model prog w) A E s n Q z) :
    wpS (model prog w) A E s (if (x == y) = true then m else n) Q z := by
  by_cases e : x = y
  · rw [if_pos (by simpa using e)]; exact h1 e
  · rw [if_neg (by simpa using e)]; exact h2 e
theorem wp_ite {σ α : Type} {c : Prop} [Decidable c] {m n : StateT σ Sem α} {Q : α → σ → Prop} {z : σ} (h1 : c → wpS (model prog w) A E s m Q z) (h2 : ¬ c → wpS (model prog w) A E s n Q z) :
    wpS (model prog w) A E s (if c then m else n) Q z := by
  by_cases e : c
  · rw [if_pos e]; exact h1 e
  · rw [if_neg e]; exact h2 e
structure Gv (st : SortSt) (a b : Array Keyed) : Prop where
  hk : kindOf st = oneType'
  ia : ∀ i (h : i < a.size), IK a[i]
  ib : ∀ i (h : i < b.size), IK b[i]
  sa : Sg a 0 a.size
  sb : Sg b 0 b.size
  b1 : 1 ≤ b.size
  c0 : K b 0 ≤ K a 0
  cl : ∀ m, m < b.size → K b m ≤ K a (a.size - 1)
structure LQ {γ : Type} (st : SortSt) (a b : Array Keyed) (n : Nat) (Q : ForInStep (Option (Array Keyed) × Array Keyed × Nat × Nat × γ) → SortSt → Prop) : Prop where
  dn : ∀ r y z, Sim st z → Res a b r → Q (.done (some r, y)) z
  yy : ∀ o i j y z, Sim st z → J a b o i j → i + 1 < a.size → j < b.size → n ≤ i + j → Q (.yield (none, o, i, j, y)) z
structure LP {γ : Type} (st : SortSt) (a b : Array Keyed) (n : Nat) (Q : ForInStep (Option (Array Keyed) × Array Keyed × Nat × Nat × γ) → SortSt → Prop) : Prop extends LQ st a b n Q where
  nn : ∀ o i j y z, Sim st z → J a b o i j → i + 1 < a.size → j < b.size → n ≤ i + j → Q (.done (none, o, i, j, y)) z
section
variable {st z : SortSt} {a b o : Array Keyed} {n i j mg ac bc : Nat} {Q : ForInStep S7 → SortSt → Prop}
theorem wp_loA (G : Gv st a b) (P : LP st a b n Q) (sz : Sim st z) (hJ : J a b o i j) (hi : i + 1 < a.size) (hj : j < b.size) (hn : n ≤ i + j) (c : ∀ m', j ≤ m' → m' < b.size → K a i ≤ K b m') :
    wpS (model prog w) A E s (loA a b i mg ac bc o j) Q z := by
  have h' : i < a.size := Nat.lt_of_succ_lt hi
  have J2 := hJ.push G.sa h' c
  exact wpS_bind (wp_elem h' (wp_beq (fun e => wpS_pure (P.dn _ _ _ sz (J2.la G.sa G.sb e (Nat.le_of_lt hj) G.cl)))
    fun e => have e' : i + 1 + 1 < a.size := Nat.lt_of_le_of_ne hi e
    have n' : n ≤ i + 1 + j := by omega
    wp_ite (fun _ => wpS_pure (P.nn _ _ _ _ _ sz J2 e' hj n')) fun _ => wpS_pure (P.yy _ _ _ _ _ sz J2 e' hj n')))
theorem wp_loC (G : Gv st a b) (P : LP st a b n Q) (sz : Sim st z) (hJ : J a b o i j) (hi : i < a.size) (hi' : i + 1 ≠ a.size) (hj : j < b.size) (hn : n ≤ i + j) (c : ∀ m', i ≤ m' → m' < a.size → K b j ≤ K a m') :
    wpS (model prog w) A E s (loC a b j mg ac bc o i) Q z := by
  have J2 := (hJ.sw.push G.sb hj c).sw
  refine wpS_bind (wp_elem hj (wp_beq (fun e => wpS_pure (P.dn _ _ _ sz (J2.dn G.sa G.sb (Nat.le_of_lt hi) hj (.inr e)))) fun e => ?_))
  have e' : j + 1 < b.size := Nat.lt_of_le_of_ne hj e
  refine wpS_bind (wp_elem hi (wpS_bind (wp_galL (sz.1.trans G.hk) (G.ia _ _) (K_at hi).symm (Nat.le_of_eq (Nat.add_sub_cancel' hj)) G.ib (Nat.sub_pos_of_lt e') (fun i j a1 a2 a3 => G.sb i j (Nat.zero_le _) a2 (Nat.lt_of_lt_of_eq a3 (Nat.add_sub_cancel' hj))) fun k kn lo up => ?_)))
  rw [Nat.add_sub_cancel' hj] at up
  have q : j + 1 + k ≤ b.size := Nat.add_le_of_le_sub' hj kn
  have n' : n ≤ i + (j + 1) := Nat.le_succ_of_le hn
  refine wp_ite (fun k0 => ?_) fun k0 => ?_
  · have J3 := (J2.sw.app (k := k) G.sb q (fun m a1 a2 m' a3 a4 => Int.le_trans (Int.le_of_lt (lo m a1 a2)) (G.sa _ m' (Nat.zero_le _) a3 a4))).sw
    exact wp_beq (fun e => wpS_pure (P.dn _ _ _ sz (J3.dn G.sa G.sb (Nat.le_of_lt hi) q (.inr e)))) fun e => wp_loA G P sz J3 (Nat.lt_of_le_of_ne hi hi') (Nat.lt_of_le_of_ne q e) (Nat.le_trans n' (Nat.add_le_add_left (Nat.le_add_right _ _) _)) up
  · cases Nat.eq_zero_of_not_pos k0
    exact wp_loA G P sz J2 (Nat.lt_of_le_of_ne hi hi') e' n' up
theorem wp_loE (G : Gv st a b) (P : LP st a b n Q) (sz : Sim st z) (hJ : J a b o i j) (hi : i + 1 < a.size) (hj : j < b.size) (hn : n ≤ i + j) :
    wpS (model prog w) A E s (loE a b o i j ac bc mg) Q z := by
  have sz := sz.mg mg
  have h' : i ≤ a.size := Nat.le_of_lt (Nat.lt_of_succ_lt hi)
  refine wpS_bind (wpS_modify (wpS_bind (wp_elem hj (wpS_bind (wp_galR (sz.1.trans G.hk) (G.ib _ _) (K_at hj).symm (Nat.le_of_eq (Nat.add_sub_cancel' h')) G.ia (Nat.sub_pos_of_lt (Nat.lt_of_succ_lt hi)) (fun i j a1 a2 a3 => G.sa i j (Nat.zero_le _) a2 (Nat.lt_of_lt_of_eq a3 (Nat.add_sub_cancel' h'))) fun k kn lo up => ?_)))))
  rw [Nat.add_sub_cancel' h'] at up
  have q : i + k ≤ a.size := Nat.add_le_of_le_sub' h' kn
  refine wp_ite (fun k0 => ?_) fun k0 => ?_
  · have J3 := hJ.app (k := k) G.sa q (fun m a1 a2 m' a3 a4 => Int.le_trans (lo m a1 a2) (G.sb _ m' (Nat.zero_le _) a3 a4))
    exact wp_beq (fun e => wpS_pure (P.dn _ _ _ sz (J3.la G.sa G.sb e (Nat.le_of_lt hj) G.cl))) fun e =>
      wp_beq (fun e => wpS_pure (P.dn _ _ _ sz (J3.dn G.sa G.sb q (Nat.le_of_lt hj) (.inl e)))) fun e2 =>
      wp_loC G P sz J3 (Nat.lt_of_le_of_ne q e2) e hj (by omega) fun m' x1 x2 => Int.le_of_lt (up m' x1 x2)
  · cases Nat.eq_zero_of_not_pos k0
    exact wp_loC G P sz hJ (Nat.lt_of_succ_lt hi) (Nat.ne_of_lt hi) hj hn fun m' x1 x2 => Int.le_of_lt (up m' x1 x2)
theorem wp_lo3 (G : Gv st a b) (P : LP st a b n Q) (sz : Sim st z) (hJ : J a b o i j) (hi : i + 1 < a.size) (hj : j < b.size) (hn : n ≤ i + j) :
    wpS (model prog w) A E s (lo3 a b (none, o, i, j, mg, ac, bc)) Q z :=
  wp_ite (fun _ => wp_loE G P sz hJ hi hj hn) fun _ => wp_loE G P sz hJ hi hj hn
theorem wp_lo2 {Q : ForInStep S6 → SortSt → Prop} (G : Gv st a b) (P : LP st a b (n + 1) Q) (sz : Sim st z) (hJ : J a b o i j) (hi : i + 1 < a.size) (hj : j < b.size) (hn : n ≤ i + j) :
    wpS (model prog w) A E s (lo2 a b mg (none, o, i, j, ac, bc)) Q z := by
  have h' : i < a.size := Nat.lt_of_succ_lt hi
  refine wpS_bind (wp_elem hj (wpS_bind (wp_elem h' (wpS_bind (wp_lt (sz.1.trans G.hk) (G.ib _ _) (G.ia _ _) (wp_ite (fun le => ?_) fun le => ?_))))))
  · have le := of_decide_eq_true le
    rw [← K_at hj, ← K_at h'] at le
    have J2 := (hJ.sw.push G.sb hj (fun m' a1 a2 => Int.le_trans (Int.le_of_lt le) (G.sa _ m' (Nat.zero_le _) a1 a2))).sw
    refine wpS_bind (wp_elem hj (wp_beq (fun e => wpS_pure (P.dn _ _ _ sz (J2.dn G.sa G.sb (Nat.le_of_lt h') hj (.inr e)))) fun e => ?_))
    have e' : j + 1 < b.size := Nat.lt_of_le_of_ne hj e
    exact wp_ite (fun _ => wpS_pure (P.nn _ _ _ _ _ sz J2 hi e' (Nat.succ_le_succ hn))) fun _ => wpS_pure (P.yy _ _ _ _ _ sz J2 hi e' (Nat.succ_le_succ hn))
  · have le := of_decide_eq_false (Bool.eq_false_iff.mpr le)
    rw [← K_at hj, ← K_at h'] at le
    have J2 := hJ.push G.sa h' (fun m' a1 a2 => Int.le_trans (Int.not_lt.mp le) (G.sb _ m' (Nat.zero_le _) a1 a2))
    refine wpS_bind (wp_elem h' (wp_beq (fun e => wpS_pure (P.dn _ _ _ sz (J2.la G.sa G.sb e (Nat.le_of_lt hj) G.cl))) fun e => ?_))
    have e' : i + 1 + 1 < a.size := Nat.lt_of_le_of_ne hi e
    have n' : n + 1 ≤ i + 1 + j := by omega
    exact wp_ite (fun _ => wpS_pure (P.nn _ _ _ _ _ sz J2 e' hj n')) fun _ => wpS_pure (P.yy _ _ _ _ _ sz J2 e' hj n')
noncomputable def Mi {γ : Type} (st : SortSt) (a b : Array Keyed) (n : Nat) (c : Option (Array Keyed) × Array Keyed × Nat × Nat × γ) (z : SortSt) : Prop :=
  Sim st z ∧ ∃ o i j y, c = (none, o, i, j, y) ∧ J a b o i j ∧ i + 1 < a.size ∧ j < b.size ∧ n ≤ i + j
noncomputable def En {γ : Type} (st : SortSt) (a b : Array Keyed) (n : Nat) (c : Option (Array Keyed) × Array Keyed × Nat × Nat × γ) (z : SortSt) : Prop :=
  Mi st a b n c z ∨ Sim st z ∧ ∃ r y, c = (some r, y) ∧ Res a b r
theorem wp_lo1 {Q : ForInStep S5 → SortSt → Prop} (G : Gv st a b) (P : LQ st a b (n + 1) Q) (sz : Sim st z) (hJ : J a b o i j) (hi : i + 1 < a.size) (hj : j < b.size) (hn : n ≤ i + j) :
    wpS (model prog w) A E s (lo1 a b (none, o, i, j, mg)) Q z := by
  refine wpS_bind (wpS_mono (wpS_forRange (fun x c z => Mi st a b (n + min x 1) c z) (Q := En st a b (n + 1)) ?_ ?_ ⟨sz, o, i, j, _, rfl, hJ, hi, hj, hn⟩) ?_)
  · rintro x c z _ _ ⟨sz, o, i, j, ⟨ac, bc⟩, rfl, hJ, hi, hj, hn⟩
    have le : n + min (x + 1) 1 = n + 1 := by omega
    exact wp_lo2 G ⟨⟨fun r y z sz hr => .inr ⟨sz, r, y, rfl, hr⟩, fun o i j y z sz hJ hi hj hn => ⟨sz, o, i, j, y, rfl, hJ, hi, hj, le ▸ hn⟩⟩, fun o i j y z sz hJ hi hj hn => .inl ⟨sz, o, i, j, y, rfl, hJ, hi, hj, hn⟩⟩ sz hJ hi hj (Nat.le_trans (Nat.le_add_right _ _) hn)
  · have le : n + min (max 0 (a.size + b.size)) 1 = n + 1 := by omega
    exact fun c z h => .inl (le ▸ h)
  · rintro c z (⟨sz, o, i, j, y, rfl, hJ, hi, hj, hn⟩ | ⟨sz, r, y, rfl, hr⟩)
    · refine wpS_bind (wpS_lift (wpAny_rule ⟨rfl, wpS_bind (wpS_mono (wpS_forRange (fun _ c z => Mi st a b (n + 1) c z) (Q := En st a b (n + 1)) ?_ (fun c z h => .inl h) ⟨sz, o, i, j, _, rfl, hJ, hi, hj, hn⟩) ?_)⟩))
      · rintro x c z _ _ ⟨sz, o, i, j, ⟨g, ac, bc⟩, rfl, hJ, hi, hj, hn⟩
        exact wp_lo3 G ⟨⟨fun r y z sz hr => .inr ⟨sz, r, y, rfl, hr⟩, fun o i j y z sz hJ hi hj hn => ⟨sz, o, i, j, y, rfl, hJ, hi, hj, hn⟩⟩, fun o i j y z sz hJ hi hj hn => .inl ⟨sz, o, i, j, y, rfl, hJ, hi, hj, hn⟩⟩ sz hJ hi hj hn
      · rintro c z (⟨sz, o, i, j, ⟨g, y⟩, rfl, hJ, hi, hj, hn⟩ | ⟨sz, r, y, rfl, hr⟩)
        · exact wpS_bind (wpS_modify (wpS_pure (P.yy _ _ _ _ _ (sz.mg _) hJ hi hj hn)))
        · exact wpS_pure (P.dn _ _ _ sz hr)
    · exact wpS_pure (P.dn _ _ _ sz hr)
end
theorem wp_mLo {st : SortSt} {a b : Array Keyed} {Q : Array Keyed → SortSt → Prop} (hk : kindOf st = oneType') (iea : ∀ i (h : i < a.size), IK a[i]) (ieb : ∀ i (h : i < b.size), IK b[i])
    (sa : Sg a 0 a.size) (sb : Sg b 0 b.size) (a1 : 1 ≤ a.size) (b1 : 1 ≤ b.size) (c0 : K b 0 ≤ K a 0) (cl : ∀ m, m < b.size → K b m ≤ K a (a.size - 1))
    (h : ∀ r z, Res a b r → Sim st z → Q r z) : wpS (model prog w) A E s (mLo a b) Q st := by
  have G : Gv st a b := ⟨hk, iea, ieb, sa, sb, b1, c0, cl⟩
  rw [mLo_eq]
  have J0 : J a b #[] 0 0 := ⟨.refl _, .nil, fun _ h => absurd h List.not_mem_nil, fun _ h => absurd h List.not_mem_nil⟩
  have J1 : J a b #[b[0]] 0 1 := (J0.sw.push sb b1 (fun m' _ a2 => Int.le_trans c0 (sa 0 m' (Nat.le_refl _) (Nat.zero_le _) a2))).sw
  have s0 : Sim st st := ⟨rfl, rfl, rfl, rfl⟩
  refine wpS_bind (wpS_lift (wpAny_rule ⟨rfl, wpS_bind (wp_elem b1 (wp_beq (fun e => wpS_pure (h _ _ (J1.dn sa sb (Nat.zero_le _) b1 (.inr e)) s0)) fun e1 => wp_beq (fun e => wpS_pure (h _ _ (J1.la sa sb e b1 cl) s0)) fun e2 => ?_))⟩))
  refine wpS_bind (wpS_get (wpS_bind (wpS_mono (wpS_forRange (fun x c z => Mi st a b x c z) (Q := fun c z => Sim st z ∧ ∃ r y, c = (some r, y) ∧ Res a b r) ?_ ?_ ⟨s0, _, _, _, _, rfl, J1, by omega, by omega, by omega⟩) ?_)))
  · rintro x c z _ _ ⟨sz, o, i, j, mg, rfl, hJ, hi, hj, hn⟩
    exact wp_lo1 G ⟨fun r y z sz hr => ⟨sz, r, y, rfl, hr⟩, fun o i j y z sz hJ hi hj hn => ⟨sz, o, i, j, y, rfl, hJ, hi, hj, hn⟩⟩ sz hJ hi hj hn
  · rintro c z ⟨_, o, i, j, g, _, _, q1, q2, q3⟩
    omega
  · rintro c z ⟨sz, r, y, rfl, hr⟩
    exact wpS_pure (h r z hr sz)
end
end Ts
set_option Elab.async false
set_option linter.all false
set_option maxRecDepth 100000
set_option maxHeartbeats 0
namespace Ts
open PySem PyProof.Rows
noncomputable abbrev dnH (a b o : Array Keyed) (p q : Nat) : Array Keyed := a.extract 0 p ++ b.extract 0 q ++ o.reverse
noncomputable abbrev fbH (a b o : Array Keyed) (p q : Nat) : Array Keyed := b.extract 0 q ++ a.extract 0 p ++ o.reverse
noncomputable abbrev U5 := Option (Array Keyed) × Nat × Nat × Array Keyed × Nat
noncomputable abbrev U6 := Option (Array Keyed) × Nat × Nat × Array Keyed × Nat × Nat
noncomputable abbrev U7 := Option (Array Keyed) × Nat × Nat × Array Keyed × Nat × Nat × Nat
section
variable (a b : Array Keyed)
noncomputable def hiA (p mg ac bc q : Nat) (o : Array Keyed) : StateT SortSt Sem (ForInStep U7) :=
  elem' a (p - 1) >>= fun x => if (p - 1 == 0) = true then pure (.done (some (dnH a b (o.push x) (p - 1) q), p - 1, q, o.push x, mg, ac, bc))
    else if (decide (ac < 7) && decide (bc < 7)) = true then pure (.done (none, p - 1, q, o.push x, mg, ac, bc)) else pure (.yield (none, p - 1, q, o.push x, mg, ac, bc))
noncomputable def hiC (q mg ac bc p : Nat) (o : Array Keyed) : StateT SortSt Sem (ForInStep U7) :=
  elem' b (q - 1) >>= fun x => if (q - 1 == 1) = true then pure (.done (some (fbH a b (o.push x) p (q - 1)), p, q - 1, o.push x, mg, ac, bc))
    else elem' a (p - 1) >>= fun y => gal true y b 0 (q - 1) (q - 1 - 1) >>= fun r => match r with
  | some t => if q - 1 - t > 0 then (if (t == 1) = true then pure (.done (some (fbH a b (o.push x ++ (b.extract t (q - 1)).reverse) p t), p, t, o.push x ++ (b.extract t (q - 1)).reverse, mg, ac, q - 1 - t))
      else if (t == 0) = true then pure (.done (some (dnH a b (o.push x ++ (b.extract t (q - 1)).reverse) p t), p, t, o.push x ++ (b.extract t (q - 1)).reverse, mg, ac, q - 1 - t)) else hiA a b p mg ac (q - 1 - t) t (o.push x ++ (b.extract t (q - 1)).reverse))
      else hiA a b p mg ac (q - 1 - t) (q - 1) (o.push x)
  | _ => pure (.done (some (dnH a b (o.push x) p (q - 1)), p, q - 1, o.push x, mg, ac, bc))
noncomputable def hiE (p q : Nat) (o : Array Keyed) (ac bc mg : Nat) : StateT SortSt Sem (ForInStep U7) :=
  smg mg >>= fun _ => elem' b (q - 1) >>= fun x => gal false x a 0 p (p - 1) >>= fun r => match r with
  | some t => if p - t > 0 then (if (t == 0) = true then pure (.done (some (dnH a b (o ++ (a.extract t p).reverse) t q), t, q, o ++ (a.extract t p).reverse, mg, p - t, bc))
      else hiC a b q mg (p - t) bc t (o ++ (a.extract t p).reverse)) else hiC a b q mg (p - t) bc p o
  | _ => pure (.done (some (dnH a b o p q), p, q, o, mg, ac, bc))
noncomputable def hi3 (c : U7) : StateT SortSt Sem (ForInStep U7) :=
  if c.2.2.2.2.1 > 1 then hiE a b c.2.1 c.2.2.1 c.2.2.2.1 c.2.2.2.2.2.1 c.2.2.2.2.2.2 (c.2.2.2.2.1 - 1) else hiE a b c.2.1 c.2.2.1 c.2.2.2.1 c.2.2.2.2.2.1 c.2.2.2.2.2.2 c.2.2.2.2.1
noncomputable def hi2 (mg : Nat) (c : U6) : StateT SortSt Sem (ForInStep U6) :=
  elem' b (c.2.2.1 - 1) >>= fun x => elem' a (c.2.1 - 1) >>= fun y => lt' x y >>= fun r => match r with
  | some aw => if aw = true then elem' a (c.2.1 - 1) >>= fun x => (if (c.2.1 - 1 == 0) = true then pure (.done (some (dnH a b (c.2.2.2.1.push x) (c.2.1 - 1) c.2.2.1), c.2.1 - 1, c.2.2.1, c.2.2.2.1.push x, c.2.2.2.2.1 + 1, 0))
        else if c.2.2.2.2.1 + 1 ≥ mg then pure (.done (none, c.2.1 - 1, c.2.2.1, c.2.2.2.1.push x, c.2.2.2.2.1 + 1, 0)) else pure (.yield (none, c.2.1 - 1, c.2.2.1, c.2.2.2.1.push x, c.2.2.2.2.1 + 1, 0)))
      else elem' b (c.2.2.1 - 1) >>= fun x => (if (c.2.2.1 - 1 == 1) = true then pure (.done (some (fbH a b (c.2.2.2.1.push x) c.2.1 (c.2.2.1 - 1)), c.2.1, c.2.2.1 - 1, c.2.2.2.1.push x, 0, c.2.2.2.2.2 + 1))
        else if c.2.2.2.2.2 + 1 ≥ mg then pure (.done (none, c.2.1, c.2.2.1 - 1, c.2.2.2.1.push x, 0, c.2.2.2.2.2 + 1)) else pure (.yield (none, c.2.1, c.2.2.1 - 1, c.2.2.2.1.push x, 0, c.2.2.2.2.2 + 1)))
  | _ => pure (.done (some (dnH a b c.2.2.2.1 c.2.1 c.2.2.1), c.2.1, c.2.2.1, c.2.2.2.1, c.2.2.2.2.1, c.2.2.2.2.2))
noncomputable def hi1 (c : U5) : StateT SortSt Sem (ForInStep U5) :=
  forIn [:a.size + b.size] (none, c.2.1, c.2.2.1, c.2.2.2.1, 0, 0) (fun _ d => hi2 a b c.2.2.2.2 d) >>= fun d => match d.1 with
  | some r => pure (.done (some r, d.2.1, d.2.2.1, d.2.2.2.1, c.2.2.2.2))
  | none => liftM (rule "list.sort.gallop") >>= fun _ => forIn [:a.size + b.size] (none, d.2.1, d.2.2.1, d.2.2.2.1, c.2.2.2.2 + 1, d.2.2.2.2.1, d.2.2.2.2.2) (fun _ c => hi3 a b c) >>= fun c => match c.1 with
    | some r => pure (.done (some r, c.2.1, c.2.2.1, c.2.2.2.1, c.2.2.2.2.1))
    | none => smg (c.2.2.2.2.1 + 1) >>= fun _ => pure (.yield (none, c.2.1, c.2.2.1, c.2.2.2.1, c.2.2.2.2.1 + 1))
theorem mHi_eq : mHi a b = (liftM (rule "list.sort.merge-hi") >>= fun _ => elem' a (a.size - 1) >>= fun x => if (a.size - 1 == 0) = true then pure (dnH a b #[x] (a.size - 1) b.size)
    else if (b.size == 1) = true then pure (fbH a b #[x] (a.size - 1) b.size)
    else get >>= fun z => forIn [:a.size + b.size] (none, a.size - 1, b.size, #[x], gallopOf z) (fun _ c => hi1 a b c) >>= fun c => match c.1 with
      | some r => pure r
      | none => liftM (unsupported "internal:list.sort.merge-bound")) := by kernel_rfl
end
structure JH (a b o : Array Keyed) (p q : Nat) : Prop where
  pm : ((a.toList.take p ++ b.toList.take q) ++ o.toList.reverse).Perm (a.toList ++ b.toList)
  so : o.toList.reverse.Pairwise fun x y => N x ≤ N y
  oa : ∀ x ∈ o.toList, ∀ m, m < p → m < a.size → K a m ≤ N x
  ob : ∀ x ∈ o.toList, ∀ m, m < q → m < b.size → K b m ≤ N x
section
variable {a b o : Array Keyed} {p q t : Nat}
theorem JH.sw (h : JH a b o p q) : JH b a o q p :=
  ⟨((List.Perm.append_right _ List.perm_append_comm).trans h.pm).trans List.perm_append_comm, h.so, h.ob, h.oa⟩
theorem ex_list' (h : t ≤ p) (hp : p ≤ a.size) : (a.extract t p).toList = (a.toList.drop t).take (p - t) := by
  have := ex_list (a := a) (i := t) (k := p - t) (by omega)
  rwa [show t + (p - t) = p by omega] at this
theorem mem_ex' (h : t ≤ p) (hp : p ≤ a.size) {x : Keyed} (hx : x ∈ (a.extract t p).toList) : ∃ m, t ≤ m ∧ m < p ∧ N x = K a m := by
  have := mem_ex (a := a) (i := t) (k := p - t) (by omega) (x := x)
  rw [show t + (p - t) = p by omega] at this
  exact this hx
theorem JH.app (h : JH a b o p q) (sa : Sg a 0 a.size) (ht : t ≤ p) (hp : p ≤ a.size) (c : ∀ m, t ≤ m → m < p → ∀ m', m' < q → m' < b.size → K b m' ≤ K a m) : JH a b (o ++ (a.extract t p).reverse) t q := by
  have l : (o ++ (a.extract t p).reverse).toList.reverse = (a.extract t p).toList ++ o.toList.reverse := by
    rw [Array.toList_append, Array.toList_reverse, List.reverse_append, List.reverse_reverse]
  have sp : a.toList.take t ++ (a.extract t p).toList = a.toList.take p := by
    rw [ex_list' ht hp, ← List.take_add, show t + (p - t) = p by omega]
  have pe : (a.extract t p).toList.Pairwise fun x y => N x ≤ N y := by
    rw [ex_list' ht hp]
    exact (sgP sa).sublist ((List.take_sublist _ _).trans (List.drop_sublist _ _))
  have me : ∀ x ∈ (o ++ (a.extract t p).reverse).toList, x ∈ o.toList ∨ x ∈ (a.extract t p).toList := by
    intro x hx
    rw [Array.toList_append, Array.toList_reverse] at hx
    rcases List.mem_append.mp hx with hx | hx
    · exact .inl hx
    · exact .inr (List.mem_reverse.mp hx)
  refine ⟨?_, ?_, ?_, ?_⟩
  · rw [l, ← List.append_assoc]
    refine List.Perm.trans (List.Perm.append_right _ ?_) h.pm
    rw [List.append_assoc]
    refine (List.Perm.append_left _ List.perm_append_comm).trans ?_
    rw [← List.append_assoc, sp]
  · rw [l]
    refine List.pairwise_append.mpr ⟨pe, h.so, fun x hx y hy => ?_⟩
    obtain ⟨m, m1, m2, e⟩ := mem_ex' ht hp hx
    rw [e]
    exact h.oa y (List.mem_reverse.mp hy) m m2 (by omega)
  · intro x hx m m1 m2
    rcases me x hx with hx | hx
    · exact h.oa x hx m (by omega) m2
    · obtain ⟨m', a1, a2, e⟩ := mem_ex' ht hp hx
      rw [e]
      exact sa m m' (Nat.zero_le _) (by omega) (by omega)
  · intro x hx m m1 m2
    rcases me x hx with hx | hx
    · exact h.ob x hx m m1 m2
    · obtain ⟨m', a1, a2, e⟩ := mem_ex' ht hp hx
      rw [e]
      exact c m' a1 a2 m m1 m2
theorem JH.push (h : JH a b o p q) (sa : Sg a 0 a.size) (h1 : 1 ≤ p) (hp : p - 1 < a.size) (c : ∀ m', m' < q → m' < b.size → K b m' ≤ K a (p - 1)) : JH a b (o.push a[p - 1]) (p - 1) q := by
  have e : o.push a[p - 1] = o ++ (a.extract (p - 1) p).reverse := by
    apply Array.toList_inj.mp
    rw [Array.toList_append, Array.toList_push, Array.toList_reverse, ex_list' (by omega) (by omega), List.drop_eq_getElem_cons (by simpa using hp), show p - (p - 1) = 1 by omega]
    simp
  rw [e]
  refine h.app sa (by omega) (by omega) fun m m1 m2 => ?_
  have : m = p - 1 := by omega
  subst this
  exact c
theorem JH.dn (h : JH a b o p q) (sa : Sg a 0 a.size) (sb : Sg b 0 b.size) (hp : p ≤ a.size) (hq : q ≤ b.size) (e : p = 0 ∨ q = 0) : Res a b (dnH a b o p q) := by
  have l : (dnH a b o p q).toList = (a.toList.take p ++ b.toList.take q) ++ o.toList.reverse := by
    show (a.extract 0 p ++ b.extract 0 q ++ o.reverse).toList = _
    rw [Array.toList_append, Array.toList_append, Array.toList_reverse, ex_list' (Nat.zero_le _) hp, ex_list' (Nat.zero_le _) hq]
    rfl
  refine ⟨l ▸ h.pm, ?_⟩
  rw [l]
  have ma : ∀ {c : Array Keyed} {i : Nat} {y : Keyed}, y ∈ c.toList.take i → ∃ m, m < i ∧ m < c.size ∧ N y = K c m := by
    intro c i y hy
    obtain ⟨m, hm, e⟩ := List.mem_iff_getElem.mp hy
    have l : m < i ∧ m < c.size := by rw [List.length_take] at hm; simp at hm; omega
    refine ⟨m, l.1, l.2, ?_⟩
    rw [K_at l.2, ← e]
    simp
  refine List.pairwise_append.mpr ⟨List.pairwise_append.mpr ⟨(sgP sa).sublist (List.take_sublist _ _), (sgP sb).sublist (List.take_sublist _ _), fun x hx y hy => ?_⟩, h.so, fun x hx y hy => ?_⟩
  · obtain ⟨m, m1, m2, _⟩ := ma hx
    obtain ⟨m', m3, m4, _⟩ := ma hy
    omega
  · have hy := List.mem_reverse.mp hy
    rcases List.mem_append.mp hx with hx | hx
    · obtain ⟨m, m1, m2, e⟩ := ma hx
      rw [e]; exact h.oa y hy m m1 m2
    · obtain ⟨m, m1, m2, e⟩ := ma hx
      rw [e]; exact h.ob y hy m m1 m2
theorem JH.fb (h : JH a b o p q) (sa : Sg a 0 a.size) (sb : Sg b 0 b.size) (hp : p ≤ a.size) (hq : q = 1) (hb : 1 ≤ b.size) (c : ∀ m, m < a.size → K b 0 ≤ K a m) : Res a b (fbH a b o p q) := by
  subst hq
  have h1 := h.app (t := 0) sa (Nat.zero_le _) hp fun m m1 m2 m' m3 m4 => by
    have : m' = 0 := by omega
    subst this
    exact c m (by omega)
  have h2 := h1.dn sa sb (Nat.zero_le _) hb (.inl rfl)
  have e : dnH a b (o ++ (a.extract 0 p).reverse) 0 1 = fbH a b o p 1 := by
    apply Array.toList_inj.mp
    simp
  rwa [e] at h2
end
structure Hc (a b : Array Keyed) (n : Nat) (o : Array Keyed) (p q : Nat) : Prop where
  jh : JH a b o p q
  p1 : 1 ≤ p
  p2 : p ≤ a.size
  q1 : 2 ≤ q
  q2 : q ≤ b.size
  le : n + p + q ≤ a.size + b.size
section
variable {a b o r : Array Keyed} {n m p q : Nat}
theorem Hc.le' (h : Hc a b m o p q) (k : n ≤ m) : Hc a b n o p q := ⟨h.jh, h.p1, h.p2, h.q1, h.q2, Nat.le_trans (Nat.add_le_add_right (Nat.add_le_add_right k _) _) h.le⟩
theorem Hc.less (h : Hc a b (n + 1) o p q) : Hc a b n o p q := h.le' (Nat.le_succ _)
theorem Hc.pu (h : Hc a b n o p q) (e : ¬ p - 1 = 0) (hJ : JH a b r (p - 1) q) : Hc a b (n + 1) r (p - 1) q :=
  ⟨hJ, Nat.pos_of_ne_zero e, Nat.le_trans (Nat.sub_le _ _) h.p2, h.q1, h.q2, by have := h.le; have := h.p1; omega⟩
theorem Hc.qu (h : Hc a b n o p q) (e : ¬ q - 1 = 1) (hJ : JH a b r p (q - 1)) : Hc a b (n + 1) r p (q - 1) :=
  have q1 := h.q1
  ⟨hJ, h.p1, h.p2, by omega, Nat.le_trans (Nat.sub_le _ _) h.q2, by have := h.le; omega⟩
end
section
variable {prog : Program} {w : World} {A : Around} {E : Value → Shared → Prop} {s : Shared}
structure HQ {γ : Type} (st : SortSt) (a b : Array Keyed) (n : Nat) (Q : ForInStep (Option (Array Keyed) × Nat × Nat × Array Keyed × γ) → SortSt → Prop) : Prop where
  dn : ∀ r y z, Sim st z → Res a b r → Q (.done (some r, y)) z
  yy : ∀ p q o y z, Sim st z → Hc a b n o p q → Q (.yield (none, p, q, o, y)) z
structure HP {γ : Type} (st : SortSt) (a b : Array Keyed) (n : Nat) (Q : ForInStep (Option (Array Keyed) × Nat × Nat × Array Keyed × γ) → SortSt → Prop) : Prop extends HQ st a b n Q where
  nn : ∀ p q o y z, Sim st z → Hc a b n o p q → Q (.done (none, p, q, o, y)) z
section
variable {st z : SortSt} {a b o : Array Keyed} {n p q mg ac bc : Nat} {Q : ForInStep U7 → SortSt → Prop}
theorem Gv.cf (G : Gv st a b) : ∀ m, m < a.size → K b 0 ≤ K a m := fun m q => Int.le_trans G.c0 (G.sa 0 m (Nat.le_refl _) (Nat.zero_le _) q)
theorem lt1 {x y : Nat} (h : 1 ≤ x) (k : x ≤ y) : x - 1 < y := Nat.lt_of_lt_of_le (Nat.sub_lt h Nat.one_pos) k
theorem lt2 {x y : Nat} (h : y < x) : y ≤ x - 1 := Nat.le_sub_one_of_lt h
theorem wp_hiA (G : Gv st a b) (P : HP st a b n Q) (sz : Sim st z) (H : Hc a b n o p q) (c : ∀ m', m' < q → m' < b.size → K b m' ≤ K a (p - 1)) :
    wpS (model prog w) A E s (hiA a b p mg ac bc q o) Q z := by
  have h' := lt1 H.p1 H.p2
  have J2 := H.jh.push G.sa H.p1 h' c
  exact wpS_bind (wp_elem h' (wp_beq (fun e => wpS_pure (P.dn _ _ _ sz (J2.dn G.sa G.sb (Nat.le_of_lt h') H.q2 (.inl e))))
    fun e => have H' := (H.pu e J2).less
    wp_ite (fun _ => wpS_pure (P.nn _ _ _ _ _ sz H')) fun _ => wpS_pure (P.yy _ _ _ _ _ sz H')))
theorem wp_hiC (G : Gv st a b) (P : HP st a b n Q) (sz : Sim st z) (H : Hc a b n o p q) (c : ∀ m', m' < p → m' < a.size → K a m' ≤ K b (q - 1)) :
    wpS (model prog w) A E s (hiC a b q mg ac bc p o) Q z := by
  have hq : 1 ≤ q := Nat.le_of_succ_le H.q1
  have h' := lt1 hq H.q2
  have hp := lt1 H.p1 H.p2
  have J2 := (H.jh.sw.push G.sb hq h' c).sw
  refine wpS_bind (wp_elem h' (wp_beq (fun e => wpS_pure (P.dn _ _ _ sz (J2.fb G.sa G.sb H.p2 e G.b1 G.cf))) fun e => ?_))
  have H2 := (H.qu e J2).less
  refine wpS_bind (wp_elem hp (wpS_bind (wp_galL (sz.1.trans G.hk) (G.ia _ _) (K_at hp).symm (by rw [Nat.zero_add]; exact H2.q2) G.ib (Nat.sub_lt (Nat.le_of_succ_le H2.q1) Nat.one_pos) (fun i j a1 a2 a3 => G.sb i j (Nat.zero_le _) a2 (Nat.lt_of_lt_of_le a3 (by rw [Nat.zero_add]; exact H2.q2))) fun t tn lo up => ?_)))
  rw [Nat.zero_add] at lo
  rw [Nat.zero_add, Nat.zero_add] at up
  refine wp_ite (fun k0 => ?_) fun k0 => ?_
  · have J3 := (H2.jh.sw.app (t := t) G.sb tn H2.q2 (fun m a1 a2 m' a3 a4 => Int.le_trans (G.sa m' _ (Nat.zero_le _) (lt2 a3) hp) (up m a1 a2))).sw
    exact wp_beq (fun e => wpS_pure (P.dn _ _ _ sz (J3.fb G.sa G.sb H.p2 e G.b1 G.cf))) fun e1 => wp_beq (fun e => wpS_pure (P.dn _ _ _ sz (J3.dn G.sa G.sb H.p2 (Nat.le_trans tn H2.q2) (.inr e)))) fun e2 =>
      wp_hiA G P sz ⟨J3, H2.p1, H2.p2, by omega, Nat.le_trans tn H2.q2, Nat.le_trans (Nat.add_le_add_left tn _) H2.le⟩ fun m' a1 a2 => Int.le_of_lt (lo m' (Nat.zero_le _) a1)
  · cases Nat.le_antisymm tn (Nat.sub_eq_zero_iff_le.mp (Nat.eq_zero_of_not_pos k0))
    exact wp_hiA G P sz H2 fun m' a1 a2 => Int.le_of_lt (lo m' (Nat.zero_le _) a1)
theorem wp_hiE (G : Gv st a b) (P : HP st a b n Q) (sz : Sim st z) (H : Hc a b n o p q) :
    wpS (model prog w) A E s (hiE a b p q o ac bc mg) Q z := by
  have sz := sz.mg mg
  have hq : 1 ≤ q := Nat.le_of_succ_le H.q1
  have h' := lt1 hq H.q2
  refine wpS_bind (wpS_modify (wpS_bind (wp_elem h' (wpS_bind (wp_galR (sz.1.trans G.hk) (G.ib _ _) (K_at h').symm (by rw [Nat.zero_add]; exact H.p2) G.ia (Nat.sub_lt H.p1 Nat.one_pos) (fun i j a1 a2 a3 => G.sa i j (Nat.zero_le _) a2 (Nat.lt_of_lt_of_le a3 (by rw [Nat.zero_add]; exact H.p2))) fun t tn lo up => ?_)))))
  rw [Nat.zero_add] at lo
  rw [Nat.zero_add, Nat.zero_add] at up
  refine wp_ite (fun k0 => ?_) fun k0 => ?_
  · have J1 := H.jh.app (t := t) G.sa tn H.p2 (fun m a1 a2 m' a3 a4 => Int.le_trans (G.sb m' _ (Nat.zero_le _) (lt2 a3) h') (Int.le_of_lt (up m a1 a2)))
    exact wp_beq (fun e => wpS_pure (P.dn _ _ _ sz (J1.dn G.sa G.sb (Nat.le_trans tn H.p2) H.q2 (.inl e)))) fun e =>
      wp_hiC G P sz ⟨J1, Nat.pos_of_ne_zero e, Nat.le_trans tn H.p2, H.q1, H.q2, Nat.le_trans (Nat.add_le_add_right (Nat.add_le_add_left tn _) _) H.le⟩ fun m' a1 a2 => lo m' (Nat.zero_le _) a1
  · cases Nat.le_antisymm tn (Nat.sub_eq_zero_iff_le.mp (Nat.eq_zero_of_not_pos k0))
    exact wp_hiC G P sz H fun m' a1 a2 => lo m' (Nat.zero_le _) a1
theorem wp_hi3 (G : Gv st a b) (P : HP st a b n Q) (sz : Sim st z) (H : Hc a b n o p q) :
    wpS (model prog w) A E s (hi3 a b (none, p, q, o, mg, ac, bc)) Q z :=
  wp_ite (fun _ => wp_hiE G P sz H) fun _ => wp_hiE G P sz H
theorem wp_hi2 {Q : ForInStep U6 → SortSt → Prop} (G : Gv st a b) (P : HP st a b (n + 1) Q) (sz : Sim st z) (H : Hc a b n o p q) :
    wpS (model prog w) A E s (hi2 a b mg (none, p, q, o, ac, bc)) Q z := by
  have hq : 1 ≤ q := Nat.le_of_succ_le H.q1
  have h' := lt1 hq H.q2
  have hp := lt1 H.p1 H.p2
  refine wpS_bind (wp_elem h' (wpS_bind (wp_elem hp (wpS_bind (wp_lt (sz.1.trans G.hk) (G.ib _ _) (G.ia _ _) (wp_ite (fun le => ?_) fun le => ?_))))))
  · have le := of_decide_eq_true le
    rw [← K_at h', ← K_at hp] at le
    have J2 := H.jh.push G.sa H.p1 hp (fun m' a1 a2 => Int.le_trans (G.sb m' _ (Nat.zero_le _) (lt2 a1) h') (Int.le_of_lt le))
    refine wpS_bind (wp_elem hp (wp_beq (fun e => wpS_pure (P.dn _ _ _ sz (J2.dn G.sa G.sb (Nat.le_of_lt hp) H.q2 (.inl e)))) fun e => ?_))
    have H' := H.pu e J2
    exact wp_ite (fun _ => wpS_pure (P.nn _ _ _ _ _ sz H')) fun _ => wpS_pure (P.yy _ _ _ _ _ sz H')
  · have le := of_decide_eq_false (Bool.eq_false_iff.mpr le)
    rw [← K_at h', ← K_at hp] at le
    have J2 := (H.jh.sw.push G.sb hq h' (fun m' a1 a2 => Int.le_trans (G.sa m' _ (Nat.zero_le _) (lt2 a1) hp) (Int.not_lt.mp le))).sw
    refine wpS_bind (wp_elem h' (wp_beq (fun e => wpS_pure (P.dn _ _ _ sz (J2.fb G.sa G.sb H.p2 e G.b1 G.cf))) fun e => ?_))
    have H' := H.qu e J2
    exact wp_ite (fun _ => wpS_pure (P.nn _ _ _ _ _ sz H')) fun _ => wpS_pure (P.yy _ _ _ _ _ sz H')
noncomputable def Mh {γ : Type} (st : SortSt) (a b : Array Keyed) (n : Nat) (c : Option (Array Keyed) × Nat × Nat × Array Keyed × γ) (z : SortSt) : Prop :=
  Sim st z ∧ ∃ p q o y, c = (none, p, q, o, y) ∧ Hc a b n o p q
noncomputable def Eh {γ : Type} (st : SortSt) (a b : Array Keyed) (n : Nat) (c : Option (Array Keyed) × Nat × Nat × Array Keyed × γ) (z : SortSt) : Prop :=
  Mh st a b n c z ∨ Sim st z ∧ ∃ r y, c = (some r, y) ∧ Res a b r
theorem wp_hi1 {Q : ForInStep U5 → SortSt → Prop} (G : Gv st a b) (P : HQ st a b (n + 1) Q) (sz : Sim st z) (H : Hc a b n o p q) :
    wpS (model prog w) A E s (hi1 a b (none, p, q, o, mg)) Q z := by
  refine wpS_bind (wpS_mono (wpS_forRange (fun x c z => Mh st a b (n + min x 1) c z) (Q := Eh st a b (n + 1)) ?_ ?_ ⟨sz, p, q, o, _, rfl, H⟩) ?_)
  · rintro x c z _ _ ⟨sz, p, q, o, ⟨ac, bc⟩, rfl, H⟩
    have le : n + min (x + 1) 1 = n + 1 := by omega
    exact wp_hi2 G ⟨⟨fun r y z sz hr => .inr ⟨sz, r, y, rfl, hr⟩, fun p q o y z sz H => ⟨sz, p, q, o, y, rfl, le ▸ H⟩⟩, fun p q o y z sz H => .inl ⟨sz, p, q, o, y, rfl, H⟩⟩ sz (H.le' (Nat.le_add_right _ _))
  · have le : n + min (max 0 (a.size + b.size)) 1 = n + 1 := by have := H.p1; have := H.p2; omega
    exact fun c z h => .inl (le ▸ h)
  · rintro c z (⟨sz, p, q, o, y, rfl, H⟩ | ⟨sz, r, y, rfl, hr⟩)
    · refine wpS_bind (wpS_lift (wpAny_rule ⟨rfl, wpS_bind (wpS_mono (wpS_forRange (fun _ c z => Mh st a b (n + 1) c z) (Q := Eh st a b (n + 1)) ?_ (fun c z h => .inl h) ⟨sz, p, q, o, _, rfl, H⟩) ?_)⟩))
      · rintro x c z _ _ ⟨sz, p, q, o, ⟨g, ac, bc⟩, rfl, H⟩
        exact wp_hi3 G ⟨⟨fun r y z sz hr => .inr ⟨sz, r, y, rfl, hr⟩, fun p q o y z sz H => ⟨sz, p, q, o, y, rfl, H⟩⟩, fun p q o y z sz H => .inl ⟨sz, p, q, o, y, rfl, H⟩⟩ sz H
      · rintro c z (⟨sz, p, q, o, ⟨g, y⟩, rfl, H⟩ | ⟨sz, r, y, rfl, hr⟩)
        · exact wpS_bind (wpS_modify (wpS_pure (P.yy _ _ _ _ _ (sz.mg _) H)))
        · exact wpS_pure (P.dn _ _ _ sz hr)
    · exact wpS_pure (P.dn _ _ _ sz hr)
end
theorem wp_mHi {st : SortSt} {a b : Array Keyed} {Q : Array Keyed → SortSt → Prop} (hk : kindOf st = oneType') (iea : ∀ i (h : i < a.size), IK a[i]) (ieb : ∀ i (h : i < b.size), IK b[i])
    (sa : Sg a 0 a.size) (sb : Sg b 0 b.size) (a1 : 1 ≤ a.size) (b1 : 1 ≤ b.size) (c0 : K b 0 ≤ K a 0) (cl : ∀ m, m < b.size → K b m ≤ K a (a.size - 1))
    (h : ∀ r z, Res a b r → Sim st z → Q r z) : wpS (model prog w) A E s (mHi a b) Q st := by
  have G : Gv st a b := ⟨hk, iea, ieb, sa, sb, b1, c0, cl⟩
  rw [mHi_eq]
  have J0 : JH a b #[] a.size b.size := ⟨by rw [List.take_of_length_le (by simp), List.take_of_length_le (by simp)]; simp, .nil, fun _ h => absurd h List.not_mem_nil, fun _ h => absurd h List.not_mem_nil⟩
  have h' : a.size - 1 < a.size := lt1 a1 (Nat.le_refl _)
  have J1 : JH a b #[a[a.size - 1]] (a.size - 1) b.size := J0.push sa a1 h' (fun m' _ a2 => cl m' a2)
  have s0 : Sim st st := ⟨rfl, rfl, rfl, rfl⟩
  refine wpS_bind (wpS_lift (wpAny_rule ⟨rfl, wpS_bind (wp_elem h' (wp_beq (fun e => wpS_pure (h _ _ (J1.dn sa sb (Nat.le_of_lt h') (Nat.le_refl _) (.inl e)) s0)) fun e1 => wp_beq (fun e => wpS_pure (h _ _ (J1.fb sa sb (Nat.le_of_lt h') e b1 G.cf) s0)) fun e2 => ?_))⟩))
  refine wpS_bind (wpS_get (wpS_bind (wpS_mono (wpS_forRange (fun x c z => Mh st a b x c z) (Q := fun c z => Sim st z ∧ ∃ r y, c = (some r, y) ∧ Res a b r) ?_ ?_ ⟨s0, _, _, _, _, rfl, J1, Nat.pos_of_ne_zero e1, Nat.le_of_lt h', by omega, Nat.le_refl _, by omega⟩) ?_)))
  · rintro x c z _ _ ⟨sz, p, q, o, mg, rfl, H⟩
    exact wp_hi1 G ⟨fun r y z sz hr => ⟨sz, r, y, rfl, hr⟩, fun p q o y z sz H => ⟨sz, p, q, o, y, rfl, H⟩⟩ sz H
  · rintro c z ⟨_, p, q, o, g, _, H⟩
    have := H.le
    have := H.p1
    omega
  · rintro c z ⟨sz, r, y, rfl, hr⟩
    exact wpS_pure (h r z hr sz)
end
end Ts
set_option Elab.async false
set_option linter.all false
set_option maxRecDepth 100000
set_option maxHeartbeats 0
namespace Ts
open PySem PyProof.Rows
theorem mAt_eq (n : Nat) : mergeAt' n = (do
  let z ← get
  let (some (u, k, pw), some (v, m, _)) := ((pendingOf z)[n]?, (pendingOf z)[n + 1]?) | unsupported "internal:list.sort.pending"
  set (setPending z (((pendingOf z).setIfInBounds n (u, k + m, pw)).eraseIdxIfInBounds (n + 1)))
  let some d ← gal false (← elem' (arrOf z) v) (arrOf z) u k 0 | return false
  let (u, k) := (u + d, k - d)
  if k == 0 then return true
  let some m ← gal true (← elem' (arrOf z) (u + k - 1)) (arrOf z) v m (m - 1) | return false
  if m == 0 then return true
  let r ← if k ≤ m then mLo ((arrOf z).extract u v) ((arrOf z).extract v (v + m)) else mHi ((arrOf z).extract u v) ((arrOf z).extract v (v + m))
  modify fun z => setArr z (r.toList.zipIdx.foldl (fun a (p, j) => a.setIfInBounds (u + j) p) (arrOf z))
  return (failedOf (← get)).isNone) := rfl
theorem over_list (u : Nat) : ∀ (l : List Keyed) (c : Nat) (xs : Array Keyed), u + c + l.length ≤ xs.size →
    ((l.zipIdx c).foldl (fun a (x : Keyed × Nat) => a.setIfInBounds (u + x.2) x.1) xs).toList = xs.toList.take (u + c) ++ (l ++ xs.toList.drop (u + c + l.length))
  | [], c, xs, h => by simp
  | p :: l, c, xs, h => by
    have h' : u + c + (l.length + 1) ≤ xs.size := h
    rw [List.zipIdx_cons, List.foldl_cons, over_list u l (c + 1) _ (by rw [Array.size_setIfInBounds]; omega), Array.toList_setIfInBounds]
    have e1 : (xs.toList.set (u + c) p).take (u + (c + 1)) = xs.toList.take (u + c) ++ [p] := by
      rw [List.set_eq_take_append_cons_drop, if_pos (by simp; omega), List.take_append, List.length_take, List.take_take]
      rw [show min (u + (c + 1)) (u + c) = u + c by omega, show u + (c + 1) - min (u + c) xs.toList.length = 1 by simp; omega]
      simp
    have e2 : (xs.toList.set (u + c) p).drop (u + (c + 1) + l.length) = xs.toList.drop (u + c + (l.length + 1)) := by
      rw [List.drop_set_of_lt (by omega)]
      congr 1
      omega
    rw [e1, e2, List.append_assoc]
    rfl
structure Ov (u f : Nat) (r xs ys : Array Keyed) : Prop where
  sz : ys.size = xs.size
  lo : ∀ m, m < u → K ys m = K xs m
  hi : ∀ m, f ≤ m → K ys m = K xs m
  mid : ∀ m, u ≤ m → m < f → K ys m = K r (m - u)
theorem K_list {xs ys : Array Keyed} {i j : Nat} (h : xs.toList[i]? = ys.toList[j]?) : K xs i = K ys j := K_congr (by simpa using h)
theorem over {u v f : Nat} {r xs ys : Array Keyed} (h1 : u ≤ v) (h2 : v ≤ f) (h3 : f ≤ xs.size) (hr : r.toList.Perm ((xs.extract u v).toList ++ (xs.extract v f).toList))
    (e : ys = r.toList.zipIdx.foldl (fun a (x : Keyed × Nat) => a.setIfInBounds (u + x.2) x.1) xs) : Ov u f r xs ys ∧ ys.Perm xs := by
  have l1 : r.toList.length = f - u := by
    rw [hr.length_eq, List.length_append, ex_list' h1 (by omega), ex_list' h2 h3]
    simp
    omega
  have t := over_list u r.toList 0 xs (by rw [l1]; omega)
  rw [← e, l1, Nat.add_zero, show u + (f - u) = f by omega] at t
  have lu : (xs.toList.take u).length = u := by rw [List.length_take]; simp; omega
  have ex : xs.toList = xs.toList.take u ++ (((xs.extract u v).toList ++ (xs.extract v f).toList) ++ xs.toList.drop f) := by
    rw [ex_list' h1 (by omega), ex_list' h2 h3]
    have a1 : (xs.toList.drop u).take (v - u) ++ (xs.toList.drop v).take (f - v) = (xs.toList.drop u).take (f - u) := by
      rw [show f - u = (v - u) + (f - v) by omega, List.take_add, List.drop_drop, show u + (v - u) = v by omega]
    have a2 : (xs.toList.drop u).take (f - u) ++ xs.toList.drop f = xs.toList.drop u := by
      have := List.take_append_drop (f - u) (xs.toList.drop u)
      rwa [List.drop_drop, show u + (f - u) = f by omega] at this
    rw [a1, a2, List.take_append_drop]
  have sz : ys.size = xs.size := by
    have := congrArg List.length t
    rw [List.length_append, List.length_append, lu, l1, List.length_drop] at this
    simp at this
    omega
  refine ⟨⟨sz, fun m hm => ?_, fun m hm => ?_, fun m a1 a2 => ?_⟩, ?_⟩
  · refine K_list ?_
    rw [t, List.getElem?_append_left (by omega), List.getElem?_take_of_lt hm]
  · refine K_list ?_
    rw [t, List.getElem?_append_right (by omega), lu, List.getElem?_append_right (by omega), l1, List.getElem?_drop]
    congr 1
    omega
  · refine K_list ?_
    rw [t, List.getElem?_append_right (by omega), lu, List.getElem?_append_left (by omega)]
  · refine Array.perm_iff_toList_perm.mpr ?_
    rw [t]
    refine List.Perm.trans (List.Perm.append_left _ (List.Perm.append_right _ hr)) ?_
    rw [← ex]
theorem K_ex {xs : Array Keyed} {u v m : Nat} (h : u + m < v) (hv : v ≤ xs.size) : K (xs.extract u v) m = K xs (u + m) := by
  refine K_list ?_
  rw [ex_list' (by omega) hv, List.getElem?_take_of_lt (by omega), List.getElem?_drop]
theorem sz_ex {xs : Array Keyed} {u v : Nat} (hv : v ≤ xs.size) : (xs.extract u v).size = v - u := by
  rw [Array.size_extract]
  omega
section
variable {prog : Program} {w : World} {A : Around} {E : Value → Shared → Prop} {s : Shared} {a₀ : Array Keyed}
theorem wp_set {st z : SortSt} {Q : PUnit → SortSt → Prop} (h : Q ⟨⟩ z) : wpS (model prog w) A E s (set z : StateT SortSt Sem PUnit) Q st := by
  unfold wpS; exact wpAny_pure ⟨rfl, h⟩
theorem wp_mAt {st : SortSt} {l1 l2 : List (Nat × Nat × Nat)} {u k pw v m pw2 : Nat} {Q : Bool → SortSt → Prop} (g : Gd a₀) (hB : SB a₀ st) (hp : (pendingOf st).toList = l1 ++ (u, k, pw) :: (v, m, pw2) :: l2)
    (ev : v = u + k) (hk1 : 1 ≤ k) (hm1 : 1 ≤ m) (hz : v + m ≤ a₀.size) (s1 : Sg (arrOf st) u v) (s2 : Sg (arrOf st) v (v + m))
    (h : ∀ z, SB a₀ z → (pendingOf z).toList = l1 ++ (u, k + m, pw) :: l2 → Sg (arrOf z) u (v + m) → Off (arrOf z) (arrOf st) u (v + m) → Q true z) :
    wpS (model prog w) A E s (mergeAt' l1.length) Q st := by
  rw [mAt_eq]
  refine wpS_bind (wpS_get ?_)
  have g1 : (pendingOf st)[l1.length]? = some (u, k, pw) := by
    rw [← Array.getElem?_toList, hp, List.getElem?_append_right (Nat.le_refl _), Nat.sub_self]; rfl
  have g2 : (pendingOf st)[l1.length + 1]? = some (v, m, pw2) := by
    rw [← Array.getElem?_toList, hp, List.getElem?_append_right (by omega), show l1.length + 1 - l1.length = 1 by omega]; rfl
  rw [g1, g2]
  dsimp only
  refine wpS_bind (wp_set ?_)
  have pe : (((pendingOf st).setIfInBounds l1.length (u, k + m, pw)).eraseIdxIfInBounds (l1.length + 1)).toList = l1 ++ (u, k + m, pw) :: l2 := by
    rw [Array.toList_eraseIdxIfInBounds, Array.toList_setIfInBounds, hp]
    rw [List.set_append_right _ _ (Nat.le_refl _), Nat.sub_self, List.set_cons_zero, List.eraseIdx_append_of_length_le (by omega), show l1.length + 1 - l1.length = 1 by omega]
    rfl
  generalize hst1 : setPending st (((pendingOf st).setIfInBounds l1.length (u, k + m, pw)).eraseIdxIfInBounds (l1.length + 1)) = st1
  have B1 : SB a₀ st1 := by subst hst1; exact ⟨hB.perm, hB.kind, hB.failed⟩
  have P1 : (pendingOf st1).toList = l1 ++ (u, k + m, pw) :: l2 := by subst hst1; exact pe
  have A1 : arrOf st1 = arrOf st := by subst hst1; rfl
  clear hst1 pe
  have zs := hB.sz
  have ik : ∀ i (h : i < (arrOf st).size), IK (arrOf st)[i] := fun i h => ik_perm g hB.perm h
  refine wpS_bind (wp_elem (by omega) ?_)
  refine wpS_bind (wp_galR B1.kind (ik _ _) (K_at (by omega)).symm (by omega) ik (by omega) (ev ▸ s1) fun d dn lo1 hi1 => ?_)
  dsimp only
  by_cases e1 : k - d = 0
  · rw [if_pos (by simpa using e1)]
    refine wpS_pure (h _ B1 P1 ?_ (A1 ▸ Off.refl))
    rw [A1]
    intro i j a b c
    rcases Nat.lt_or_ge j v with q | q
    · exact s1 i j a b q
    · rcases Nat.lt_or_ge i v with q' | q'
      · exact Int.le_trans (lo1 i a (by omega)) (s2 v j (Nat.le_refl _) q c)
      · exact s2 i j q' b c
  rw [if_neg (by simpa using e1)]
  refine wpS_bind (wp_elem (by omega) ?_)
  refine wpS_bind (wp_galL B1.kind (ik _ _) (K_at (by omega)).symm (by omega) ik (by omega) s2 fun m' mn lo2 hi2 => ?_)
  have eu : u + d + (k - d) - 1 = v - 1 := by omega
  rw [eu] at lo2 hi2
  dsimp only
  by_cases e2 : m' = 0
  · rw [if_pos (by simpa using e2)]
    refine wpS_pure (h _ B1 P1 ?_ (A1 ▸ Off.refl))
    rw [A1]
    intro i j a b c
    rcases Nat.lt_or_ge j v with q | q
    · exact s1 i j a b q
    · rcases Nat.lt_or_ge i v with q' | q'
      · exact Int.le_trans (s1 i (v - 1) a (by omega) (by omega)) (hi2 j (by omega) c)
      · exact s2 i j q' b c
  rw [if_neg (by simpa using e2)]
  have zx : ((arrOf st).extract (u + d) v).size = v - (u + d) := sz_ex (by omega)
  have zy : ((arrOf st).extract v (v + m')).size = m' := by rw [sz_ex (by omega)]; omega
  have ikx : ∀ i (h : i < ((arrOf st).extract (u + d) v).size), IK ((arrOf st).extract (u + d) v)[i] := fun i h => by rw [Array.getElem_extract]; exact ik _ _
  have iky : ∀ i (h : i < ((arrOf st).extract v (v + m')).size), IK ((arrOf st).extract v (v + m'))[i] := fun i h => by rw [Array.getElem_extract]; exact ik _ _
  have sx : Sg ((arrOf st).extract (u + d) v) 0 ((arrOf st).extract (u + d) v).size := by
    intro i j _ b c
    rw [zx] at c
    rw [K_ex (by omega) (by omega), K_ex (by omega) (by omega)]
    exact s1 _ _ (by omega) (by omega) (by omega)
  have sy : Sg ((arrOf st).extract v (v + m')) 0 ((arrOf st).extract v (v + m')).size := by
    intro i j _ b c
    rw [zy] at c
    rw [K_ex (by omega) (by omega), K_ex (by omega) (by omega)]
    exact s2 _ _ (by omega) (by omega) (by omega)
  have c0 : K ((arrOf st).extract v (v + m')) 0 ≤ K ((arrOf st).extract (u + d) v) 0 := by
    rw [K_ex (by omega) (by omega), K_ex (by omega) (by omega)]
    exact Int.le_of_lt (hi1 _ (by omega) (by omega))
  have cl : ∀ i, i < ((arrOf st).extract v (v + m')).size → K ((arrOf st).extract v (v + m')) i ≤ K ((arrOf st).extract (u + d) v) (((arrOf st).extract (u + d) v).size - 1) := by
    intro i c
    rw [zy] at c
    rw [zx, K_ex (by omega) (by omega), K_ex (by omega) (by omega), show u + d + (v - (u + d) - 1) = v - 1 by omega]
    exact Int.le_of_lt (lo2 _ (by omega) (by omega))
  have fin : ∀ r z, Res ((arrOf st).extract (u + d) v) ((arrOf st).extract v (v + m')) r → Sim st1 z → wpS (model prog w) A E s (do
      modify fun z => setArr z (r.toList.zipIdx.foldl (fun a (p, j) => a.setIfInBounds (u + d + j) p) (arrOf z))
      return (failedOf (← get)).isNone) Q z := by
    rintro r z ⟨pr, sr⟩ ⟨k1, k2, k3, k4⟩
    refine wpS_bind (wpS_modify (wpS_bind (wpS_get ?_)))
    have ez : arrOf z = arrOf st := k2.trans A1
    obtain ⟨ov, pp⟩ := over (u := u + d) (v := v) (f := v + m') (r := r) (xs := arrOf st) (ys := r.toList.zipIdx.foldl (fun a (x : Keyed × Nat) => a.setIfInBounds (u + d + x.2) x.1) (arrOf st)) (by omega) (by omega) (by omega) pr rfl
    have ef : failedOf (setArr z (r.toList.zipIdx.foldl (fun a (x : Keyed × Nat) => a.setIfInBounds (u + d + x.2) x.1) (arrOf z))) = none := (k4.trans B1.failed)
    have lr : r.size = v + m' - (u + d) := by
      have := pr.length_eq
      rw [List.length_append] at this
      simp only [Array.length_toList] at this
      rw [zx, zy] at this
      omega
    -- an item of the middle is one of the old middle's
    have mem : ∀ i, u + d ≤ i → i < v + m' → ∃ i', u + d ≤ i' ∧ i' < v + m' ∧ K r (i - (u + d)) = K (arrOf st) i' := by
      intro i a b
      have hi : i - (u + d) < r.size := by omega
      have hm : r[i - (u + d)] ∈ ((arrOf st).extract (u + d) v).toList ++ ((arrOf st).extract v (v + m')).toList := pr.mem_iff.mp (by simp)
      rw [K_at hi]
      rcases List.mem_append.mp hm with q | q
      · obtain ⟨x, x1, x2, x3⟩ := mem_ex' (by omega) (by omega) q
        exact ⟨x, x1, by omega, x3⟩
      · obtain ⟨x, x1, x2, x3⟩ := mem_ex' (by omega) (by omega) q
        exact ⟨x, by omega, x2, x3⟩
    have srt : ∀ i j, i ≤ j → j < r.size → K r i ≤ K r j := by
      intro i j a b
      rcases Nat.lt_or_ge i j with q | q
      · have := List.pairwise_iff_getElem.mp sr i j (by simp; omega) (by simpa using b) q
        rw [K_at (by omega), K_at b]
        simpa only [Array.getElem_toList] using this
      · have : i = j := by omega
        subst this; exact Int.le_refl _
    have ret : (failedOf (setArr z (r.toList.zipIdx.foldl (fun a (x : Keyed × Nat) => a.setIfInBounds (u + d + x.2) x.1) (arrOf z)))).isNone = true := by rw [ef]; rfl
    show wpS _ _ _ _ (pure (failedOf (setArr z (r.toList.zipIdx.foldl (fun a (x : Keyed × Nat) => a.setIfInBounds (u + d + x.2) x.1) (arrOf z)))).isNone) _ _
    rw [ret]
    refine wpS_pure (h _ ⟨?_, k1.trans B1.kind, ef⟩ ?_ ?_ ?_)
    · show (r.toList.zipIdx.foldl (fun a (x : Keyed × Nat) => a.setIfInBounds (u + d + x.2) x.1) (arrOf z)).Perm a₀
      rw [ez]
      exact pp.trans hB.perm
    · show (pendingOf z).toList = _
      rw [k3]; exact P1
    · show Sg (r.toList.zipIdx.foldl (fun a (x : Keyed × Nat) => a.setIfInBounds (u + d + x.2) x.1) (arrOf z)) _ _
      rw [ez]
      intro i j a b c
      rcases Nat.lt_or_ge i (u + d) with q1 | q1
      · rw [ov.lo i q1]
        rcases Nat.lt_or_ge j (u + d) with q2 | q2
        · rw [ov.lo j q2]; exact s1 i j a b (by omega)
        · have up : ∀ j', u + d ≤ j' → j' < v + m → K (arrOf st) i ≤ K (arrOf st) j' := by
            intro j' p1 p2
            rcases Nat.lt_or_ge j' v with q3 | q3
            · exact s1 i j' a (by omega) q3
            · exact Int.le_trans (lo1 i a (by omega)) (s2 v j' (Nat.le_refl _) q3 p2)
          rcases Nat.lt_or_ge j (v + m') with q3 | q3
          · rw [ov.mid j q2 q3]
            obtain ⟨j', p1, p2, p3⟩ := mem j q2 q3
            rw [p3]
            exact up j' p1 (by omega)
          · rw [ov.hi j q3]
            exact up j q2 c
      · rcases Nat.lt_or_ge i (v + m') with q2 | q2
        · rw [ov.mid i q1 q2]
          rcases Nat.lt_or_ge j (v + m') with q3 | q3
          · rw [ov.mid j (by omega) q3]
            exact srt _ _ (by omega) (by omega)
          · rw [ov.hi j q3]
            obtain ⟨i', p1, p2, p3⟩ := mem i q1 q2
            rw [p3]
            rcases Nat.lt_or_ge i' v with q4 | q4
            · exact Int.le_trans (s1 i' (v - 1) (by omega) (by omega) (by omega)) (hi2 j q3 c)
            · exact s2 i' j q4 (by omega) c
        · rw [ov.hi i q2, ov.hi j (by omega)]
          exact s2 i j (by omega) b c
    · show Off (r.toList.zipIdx.foldl (fun a (x : Keyed × Nat) => a.setIfInBounds (u + d + x.2) x.1) (arrOf z)) _ _ _
      rw [ez]
      intro i q
      rcases Nat.lt_or_ge i (u + d) with q1 | q1
      · exact ov.lo i q1
      · exact ov.hi i (by omega)
  by_cases le : k - d ≤ m'
  · rw [if_pos le]
    exact wpS_bind (wp_mLo B1.kind ikx iky sx sy (by omega) (by omega) c0 cl fin)
  · rw [if_neg le]
    exact wpS_bind (wp_mHi B1.kind ikx iky sx sy (by omega) (by omega) c0 cl fin)
end
end Ts
set_option Elab.async false
set_option linter.all false
set_option maxRecDepth 100000
set_option maxHeartbeats 0
namespace Ts
open PySem PyProof.Rows
noncomputable def Ch : List (Nat × Nat × Nat) → Nat → Nat → Prop
  | [], a, b => a = b
  | c :: l, a, b => c.1 = a ∧ 1 ≤ c.2.1 ∧ Ch l (a + c.2.1) b
theorem Ch.app : ∀ {l1 l2 : List (Nat × Nat × Nat)} {a b : Nat}, Ch (l1 ++ l2) a b ↔ ∃ c, Ch l1 a c ∧ Ch l2 c b
  | [], l2, a, b => ⟨fun h => ⟨a, rfl, h⟩, fun ⟨_, e, h⟩ => by cases e; exact h⟩
  | x :: l1, l2, a, b => by
    constructor
    · rintro ⟨h1, h2, h3⟩
      obtain ⟨c, p, q⟩ := Ch.app.mp h3
      exact ⟨c, ⟨h1, h2, p⟩, q⟩
    · rintro ⟨c, ⟨h1, h2, p⟩, q⟩
      exact ⟨h1, h2, Ch.app.mpr ⟨c, p, q⟩⟩
theorem Ch.len : ∀ {l : List (Nat × Nat × Nat)} {a b : Nat}, Ch l a b → a + l.length ≤ b
  | [], a, b, h => by cases h; exact Nat.le_refl _
  | x :: l, a, b, ⟨h1, h2, h3⟩ => by have := Ch.len h3; rw [List.length_cons]; omega
theorem Ch.mem : ∀ {l : List (Nat × Nat × Nat)} {a b : Nat}, Ch l a b → ∀ c ∈ l, a ≤ c.1 ∧ c.1 + c.2.1 ≤ b
  | [], a, b, h, c, hc => by cases hc
  | x :: l, a, b, ⟨h1, h2, h3⟩, c, hc => by
    rcases List.mem_cons.mp hc with rfl | hc
    · have := Ch.len h3; omega
    · have := Ch.mem h3 c hc; omega
structure PI (xs : Array Keyed) (l : List (Nat × Nat × Nat)) (b : Nat) : Prop where
  ch : Ch l 0 b
  sg : ∀ c ∈ l, Sg xs c.1 (c.1 + c.2.1)
theorem PI.off {xs ys : Array Keyed} {l : List (Nat × Nat × Nat)} {b e : Nat} (h : PI xs l b) (o : Off ys xs b e) : PI ys l b :=
  ⟨h.ch, fun c hc => (h.sg c hc).off o (.inl (h.ch.mem c hc).2)⟩
theorem split2 {α : Type} : ∀ (l : List α) (i : Nat), i + 1 < l.length → ∃ l1 x y l2, l = l1 ++ x :: y :: l2 ∧ l1.length = i
  | [], i, h => by simp at h
  | [x], i, h => by simp at h
  | x :: y :: l, 0, _ => ⟨[], x, y, l, rfl, rfl⟩
  | x :: l, i + 1, h => by
    obtain ⟨l1, p, q, l2, e, f⟩ := split2 l i (by simpa using h)
    exact ⟨x :: l1, p, q, l2, by rw [e]; rfl, by rw [List.length_cons, f]⟩
theorem PI.cut {xs : Array Keyed} {l1 l2 : List (Nat × Nat × Nat)} {x y : Nat × Nat × Nat} {b : Nat} (h : PI xs (l1 ++ x :: y :: l2) b) :
    y.1 = x.1 + x.2.1 ∧ 1 ≤ x.2.1 ∧ 1 ≤ y.2.1 ∧ y.1 + y.2.1 ≤ b ∧ Sg xs x.1 y.1 ∧ Sg xs y.1 (y.1 + y.2.1) := by
  obtain ⟨c, p, q1, q2, q3, q4, q5⟩ := Ch.app.mp h.ch
  have m := h.ch.mem y (by simp)
  have s1 := h.sg x (by simp)
  have e : y.1 = x.1 + x.2.1 := by omega
  exact ⟨e, q2, q4, m.2, e ▸ s1, h.sg y (by simp)⟩
theorem PI.join {xs ys : Array Keyed} {l1 l2 : List (Nat × Nat × Nat)} {x y : Nat × Nat × Nat} {b pw : Nat} (h : PI xs (l1 ++ x :: y :: l2) b)
    (s : Sg ys x.1 (y.1 + y.2.1)) (o : Off ys xs x.1 (y.1 + y.2.1)) : PI ys (l1 ++ (x.1, x.2.1 + y.2.1, pw) :: l2) b := by
  obtain ⟨c, p, q1, q2, q3, q4, q5⟩ := Ch.app.mp h.ch
  refine ⟨Ch.app.mpr ⟨c, p, q1, by show 1 ≤ x.2.1 + y.2.1; omega, by rw [← Nat.add_assoc]; exact q5⟩, fun z hz => ?_⟩
  rcases List.mem_append.mp hz with hz | hz
  · exact (h.sg z (by simp [hz])).off o (.inl (by have := p.mem z hz; omega))
  · rcases List.mem_cons.mp hz with rfl | hz
    · show Sg ys x.1 (x.1 + (x.2.1 + y.2.1))
      rw [show x.1 + (x.2.1 + y.2.1) = y.1 + y.2.1 by omega]
      exact s
    · exact (h.sg z (by simp [hz])).off o (.inr (by have := q5.mem z hz; omega))
theorem Ch.same : ∀ {l l' : List (Nat × Nat × Nat)} {a b : Nat}, l'.map (fun c => (c.1, c.2.1)) = l.map (fun c => (c.1, c.2.1)) → Ch l a b → Ch l' a b
  | [], [], a, b, _, h => h
  | [], _ :: _, a, b, e, h => by simp at e
  | _ :: _, [], a, b, e, h => by simp at e
  | x :: l, y :: l', a, b, e, ⟨h1, h2, h3⟩ => by
    simp only [List.map_cons, List.cons.injEq, Prod.mk.injEq] at e
    obtain ⟨⟨e1, e2⟩, e3⟩ := e
    exact ⟨e1.trans h1, e2 ▸ h2, e2 ▸ Ch.same e3 h3⟩
theorem PI.same {xs : Array Keyed} {l l' : List (Nat × Nat × Nat)} {b : Nat} (e : l'.map (fun c => (c.1, c.2.1)) = l.map (fun c => (c.1, c.2.1))) (h : PI xs l b) : PI xs l' b := by
  refine ⟨h.ch.same e, fun c hc => ?_⟩
  have m : (c.1, c.2.1) ∈ l.map (fun c => (c.1, c.2.1)) := e ▸ List.mem_map_of_mem hc
  obtain ⟨d, hd, q⟩ := List.mem_map.mp m
  injection q with q1 q2
  have := h.sg d hd
  rw [q1, q2] at this
  exact this
theorem PI.last {xs : Array Keyed} {p : Array (Nat × Nat × Nat)} {b i pw : Nat} (h : PI xs p.toList b) : PI xs (p.modify i fun x => (x.1, x.2.1, pw)).toList b := by
  refine h.same ?_
  apply List.ext_getElem?
  intro j
  rw [Array.toList_modify, List.getElem?_map, List.getElem?_map, List.getElem?_modify]
  cases p.toList[j]? with
  | none => rfl
  | some y =>
    by_cases e : i = j
    · simp [e]
    · simp [e]
theorem PI.push {xs : Array Keyed} {p : Array (Nat × Nat × Nat)} {lo n : Nat} (h : PI xs p.toList lo) (s : Sg xs lo (lo + n)) (n1 : 1 ≤ n) : PI xs (p.push (lo, n, 0)).toList (lo + n) := by
  rw [Array.toList_push]
  refine ⟨Ch.app.mpr ⟨lo, h.ch, rfl, n1, rfl⟩, fun c hc => ?_⟩
  rcases List.mem_append.mp hc with hc | hc
  · exact h.sg c hc
  · rw [List.mem_singleton.mp hc]
    exact s
section
variable {prog : Program} {w : World} {A : Around} {E : Value → Shared → Prop} {s : Shared} {a₀ : Array Keyed}
theorem wp_join {st : SortSt} {i b : Nat} {Q : Bool → SortSt → Prop} (g : Gd a₀) (hB : SB a₀ st) (hb : b ≤ a₀.size) (hP : PI (arrOf st) (pendingOf st).toList b) (hi : i + 1 < (pendingOf st).size)
    (h : ∀ z, SB a₀ z → PI (arrOf z) (pendingOf z).toList b → Off (arrOf z) (arrOf st) 0 b → (pendingOf z).size + 1 = (pendingOf st).size → Q true z) :
    wpS (model prog w) A E s (mergeAt' i) Q st := by
  obtain ⟨l1, ⟨u, k, pw⟩, ⟨v, m, pw2⟩, l2, e, f⟩ := split2 (pendingOf st).toList i (by simpa using hi)
  rw [e] at hP
  obtain ⟨c1, c2, c3, c4, c5, c6⟩ := hP.cut
  subst f
  refine wp_mAt g hB e c1 c2 c3 (Nat.le_trans c4 hb) c5 c6 fun z z1 z2 z3 z4 => h z z1 ?_ (z4.wide (Nat.zero_le _) c4) ?_
  · rw [z2]
    exact hP.join z3 z4
  · have e1 := congrArg List.length e
    have e2 := congrArg List.length z2
    simp at e1 e2
    omega
theorem wp_runs {st : SortSt} {Q : Unit → SortSt → Prop} (g : Gd a₀) (hB : SB a₀ st) (hp : pendingOf st = #[]) (h2 : 2 ≤ a₀.size)
    (h : ∀ z, (arrOf z).Perm a₀ → failedOf z = none → SortedTo (arrOf z) a₀.size → Q () z) : wpS (model prog w) A E s sortRuns' Q st := by
  rw [sortRuns'_eq]
  refine wpS_bind (wpS_get ?_)
  simp only [hB.sz]
  generalize minRun' a₀.size a₀.size 0 = mr
  refine wpS_bind (wpS_mono (wpS_forRange (I := fun x c z => ∃ lo, c = (none, lo) ∧ SB a₀ z ∧ lo ≤ a₀.size ∧ PI (arrOf z) (pendingOf z).toList lo ∧ (x ≤ lo ∨ lo = a₀.size))
    (Q := fun c z => c = (none, a₀.size) ∧ SB a₀ z ∧ PI (arrOf z) (pendingOf z).toList a₀.size) ?a1 ?b1 ?c1) ?d1)
  case c1 => exact ⟨0, rfl, hB, Nat.zero_le _, ⟨by rw [hp]; rfl, by rw [hp]; simp⟩, .inl (Nat.le_refl _)⟩
  case b1 =>
    rintro c z ⟨lo, rfl, b, l, p, x⟩
    have : lo = a₀.size := by omega
    subst this
    exact ⟨rfl, b, p⟩
  case d1 =>
    rintro c z ⟨rfl, b, p⟩
    dsimp only
    refine wpS_bind (wpS_mono (wpS_forRange (I := fun x c z => c = (none, ()) ∧ SB a₀ z ∧ PI (arrOf z) (pendingOf z).toList a₀.size ∧ (pendingOf z).size ≤ max 1 (a₀.size - x))
      (Q := fun c z => c = (none, ()) ∧ SB a₀ z ∧ PI (arrOf z) (pendingOf z).toList a₀.size ∧ (pendingOf z).size ≤ 1) ?a2 ?b2 ?c2) ?d2)
    case c2 => exact ⟨rfl, b, p, by have := p.ch.len; simp at this; omega⟩
    case b2 =>
      rintro c z ⟨rfl, b, p, q⟩
      exact ⟨rfl, b, p, by omega⟩
    case d2 =>
      rintro c z ⟨rfl, b, p, q⟩
      refine wpS_pure (h z b.perm b.failed ?_)
      cases e : (pendingOf z).toList with
      | nil =>
        have := p.ch
        rw [e] at this
        have : 0 = a₀.size := this
        omega
      | cons y l =>
        have ll : l = [] := by
          have := congrArg List.length e
          simp at this
          exact List.length_eq_zero_iff.mp (by omega)
        subst ll
        have ch := p.ch
        have sg := p.sg y (by rw [e]; simp)
        rw [e] at ch
        obtain ⟨c1, c2, c3⟩ := ch
        have c3 : 0 + y.2.1 = a₀.size := c3
        intro i j a b
        exact sg i j (by omega) a (by omega)
    case a2 =>
      rintro x c z _ xn ⟨rfl, b, p, q⟩
      refine wpS_bind (wpS_get ?_)
      by_cases e : (pendingOf z).size ≤ 1
      · rw [if_pos e]
        exact wpS_pure ⟨rfl, b, p, e⟩
      · rw [if_neg e]
        generalize hb' : (if (pendingOf z).size - 2 > 0 then Option.map (fun x => x.snd.fst) (pendingOf z)[(pendingOf z).size - 2 - 1]? else none) = bf
        generalize hi' : (if Option.any _ bf = true then (pendingOf z).size - 2 - 1 else (pendingOf z).size - 2) = ix
        have hix : ix + 1 < (pendingOf z).size := by
          rw [← hi']
          split <;> omega
        refine wpS_bind (wp_join g b (Nat.le_refl _) p hix fun z' b' p' _ s' => ?_)
        simp only [Bool.not_true, Bool.false_eq_true, if_false]
        exact wpS_pure ⟨rfl, b', p', by omega⟩
  case a1 =>
    rintro x c z _ xn ⟨lo, rfl, b, l, p, xl⟩
    dsimp only
    by_cases ge : lo ≥ a₀.size
    · rw [if_pos ge]
      have : lo = a₀.size := by omega
      subst this
      exact wpS_pure ⟨rfl, b, p⟩
    rw [if_neg ge]
    refine wpS_bind (wp_countRun g (by omega) (by omega) b fun n z1 n1 nn b1 s1 o1 q1 => ?_)
    dsimp only
    have p1 : PI (arrOf z1) (pendingOf z1).toList lo := q1 ▸ p.off o1
    by_cases lt : n < mr
    · rw [if_pos lt]
      refine wpS_bind (wpS_lift (wpAny_rule ⟨rfl, ?_⟩))
      refine wpS_bind (wp_binarySort g (by omega) (by omega) b1 s1 fun z2 b2 s2 o2 q2 => ?_)
      simp only [Bool.not_true, Bool.false_eq_true, if_false]
      have p2 : PI (arrOf z2) (pendingOf z2).toList lo := q2 ▸ p1.off o2
      have f1 : 1 ≤ min (a₀.size - lo) mr := by omega
      have f2 : lo + min (a₀.size - lo) mr ≤ a₀.size := by omega
      generalize min (a₀.size - lo) mr = n' at *
      refine wpS_bind (wpS_get ?_)
      cases eb : (pendingOf z2).back? with
      | none =>
        dsimp only
        refine wpS_bind (wpS_modify (wpS_pure ⟨_, rfl, ⟨b2.perm, b2.kind, b2.failed⟩, f2, ?_, by omega⟩))
        exact p2.push s2 f1
      | some y =>
        obtain ⟨y1, y2, y3⟩ := y
        dsimp only
        generalize power' _ _ _ _ = pw
        refine wpS_bind (wpS_mono (wpS_forRange (I := fun _ c z => c = (none, ()) ∧ SB a₀ z ∧ PI (arrOf z) (pendingOf z).toList lo ∧ Sg (arrOf z) lo (lo + n'))
          (Q := fun c z => c = (none, ()) ∧ SB a₀ z ∧ PI (arrOf z) (pendingOf z).toList lo ∧ Sg (arrOf z) lo (lo + n')) ?_ (fun _ _ h => h) ⟨rfl, b2, p2, s2⟩) ?_)
        · rintro x' c z' _ _ ⟨rfl, b', p', s'⟩
          refine wpS_bind (wpS_get ?_)
          by_cases e : (pendingOf z').size > 1
          · rw [if_pos e]
            obtain ⟨y, ey⟩ : ∃ y, (pendingOf z')[(pendingOf z').size - 2]? = some y := ⟨_, getElem?_pos _ _ (by omega)⟩
            rw [ey]
            obtain ⟨w1, w2, old⟩ := y
            dsimp only
            split
            · exact wpS_pure ⟨rfl, b', p', s'⟩
            · refine wpS_bind (wp_join g b' l p' (by omega) fun z2 b2 p2 o2 _ => ?_)
              simp only [Bool.not_true, Bool.false_eq_true, if_false]
              exact wpS_pure ⟨rfl, b2, p2, s'.off o2 (.inr (Nat.le_refl _))⟩
          · rw [if_neg e]
            exact wpS_pure ⟨rfl, b', p', s'⟩
        · rintro c z' ⟨rfl, b', p', s'⟩
          dsimp only
          refine wpS_bind (wpS_modify (wpS_bind (wpS_modify (wpS_pure ⟨_, rfl, ⟨b'.perm, b'.kind, b'.failed⟩, f2, ?_, by omega⟩))))
          exact p'.last.push s' f1
    · rw [if_neg lt]
      have f2 : lo + n ≤ a₀.size := by omega
      refine wpS_bind (wpS_get ?_)
      cases eb : (pendingOf z1).back? with
      | none =>
        dsimp only
        refine wpS_bind (wpS_modify (wpS_pure ⟨_, rfl, ⟨b1.perm, b1.kind, b1.failed⟩, f2, ?_, by omega⟩))
        exact p1.push s1 n1
      | some y =>
        obtain ⟨y1, y2, y3⟩ := y
        dsimp only
        generalize power' _ _ _ _ = pw
        refine wpS_bind (wpS_mono (wpS_forRange (I := fun _ c z => c = (none, ()) ∧ SB a₀ z ∧ PI (arrOf z) (pendingOf z).toList lo ∧ Sg (arrOf z) lo (lo + n))
          (Q := fun c z => c = (none, ()) ∧ SB a₀ z ∧ PI (arrOf z) (pendingOf z).toList lo ∧ Sg (arrOf z) lo (lo + n)) ?_ (fun _ _ h => h) ⟨rfl, b1, p1, s1⟩) ?_)
        · rintro x' c z' _ _ ⟨rfl, b', p', s'⟩
          refine wpS_bind (wpS_get ?_)
          by_cases e : (pendingOf z').size > 1
          · rw [if_pos e]
            obtain ⟨y, ey⟩ : ∃ y, (pendingOf z')[(pendingOf z').size - 2]? = some y := ⟨_, getElem?_pos _ _ (by omega)⟩
            rw [ey]
            obtain ⟨w1, w2, old⟩ := y
            dsimp only
            split
            · exact wpS_pure ⟨rfl, b', p', s'⟩
            · refine wpS_bind (wp_join g b' l p' (by omega) fun z2 b2 p2 o2 _ => ?_)
              simp only [Bool.not_true, Bool.false_eq_true, if_false]
              exact wpS_pure ⟨rfl, b2, p2, s'.off o2 (.inr (Nat.le_refl _))⟩
          · rw [if_neg e]
            exact wpS_pure ⟨rfl, b', p', s'⟩
        · rintro c z' ⟨rfl, b', p', s'⟩
          dsimp only
          refine wpS_bind (wpS_modify (wpS_bind (wpS_modify (wpS_pure ⟨_, rfl, ⟨b'.perm, b'.kind, b'.failed⟩, f2, ?_, by omega⟩))))
          exact p'.last.push s' n1
end
end Ts
set_option Elab.async false
set_option linter.all false
set_option maxRecDepth 100000
set_option maxHeartbeats 0
namespace L2
open PySem PySem.Spec PyProof.Rows
theorem nums_of {vs : List Value} {ns : List Int} (h : IntsAre vs ns) : vs.map numOf = ns := by
  induction h with
  | nil => rfl
  | cons n t _ ih => rw [List.map_cons, ih]; rfl
theorem zip_self_fst : ∀ (vs : List Value), (vs.zip vs).map (fun p => numOf p.1) = vs.map numOf
  | [] => rfl
  | v :: vs => by rw [List.zip_cons_cons, List.map_cons, zip_self_fst vs]; rfl
theorem gd_of {vs : List Value} {ns : List Int} (h : IntsAre vs ns) (nd : ns.Nodup) : Ts.Gd (pairsOf vs) := by
  refine ⟨h.intKeys, ?_⟩
  have e : (pairsOf vs).toList.map Ts.N = ns := by
    rw [pairsOf_toList]
    exact (zip_self_fst vs).trans (nums_of h)
  rw [e]
  exact nd
section
variable {prog : Program} {w : World} {A : Around} {E : Value → Shared → Prop} {s : Shared}
theorem list_sort_nd {a : Addr} {vs : List Value} {ns : List Int} {n : Nat} {P : PySem.Fin → Shared → Prop} (ho : s.heap.get? a = some (seqObj "list" vs.toArray n)) (hI : IntsAre vs ns) (nd : ns.Nodup) (hz : vs.length ≤ 100000)
    (h : ∀ (h' : Heap) (out : Array Value) (ns' : List Int) (e : Nat), (∀ b o, b ≠ a → s.heap.get? b = some o → h'.get? b = some o) → h'.get? a = some (seqObj "list" out e) → IntsAre out.toList ns' → ns'.Perm ns → ns'.Pairwise (· ≤ ·) → P (.done (.ret .none)) { s with heap := h' }) :
    wpAny (model prog w) A (Builtin.«list.sort» ⟨[.ref a], []⟩) P E s := by
  rw [list_sort_plain]
  have ha : a < s.heap.objs.size := Heap.lt_size ho
  have hv : vs.toArray.size = vs.length := by simp
  refine wpAny_bind (listItems_at ho rfl (wpAny_bind (listUpdate_at ho rfl ?_ (by rw [hv, sizeLine_eq]; omega) (by simp))))
  obtain ⟨e1, h1⟩ : ∃ e1, (s.heap.update a (Obj.mapSeq fun _ => #[])).get? a = some (seqObj "list" #[] e1) := ⟨_, get?_update_seq ho (fun _ => #[])⟩
  have o1 : ∀ b o, b ≠ a → s.heap.get? b = some o → (s.heap.update a (Obj.mapSeq fun _ => #[])).get? b = some o := fun b o hb e => (Heap.get?_update_ne _ _ _ _ hb).trans e
  refine wpAny_bind (seqEpoch_at h1 rfl (wpAny_bind (wpAny_newTuple (wpAny_bind (wpAny_newList (wpAny_holding ?_))))))
  obtain ⟨h6, e6⟩ : ∃ h6, h6 = ((s.heap.update a (Obj.mapSeq fun _ => #[])).push (seqObj "tuple" vs.toArray 0)).push (seqObj "list" #[] 0) := ⟨_, rfl⟩
  have g6 : h6.get? a = some (seqObj "list" #[] e1) := by rw [e6]; exact Heap.get?_push_of_some _ (Heap.get?_push_of_some _ h1)
  have o6 : ∀ b o, b ≠ a → s.heap.get? b = some o → h6.get? b = some o := fun b o hb e => by rw [e6]; exact Heap.get?_push_of_some _ (Heap.get?_push_of_some _ (o1 b o hb e))
  show wpAny (model prog w) A _ P E { s with heap := ((s.heap.update a (Obj.mapSeq fun _ => #[])).push (seqObj "tuple" vs.toArray 0)).push (seqObj "list" #[] 0) }
  rw [← e6]
  dsimp only
  have fin : ∀ z : SortSt, (arrOf z).Perm (pairsOf vs) → failedOf z = none → SortedTo (arrOf z) (pairsOf vs).size → wpAny (model prog w) A (do
      let t := (← seqEpoch a) != e1
      Builtin.List.listUpdate (.ref a) fun _ => (arrOf z).map (·.2)
      if let some e := failedOf z then rule "list.sort.comparison-raised"; throw e
      if t then rule "list.sort.modified"; raiseError "ValueError" "list modified during sort"
      ret .none) P E { s with heap := h6 } := by
    intro z hp hf hs
    obtain ⟨ns', a1, a2, a3⟩ := sorted_out hI hp hs
    have hsz : ((arrOf z).map (·.2)).size = vs.length := by rw [Array.size_map, hp.size_eq, pairsOf_size]
    refine wpAny_bind (seqEpoch_at (s := { s with heap := h6 }) g6 rfl (wpAny_bind (listUpdate_at (s := { s with heap := h6 }) g6 rfl ?_ (by simp) (by rw [hsz, sizeLine_eq]; omega))))
    rw [hf]
    simp only [bne_self_eq_false, Bool.false_eq_true, if_false]
    exact wpAny_pure (h _ _ ns' _ (fun b o hb e => (Heap.get?_update_ne _ _ _ _ hb).trans (o6 b o hb e)) (get?_update_seq g6 fun _ => (arrOf z).map (·.2)) a1 a2 a3)
  by_cases h2 : vs.toArray.size < 2
  · rw [if_pos h2, if_pos h2]
    refine wpAny_bind (wpAny_pure ?_)
    rw [StateT.run_pure]
    refine wpAny_bind (wpAny_pure ?_)
    refine fin (SortSt.mk' general' (vs.toArray.zip vs.toArray) #[] 7 none) (Array.Perm.refl _) rfl fun i j hij hj => ?_
    have : i = j := by rw [pairsOf_size] at hj; omega
    subst this
    exact Int.le_refl _
  · rw [if_neg h2, if_neg h2]
    have hk : keyKind' vs.toArray = pure oneType' := by
      match vs, hv, h2, hI with
      | [], _, h2, _ => exact absurd (show (0 : Nat) < 2 by decide) h2
      | [_], _, h2, _ => exact absurd (show (1 : Nat) < 2 by decide) h2
      | _ :: _ :: _, _, _, hI => exact keyKind_ints hI
    rw [hk]
    refine wpAny_bind (wpAny_pure ?_)
    refine wpAny_bind (wpAny_mono (Ts.wp_runs (a₀ := pairsOf vs) (st := SortSt.mk' oneType' (pairsOf vs) #[] 7 none)
      (Q := fun _ z => (arrOf z).Perm (pairsOf vs) ∧ failedOf z = none ∧ SortedTo (arrOf z) (pairsOf vs).size)
      (gd_of hI nd) ⟨Array.Perm.refl _, rfl, rfl⟩ rfl (by rw [pairsOf_size]; omega) fun z a1 a2 a3 => ⟨a1, a2, a3⟩) ?_ fun _ _ e => e)
    rintro ⟨⟨⟩, z⟩ s' ⟨rfl, hp, hf, hs⟩
    exact fin z hp hf hs
end
theorem keys_int {P : Program} {w : World} {kvs : List (Key × V)} {vs : List (Key × Value)} {ks : List Int} (r : KV kvs vs) (hk : kvs.map (·.1) = ks.map Sum.inl) {acc : Array Value}
    (hi : ItemsOf (fun i v => ∃ k x, vs[i]? = some (k, x) ∧ (mixKind P w).is k v = true) acc vs.length) : IntsAre acc.toList ks := by
  obtain ⟨hs, hi⟩ := hi
  have hl : ks.length = vs.length := by
    have := congrArg List.length hk
    rw [List.length_map, List.length_map, r.length] at this
    exact this.symm
  have hat : ∀ (i : Nat) v, acc.toList[i]? = some v → ∃ t, v = .int (ks.getD i 0) t := fun i v e => by
    obtain ⟨k, x, e1, e2⟩ := hi i v (by simpa using e)
    have e3 : (kvs.map (·.1))[i]? = some k := by rw [r.keys, List.getElem?_map, e1]; rfl
    rw [hk, List.getElem?_map] at e3
    obtain ⟨z, e4, e5⟩ := Option.map_eq_some_iff.mp e3
    subst e5
    have e2' : keyIs (.inl z) v = true := e2
    rcases keyIs_shape e2' with ⟨j, t, q1, q2⟩ | ⟨y, t, q1, q2⟩
    · have : z = j := Sum.inl.inj q1
      subst this
      exact ⟨t, by rw [q2, List.getD_eq_getElem?_getD, e4]; rfl⟩
    · cases q1
  have hal : acc.toList.length = ks.length := by rw [Array.length_toList, hs, hl]
  generalize acc.toList = us at hat hal
  clear hk hl hs hi r
  induction us generalizing ks with
  | nil =>
    cases ks with
    | nil => exact .nil
    | cons _ _ => simp at hal
  | cons u us ih =>
    cases ks with
    | nil => simp at hal
    | cons z ks =>
      obtain ⟨t, rfl⟩ := hat 0 u rfl
      exact .cons z t (ih (fun i v e => hat (i + 1) v e) (by simpa using hal))
noncomputable def rSortD : List V → Hp → VK → Prop := fun xs H Q => ∃ (a : Addr) (kvs : List (Key × V)) (ks : List Int), xs = [.ref a] ∧ H a = some (.dK kvs) ∧ kvs.map (·.1) = ks.map Sum.inl ∧ ks.Nodup ∧ ks.length ≤ 100000 ∧ ∀ (l : Addr) (ns : List Int), ns.Perm ks → ns.Pairwise (· ≤ ·) → H l = none → Q (.ref l) (upd H l (.lst (ns.map V.int)))
theorem call_sortD {X : Cx} (hc : X.calm = true) : CallR X (.builtin "sorted") rSortD := by
  intro pins s σ H xs us Q I r h
  obtain ⟨a, kvs, ks, rfl, ha, hk, nd, hl, q⟩ := h
  obtain ⟨u, rfl, ru⟩ := vals1 r
  cases ru
  obtain ⟨z, hsys, vs, rel, dd⟩ := dk_of I.hok ha
  obtain ⟨ep, hat⟩ := dd.dictAt
  have hkl : vs.length = ks.length := by
    have := congrArg List.length hk
    rw [List.length_map, List.length_map, rel.length] at this
    exact this
  refine Calls.call_function_entry kind_sorted plain_sorted entry_sorted (args_sorted1 _) ?_
  unfold Builtin.«sorted»
  refine wpAny_bind (m := checkCount "sorted" 1 1 _) (wpAny_pure ?_)
  have hd : X.A.in1.handled = none := by first | exact I.ok.hd hc | simpa [Around.in1] using I.ok.hd hc
  refine wpAny_bind (PySem.W.kdu_collect (A := X.A.in1) (PySem.W.kdl_dict (knd := mixKind X.prog X.w) (kvs := vs) (ep := ep) hsys) hd hat (by rw [hkl, sizeLine_eq]; omega) fun h' tk acc hk' hacc => ?_)
  have hI := keys_int rel hk hacc
  have hal : acc.toList.length = ks.length := by rw [Array.length_toList, hacc.1, hkl]
  refine wpAny_bind (wpAny_newList ?_ (by rw [hal, sizeLine_eq]; omega))
  refine wpAny_bind (wpAny_holding (wpAny_call_entry slot_list_sort ⟨_, Heap.get?_push_size _ rfl, rfl⟩ entry_list_sort (list_sort_nd (vs := acc.toList) (n := 0) (Heap.get?_push_size _ rfl) hI nd (by omega) fun h2 out ns' e o2 g2 a1 a2 a3 => ⟨_, rfl, ?_⟩) (args_list_sort _)))
  have I1 : Inv X pins σ H { s with heap := h', toks := tk } := I.kept hk'
  have hf : H h'.objs.size = none := I1.hok.fresh (Nat.le_refl _)
  have I2 := I1.laid (a := h'.objs.size) (o := .lst (ns'.map V.int)) (t' := tk) (h' := h2) (fun b o e => o2 b o (Nat.ne_of_lt (Heap.lt_size e)) (Heap.get?_push_of_some _ e)) (Nat.le_refl _)
    ⟨by rw [List.length_map, a2.length_eq, sizeLine_eq]; omega, out.toList, e, vals_of_ints a1, by rw [Array.toArray_toList]; exact g2⟩
  exact wpAny_pure ⟨_, rfl, .ref h'.objs.size, _, I2, rfl, q _ ns' a2 a3 hf⟩
theorem wp_sortD {H : Hp} {Q : VK} {a : Addr} {kvs : List (Key × V)} {ks : List Int} (h : H a = some (.dK kvs)) (hk : kvs.map (·.1) = ks.map Sum.inl) (nd : ks.Nodup) (hl : ks.length ≤ 100000)
    (q : ∀ (l : Addr) (ns : List Int), ns.Perm ks → ns.Pairwise (· ≤ ·) → H l = none → Q (.ref l) (upd H l (.lst (ns.map V.int)))) : rSortD [.ref a] H Q := ⟨a, kvs, ks, rfl, h, hk, nd, hl, q⟩
end L2
set_option Elab.async false
set_option linter.all false
set_option maxRecDepth 100000
set_option maxHeartbeats 0
namespace L2
open PySem PySem.Spec PyProof.Rows
section
variable {X : Cx}
theorem vals_refs : ∀ {Ds : List Addr} {us : List Value}, Vals (Ds.map V.ref) us → us = Ds.map Value.ref
  | [], us, r => by cases r; rfl
  | D :: Ds, us, r => by
    cases r with
    | cons r1 r2 =>
      cases r1
      rw [vals_refs r2]
      rfl
noncomputable def rIsiET (K : PySem.W.Frag) : List V → Hp → VK → Prop := fun xs H Q => ∃ (a C tp : Addr) (Ds : List Addr) (b : Bool), xs = [.ref a, .ref tp] ∧ H a = some (excHO a C) ∧ ExcF K C ∧ H tp = some (.tup (Ds.map V.ref)) ∧ PySem.W.kitAny K (.ref C) (Ds.map Value.ref) = some b ∧ Q (.bl b) H
theorem call_isinstET : CallR X (.builtin "isinstance") (rIsiET X.K) := by
  intro pins s σ H xs us Q I r h
  obtain ⟨a, C, tp, Ds, b, rfl, ha, F, ht, hk, q⟩ := h
  obtain ⟨u, w', rfl, r1, r2⟩ := vals2 r
  cases r1
  cases r2
  obtain ⟨its, rv, p, hz⟩ := I.tuple (.inl (.inl ht))
  have e := vals_refs rv
  subst e
  obtain ⟨x, _, _⟩ := (show ObjOk X.prog X.w H s.heap a (excHO a C) from I.hok a _ ha)
  obtain ⟨o, ho, hc, n, hd⟩ := p
  obtain ⟨cls, dd, dat, sl⟩ := o
  have hc' : cls = .type "tuple" := hc
  have hd' : dat = .seq (Ds.map Value.ref).toArray n := hd
  subst hc' hd'
  exact PySem.W.kia_tup (kitx_exc F) I.kIn x ho hk (fun z => nomatch z) fun tk => ⟨.bl b, H, I.tok _, rfl, q⟩
theorem wp_isiET {K : PySem.W.Frag} {H : Hp} {Q : VK} {a C tp : Addr} {Ds : List Addr} {b : Bool} (ha : H a = some (excHO a C)) (hf : ExcF K C) (ht : H tp = some (.tup (Ds.map V.ref))) (hk : PySem.W.kitAny K (.ref C) (Ds.map Value.ref) = some b) (q : Q (.bl b) H) : rIsiET K [.ref a, .ref tp] H Q := ⟨a, C, tp, Ds, b, rfl, ha, hf, ht, hk, q⟩
end
end L2
set_option Elab.async false
set_option linter.all false
set_option maxRecDepth 100000
set_option maxHeartbeats 0
namespace My
open PySem L2 PyProof.Rows
local macro_rules
  | `(tactic| walk_at "ats") => `(tactic| (first | assumption | exact upd_same | (refine at_same (by assumption) ?_; (repeat (first | assumption | refine Same.trans (by assumption) ?_)); done)))
  | `(tactic| walk_at "prune") => `(tactic| (exfalso; first | contradiction | omega | (rename_i hh; exact absurd hh (by decide)) | (rename_i hh; exact hh rfl)))
  | `(tactic| walk_at "st") => `(tactic| (first | ((with_reducible refine' wp_var ?hv ?_); (case hv => exact rfl)) | with_reducible (first | refine wp_seq ?_ | refine wp_asg ?_ | refine wp_name ?_ | refine wp_op ?_ | refine wp_c ?_ | refine wp_test ?_ | refine wp_tB ?_ | refine wp_ifS ?_ | refine wp_ret ?_ | refine wp_next ?_ | refine wp_drop ?_ | refine wp_un ?_ | refine wp_rU ?_ | refine wp_rI0 ?_ | refine wp_rEqI ?_ | refine wp_rNeI ?_ | refine wp_bl ?_ | refine wp_int ?_ | refine wp_and ?_ | refine wp_or ?_ | refine wp_not ?_ | refine wp_andV ?_ | refine wp_notV ?_ | refine wp_nil ?_ | refine wp_cons ?_ | refine wp_cB ?_ | refine wp_call ?_ | refine wp_part ?_ | refine wp_sl ?_ | refine wp_for ?_ | refine wp_rng1 ?_ | refine wp_list ?_ | refine wp_tup ?_ | refine wp_lst ?_) | ((with_reducible refine wp_rI ?hc ?_); (case hc => first | decide | (show CMul _ _; unfold CMul; omega) | (show CDiv _ _; unfold CDiv; omega) | (show (0:Int) < _; omega) | (show CPow _ _; unfold CPow; decide))) | ((with_reducible (first | refine wp_iteP ?_ ?_ | refine wp_iteN ?_ ?_ | refine wp_iteNB ?_ ?_ | refine wp_iteB ?_ ?_)) <;> intro _ <;> try walk_at "prune") | with_reducible (first | refine iteT ?_ | refine iteF ?_) | ((with_reducible refine wp_rng1' ?a ?b ?_); (case a => first | assumption | omega); (case b => first | assumption | omega)) | fail | ((with_reducible refine' wp_ixT ?ha ?hv ?_); (case ha => walk_at "ats"); (case hv => exact rfl))))
noncomputable def top (i : Nat) : Stmt := PySem.Challenge.pw_boughback_k65_whole_plan_and_its_witness.main.body.getD i (.Pass ⟨0, 0, 0, 0⟩)
noncomputable abbrev sspans : Stmt := top 13
noncomputable abbrev snear_stands : Stmt := top 17
noncomputable abbrev soutward : Stmt := top 18
noncomputable abbrev sshares : Stmt := top 15
noncomputable abbrev scover : Stmt := top 16
noncomputable abbrev sall_spans : Stmt := top 22
noncomputable abbrev sleast_far : Stmt := top 21
noncomputable abbrev splan : Stmt := top 20
noncomputable abbrev s_law_at : Stmt := top 24
noncomputable abbrev s_law_is : Stmt := top 25
noncomputable abbrev s_law_size : Stmt := top 26
noncomputable abbrev s_law_tree : Stmt := top 27
noncomputable abbrev s_law_pot : Stmt := top 28
noncomputable abbrev s_law_digit : Stmt := top 29
noncomputable abbrev s_law_any_tree : Stmt := top 30
noncomputable abbrev s_law_spans : Stmt := top 31
noncomputable abbrev s_law_room : Stmt := top 32
noncomputable abbrev s_law_no_room : Stmt := top 33
noncomputable abbrev s_law_covers : Stmt := top 34
noncomputable abbrev s_law_shares : Stmt := top 35
noncomputable abbrev slaw : Stmt := top 36
structure Txt (mg : Str → Option Value) : Prop where
  b_len : mg "len" = none
  b_range : mg "range" = none
  b_list : mg "list" = none
  b_enumerate : mg "enumerate" = none
  b_sum : mg "sum" = none
  b_min : mg "min" = none
  b_sorted : mg "sorted" = none
  b_reversed : mg "reversed" = none
  b_any : mg "any" = none
  b_zip : mg "zip" = none
  b_isinstance : mg "isinstance" = none
  b_int : mg "int" = none
  b_bool : mg "bool" = none
  b_tuple : mg "tuple" = none
  b_ValueError : mg "ValueError" = none
theorem opt_flat (st : Option Nat) : flatV (optV st) = true ∧ eqV (optV st) (optV st) = true := by
  cases st with
  | none => exact ⟨rfl, rfl⟩
  | some n => exact ⟨rfl, beq_self_eq_true (n : Int)⟩
theorem ints_at {ks : List Int} {i : Nat} {k : Int} (h : ks[i]? = some k) : atI (ks.map V.int) (i : Int) = some (.int k) := atI_nat (by rw [List.getElem?_map, h]; rfl)
structure Ek where
  xBoughError : Addr
  xClash : Addr
  xEmpty : Addr
  xHangs : Addr
  xNoDeed : Addr
  xNoRoom : Addr
  xNoStand : Addr
  xNoText : Addr
  xNoWord : Addr
  xTwice : Addr
  xUnfit : Addr
structure TxE (K : PySem.W.Frag) (mg : Str → Option Value) (e : Ek) : Prop where
  mBoughError : mg "BoughError" = some (.ref e.xBoughError)
  mClash : mg "Clash" = some (.ref e.xClash)
  mEmpty : mg "Empty" = some (.ref e.xEmpty)
  mHangs : mg "Hangs" = some (.ref e.xHangs)
  mNoDeed : mg "NoDeed" = some (.ref e.xNoDeed)
  mNoRoom : mg "NoRoom" = some (.ref e.xNoRoom)
  mNoStand : mg "NoStand" = some (.ref e.xNoStand)
  mNoText : mg "NoText" = some (.ref e.xNoText)
  mNoWord : mg "NoWord" = some (.ref e.xNoWord)
  mTwice : mg "Twice" = some (.ref e.xTwice)
  mUnfit : mg "Unfit" = some (.ref e.xUnfit)
  xcNoRoom : ExcCl K e.xNoRoom
  xfNoRoom : ExcF K e.xNoRoom
  exNoRoom : PySem.W.exmOne K (.ref e.xNoRoom) (.ref e.xBoughError) = some true
  kvNoRoom : PySem.W.kitOne K (.ref e.xNoRoom) (.type "ValueError") = some true
  kkNoRoom : PySem.W.kitOne K (.ref e.xNoRoom) (.ref e.xNoRoom) = some true
  knNoRoom : PySem.W.kitAny K (.ref e.xNoRoom) ([e.xClash, e.xEmpty, e.xHangs, e.xNoDeed, e.xNoStand, e.xNoText, e.xNoWord, e.xTwice, e.xUnfit].map Value.ref) = some false
noncomputable def tbA : Addr := 197
noncomputable def tbC : Addr := 201
noncomputable abbrev tbD : Array Value := #[rawInt 79, rawInt 41, .str "outward.<locals>.<lambda>" 0]
noncomputable def TB (H : Hp) : Prop := H tbA = some (.tbl tbD)
theorem TB.same {H H' : Hp} (h : TB H) (s : Same H H') : TB H' := s _ _ h
noncomputable def spLawT (K : PySem.W.Frag) : Sp := fun vs H Q _ => ∃ (a : Addr) (ns : List Int), vs = [.ref a] ∧ SqL K H a (ns.map V.int) ∧ ns.length ≤ 63 ∧ TB H ∧ ∀ H', Q (.bl true) H'
noncomputable def spIs : Sp := fun vs H Q _ => ∃ m n : Int, vs = [.int m, .int n] ∧ Q (.bl (decide (n ≤ m))) H
noncomputable def spAt (K : PySem.W.Frag) : Sp := fun vs H Q _ => ∃ (a : Addr) (ns : List Int) (i : Int), vs = [.ref a, .int i] ∧ 0 ≤ i ∧ SqL K H a (ns.map V.int) ∧ ∀ m : Int, Q (.int m) H
noncomputable def spSize : Sp := fun vs H Q _ => ∃ m n : Int, vs = [.int m, .int n] ∧ ∀ z : Int, 1 ≤ z → Q (.int z) H
theorem use_size {m n : Int} {H : Hp} {Q : VK} {E : XK} (h : ∀ z : Int, 1 ≤ z → Q (.int z) H) : spSize [.int m, .int n] H Q E := ⟨m, n, rfl, h⟩
structure TreeS (ps : List (Option Nat)) (ls ss : List Int) (n : Nat) : Prop where
  t : TreeP ps ls n
  sl : ss.length = n
  sp : ∀ z ∈ ss, 1 ≤ z
  lp : ∀ (j : Nat) z, 0 < j → ls[j]? = some z → 1 ≤ z
theorem TreeS.snoc {ps : List (Option Nat)} {ls ss : List Int} {n m : Nat} {z y : Int} (T : TreeS ps ls ss n) (hn : 0 < n) (hm : m < n) (hz : 1 ≤ z) (hy : 1 ≤ y) : TreeS (ps ++ [some m]) (ls ++ [z]) (ss ++ [y]) (n + 1) where
  t := T.t.snoc hn hm
  sl := by rw [List.length_append, T.sl]; rfl
  sp := fun x hx => by
    rcases List.mem_append.mp hx with h | h
    · exact T.sp x h
    · rw [List.mem_singleton.mp h]; exact hy
  lp := fun j x hj h => by
    by_cases e : j < ls.length
    · rw [List.getElem?_append_left e] at h
      exact T.lp j x hj h
    · rw [List.getElem?_append_right (by omega)] at h
      have := List.mem_of_getElem? h
      rw [List.mem_singleton.mp this]; exact hz
noncomputable def spTree (K : PySem.W.Frag) : Sp := fun vs H Q _ => ∃ (a : Addr) (xs : List V) (kd : Int), vs = [.ref a, .int kd] ∧ SqL K H a xs ∧ (∀ v ∈ xs, ∃ z, v = V.int z) ∧ xs.length ≤ 120 ∧
  ∀ t lp ll lz ps ls ss H', Same H H' → H' t = some (.tup [.ref lp, .ref ll, .ref lz]) → H' lp = some (.lst (ps.map optV)) → H' ll = some (.lst (ls.map V.int)) → H' lz = some (.lst (ss.map V.int)) → TreeS ps ls ss (xs.length / 3 + 1) → Q (.ref t) H'
noncomputable def spSpans : Sp := fun vs H Q _ => ∃ (a b : Addr) (ps : List (Option Nat)) (ls : List Int) (n : Nat), vs = [.ref a, .ref b] ∧ H a = some (.lst (ps.map optV)) ∧ H b = some (.lst (ls.map V.int)) ∧ TreeP ps ls n ∧ 0 < n ∧ n ≤ 64 ∧
  ∀ F r rows H', Same H H' → H' r = some (.lst rows) → rows.length = n → (∀ i : Nat, i < n → ∃ ai, rows[i]? = some (.ref ai) ∧ H' ai = some (.lst (rowV F n i))) → IsDist F ps ls n → Q (.ref r) H'
noncomputable def spFar : Sp := fun vs H Q _ => ∃ (r : Addr) (c : Int) (rows : List V) (F : Nat → Nat → Int) (n : Nat), vs = [.ref r, .int c] ∧ H r = some (.lst rows) ∧ rows.length = n ∧ 0 < n ∧ n ≤ 64 ∧ (∀ i : Nat, i < n → ∃ ai, rows[i]? = some (.ref ai) ∧ H ai = some (.lst (rowV F n i))) ∧ (∀ i j, i < n → j < n → 0 ≤ F i j) ∧ ∀ z : Int, 0 ≤ z → Q (.int z) H
noncomputable def spShL : Sp := fun vs H Q _ => ∃ (r : Addr) (ys : List Int) (c : Int), vs = [.ref r, .int c] ∧ H r = some (.lst (ys.map V.int)) ∧ (ys.length : Int) = c ∧ (∀ y ∈ ys, 0 ≤ y) ∧ Q (.bl true) H
noncomputable def paid (F : Nat → Nat → Int) (f : Int) (ys : List Int) (n u : Nat) : Int := Mm.sm (fun v => if F u v ≤ f then ys.getD v 0 else 0) n
noncomputable def spShares : Sp := fun vs H Q _ => ∃ (a b c : Addr) (f : Int) (ps : List (Option Nat)) (ls ss : List Int) (n : Nat), vs = [.ref a, .ref b, .ref c, .int f] ∧ H a = some (.lst (ps.map optV)) ∧ H b = some (.lst (ls.map V.int)) ∧ H c = some (.lst (ss.map V.int)) ∧ TreeS ps ls ss n ∧ 0 < n ∧ n ≤ 64 ∧ 0 ≤ f ∧
  ∀ ys r H', Same H H' → H' r = some (.lst (ys.map V.int)) → ys.length = n → (∀ y ∈ ys, 0 ≤ y) →
    (∀ F, IsDist F ps ls n → (∀ u, u < n → paid F f ys n u ≤ ss.getD u 0) ∧ ∀ v, v < n → ∃ u, u < n ∧ F v u ≤ f ∧ paid F f ys n u = ss.getD u 0) → Q (.ref r) H'
section
variable {P : Program} {w : World} {K : PySem.W.Frag} {mg : Str → Option Value} {base : Heap} {c : Cl}
theorem sc_law_at : FnScope ["_law_script", "_law_k"] ["_law_script", "_law_k"] (defScope s_law_at) := ⟨rfl, rfl, rfl, by decide +kernel, rfl, by decide +kernel, by decide +kernel⟩
theorem ok_law_at (F : Fn K mg "_law_at" s_law_at ["_law_script", "_law_k"]) (T : Txt mg)  : FnAll P w K mg base "_law_at" 1 ["_law_script", "_law_k"] (spAt K) := by
  refine F.ok (k := 0) sc_law_at (fun vs H Q E h => ?_) (fun f cdv A outer s H vs Q E hr h => ?_)
  · obtain ⟨a, ns, i, rfl, h0, hS, k⟩ := h
    rfl
  · obtain ⟨a, ns, i, rfl, h0, hS, k⟩ := h
    have hu := hu16 hr
    have nd := sc_law_at.nd
    refine ⟨_, (pss_cons (ps_if (pt_cmpR op_lt (pv 1) (pe_callB call_lenQ (by rfl) T.b_len PySem.boot_len (pa_cons (pv 0) pa_nil)) (nomark _)) (pss_one (ps_ret (pe_ix (r := rIxL K) ix_list (pv 0) (pv 1) (fun _ _ => rfl)))) pss_nil)
      (pss_one (ps_ret pe_int))), ?_⟩
    have est : start ["_law_script", "_law_k"] [.ref a, .int i] = [some (.ref a), some (.int i)] := rfl
    rw [est]
    clear est
    repeat' (first | ((with_reducible refine' wp_lenL ?ha ?_); (case ha => exact hS)) | walk_at "st")
    · rename_i hlt
      rw [List.length_map] at hlt
      refine wp_ixAny hS h0 (by rw [List.length_map]; exact hlt) fun v hv => ?_
      obtain ⟨z, _, rfl⟩ := List.mem_map.mp hv
      exact k _
    · exact k _
theorem sc_law_size : FnScope ["_law_load", "_law_kind"] ["_law_load", "_law_kind"] (defScope s_law_size) := ⟨rfl, rfl, rfl, by decide +kernel, rfl, by decide +kernel, by decide +kernel⟩
theorem ok_law_size (F : Fn K mg "_law_size" s_law_size ["_law_load", "_law_kind"]) (T : Txt mg)  : FnAll P w K mg base "_law_size" 1 ["_law_load", "_law_kind"] (spSize) := by
  refine F.ok (k := 0) sc_law_size (fun vs H Q E h => ?_) (fun f cdv A outer s H vs Q E hr h => ?_)
  · obtain ⟨m, n, rfl, k⟩ := h
    rfl
  · obtain ⟨m, n, rfl, k⟩ := h
    have hu := hu16 hr
    have nd := sc_law_size.nd
    refine ⟨_, (pss_cons (ps_if (pt_cmpR op_eq (pv 1) pe_int (nomark _)) (pss_one (ps_ret pe_int)) pss_nil)
      (pss_cons (ps_if (pt_cmpR op_eq (pv 1) pe_int (nomark _)) (pss_one (ps_ret (pe_op op_add pe_int (pe_op op_mod (pv 0) pe_int)))) pss_nil)
      (pss_one (ps_ret (pe_op op_add pe_int (pe_op op_mod (pv 0) (pe_op op_pow pe_int pe_int))))))), ?_⟩
    have est : start ["_law_load", "_law_kind"] [.int m, .int n] = [some (.int m), some (.int n)] := rfl
    rw [est]
    clear est
    repeat' (first | walk_at "st")
    · exact k _ (by decide)
    · have := Int.emod_nonneg m (show (6 : Int) ≠ 0 by decide)
      exact k _ (by omega)
    · have := Int.emod_nonneg m (show (10 ^ 9 : Int) ≠ 0 by decide)
      refine k _ ?_
      omega
theorem sc_law_tree : FnScope ["_law_cells", "_law_head", "_law_parents", "_law_lengths", "_law_sizes", "_law_k"] ["_law_cells", "_law_head"] (defScope s_law_tree) := ⟨rfl, rfl, rfl, by decide +kernel, rfl, by decide +kernel, by decide +kernel⟩
theorem ok_law_tree (F : Fn K mg "_law_tree" s_law_tree ["_law_cells", "_law_head"]) (T : Txt mg) (F_law_size : FnAll P w K mg base "_law_size" 1 ["_law_load", "_law_kind"] (spSize)) : FnAll P w K mg base "_law_tree" 2 ["_law_cells", "_law_head"] (spTree K) := by
  refine F.ok (k := 1) sc_law_tree (fun vs H Q E h => ?_) (fun f cdv A outer s H vs Q E hr h => ?_)
  · obtain ⟨a, xs, kd, rfl, hS, hin, hlen, k⟩ := h
    rfl
  · obtain ⟨a, xs, kd, rfl, hS, hin, hlen, k⟩ := h
    have hu := hu16 hr
    have nd := sc_law_tree.nd
    refine ⟨_, (pss_cons (ps_set (i := 2) nd rfl (by first | exact Or.inl rfl | exact Or.inr rfl) (pe_lst (pa_cons pe_non pa_nil)))
      (pss_cons (ps_set (i := 3) nd rfl (by first | exact Or.inl rfl | exact Or.inr rfl) (pe_lst (pa_cons pe_int pa_nil)))
      (pss_cons (ps_set (i := 4) nd rfl (by first | exact Or.inl rfl | exact Or.inr rfl) (pe_lst (pa_cons (pe_callF F_law_size hr (pa_cons (pe_op op_mod (pe_op op_mul (pe_op op_fdiv (pv 1) pe_int) pe_int) pe_int) (pa_cons (pe_op op_mod (pe_op op_fdiv (pv 1) pe_int) pe_int) pa_nil))) pa_nil)))
      (pss_cons (ps_for PassesOwn.never rfl (pi_range1 rfl T.b_range (pa_cons (pe_op op_fdiv (pe_callB call_lenQ (by rfl) T.b_len PySem.boot_len (pa_cons (pv 0) pa_nil)) pe_int) pa_nil)) (pg_name (i := 5) nd rfl (by first | exact Or.inl rfl | exact Or.inr rfl)) (pss_cons (ps_if (pt_cmpR op_eq (pe_op op_mod (pe_ix (r := rIxL K) ix_list (pv 0) (pe_op op_mul pe_int (pv 5)) (fun _ _ => rfl)) pe_int) pe_int (nomark _)) (pss_one (ps_expr (pe_bm PySem.F.plainAttrs_list PySem.F.slot_list_append PySem.F.type_list_append mt_append (pv 2) (pa_cons (pv 5) pa_nil)))) (pss_one (ps_expr (pe_bm PySem.F.plainAttrs_list PySem.F.slot_list_append PySem.F.type_list_append mt_append (pv 2) (pa_cons (pe_op op_mod (pe_op op_fdiv (pe_ix (r := rIxL K) ix_list (pv 0) (pe_op op_mul pe_int (pv 5)) (fun _ _ => rfl)) pe_int) (pe_op op_add (pv 5) pe_int)) pa_nil)))))
      (pss_cons (ps_expr (pe_bm PySem.F.plainAttrs_list PySem.F.slot_list_append PySem.F.type_list_append mt_append (pv 3) (pa_cons (pe_callF F_law_size hr (pa_cons (pe_op op_mod (pe_op op_mul (pe_ix (r := rIxL K) ix_list (pv 0) (pe_op op_add (pe_op op_mul pe_int (pv 5)) pe_int) (fun _ _ => rfl)) pe_int) pe_int) (pa_cons (pe_op op_mod (pv 1) pe_int) pa_nil))) pa_nil)))
      (pss_one (ps_expr (pe_bm PySem.F.plainAttrs_list PySem.F.slot_list_append PySem.F.type_list_append mt_append (pv 4) (pa_cons (pe_callF F_law_size hr (pa_cons (pe_op op_mod (pe_op op_mul (pe_ix (r := rIxL K) ix_list (pv 0) (pe_op op_add (pe_op op_mul pe_int (pv 5)) pe_int) (fun _ _ => rfl)) pe_int) pe_int) (pa_cons (pe_op op_mod (pe_op op_fdiv (pv 1) pe_int) pe_int) pa_nil))) pa_nil)))))))
      (pss_one (ps_ret (pe_tup (pa_cons (pv 2) (pa_cons (pv 3) (pa_cons (pv 4) pa_nil)))))))))), ?_⟩
    have est : start ["_law_cells", "_law_head", "_law_parents", "_law_lengths", "_law_sizes", "_law_k"] [.ref a, .int kd] = [some (.ref a), some (.int kd), none, none, none, none] := rfl
    rw [est]
    clear est
    repeat' (first | walk_at "st")
    refine wp_lstF (by show 1 ≤ 1000; decide) fun lp H1 s1 h1 flp => ?_
    repeat' (first | walk_at "st")
    refine wp_lstF (by show 1 ≤ 1000; decide) fun ll H2 s2 h2 fll => ?_
    repeat' (first | ((with_reducible refine use_size ?_); intro _ _) | walk_at "st")
    rename_i y0 hy0
    refine wp_lstF (by show 1 ≤ 1000; decide) fun lz H3 s3 h3 flz => ?_
    have s02 := s1.trans s2
    have s03 := s02.trans s3
    have h3p := s3 _ _ (s2 _ _ h1)
    have h3l := s3 _ _ h2
    have hpl : lp ≠ ll := ne_of_none h1 fll
    have hpz : lp ≠ lz := ne_of_none (s2 _ _ h1) flz
    have hlz' : ll ≠ lz := ne_of_none h2 flz
    have hM : ∀ m ∈ [lp, ll, lz], H m = none := by
      intro m hm
      simp only [List.mem_cons, List.not_mem_nil, or_false] at hm
      rcases hm with rfl | rfl | rfl
      · exact flp
      · exact none_same s1 fll
      · exact none_same s02 flz
    repeat' (first | ((with_reducible refine wp_rng1' ?a ?b ?_); (case a => omega); (case b => omega)) | ((with_reducible refine' wp_lenL ?ha ?_); (case ha => exact s03.seq hS)) | walk_at "st")
    have ecnt : ((xs.length : Int) / 3).toNat = xs.length / 3 := by omega
    rw [ecnt]
    refine loop_range (fun i σ' H' => Fr [lp, ll, lz] H3 H' ∧ ∃ ps ls ss o5, H' lp = some (.lst (ps.map optV)) ∧ H' ll = some (.lst (ls.map V.int)) ∧ H' lz = some (.lst (ss.map V.int)) ∧ TreeS ps ls ss (i + 1) ∧ σ' = [some (.ref a), some (.int kd), some (.ref lp), some (.ref ll), some (.ref lz), o5])
      ⟨Fr.refl, [none], [0], [y0], _, h3p, h3l, h3, ⟨⟨rfl, rfl, rfl, fun j h0 hj => by omega⟩, rfl, (fun z hz => by rw [List.mem_singleton.mp hz]; exact hy0), fun j z hj h => by
        cases j with
        | zero => omega
        | succ j => cases h⟩, rfl⟩ ?_ ?_
    · rintro i _ Hc hi ⟨FF, ps, ls, ss, o5, hlp, hll, hlz, hT, rfl⟩
      have lpv : (ps.map optV).length = i + 1 := by rw [List.length_map, hT.t.lp]
      have llv : (ls.map V.int).length = i + 1 := by rw [List.length_map, hT.t.ll]
      have lzv : (ss.map V.int).length = i + 1 := by rw [List.length_map, hT.sl]
      clear h3p h3l h3 h1 h2
      repeat' (first | walk_at "st")
      refine wp_ixAny (sq_frN hS hM s03 FF) (by omega) (by omega) fun v hv => ?_
      obtain ⟨z, rfl⟩ := hin v hv
      repeat' (first | (with_reducible refine wp_bm ?_) | (with_reducible refine wp_bm0 ?_) | walk_at "st")
      · obtain ⟨mm, emm, hmm⟩ : ∃ mm : Nat, (mm : Int) = (0 : Int) + (i : Int) ∧ mm < i + 1 := ⟨i, by omega, by omega⟩
        refine ⟨tyL hlp, ?_⟩
        repeat' (first | walk_at "st")
        refine ⟨lp, _, _, rfl, rfl, hlp, (by rw [sizeLine_eq]; omega), ?_⟩
        have n3 : ∀ m, m ≠ lp → upd Hc lp (.lst (ps.map optV ++ [.int ((0 : Int) + (i : Int))])) m = Hc m := fun m hm => upd_ne hm
        have f3 : Fr [lp, ll, lz] Hc (upd Hc lp (.lst (ps.map optV ++ [.int ((0 : Int) + (i : Int))]))) := Fr.upd (by simp)
        have h4p : upd Hc lp (HO.lst (ps.map optV ++ [.int ((0 : Int) + (i : Int))])) lp = some (.lst (ps.map optV ++ [.int ((0 : Int) + (i : Int))])) := upd_same
        generalize upd Hc lp (.lst (ps.map optV ++ [.int ((0 : Int) + (i : Int))])) = H4 at *
        have h4l : H4 ll = some (.lst (ls.map V.int)) := by rw [n3 ll hpl.symm]; exact hll
        have h4z : H4 lz = some (.lst (ss.map V.int)) := by rw [n3 lz hpz.symm]; exact hlz
        have FF4 := FF.trans f3
        repeat' (first | (with_reducible refine wp_bm ?_) | (with_reducible refine wp_bm0 ?_) | walk_at "st")
        refine ⟨tyL h4l, ?_⟩
        repeat' (first | walk_at "st")
        refine wp_ixAny (sq_frN hS hM s03 FF4) (by omega) (by omega) fun v hv => ?_
        obtain ⟨z1, rfl⟩ := hin v hv
        repeat' (first | ((with_reducible refine use_size ?_); intro _ _) | walk_at "st")
        rename_i y1 hy1
        refine ⟨ll, _, _, rfl, rfl, h4l, (by rw [sizeLine_eq]; omega), ?_⟩
        have n5 : ∀ m, m ≠ ll → upd H4 ll (.lst (ls.map V.int ++ [.int y1])) m = H4 m := fun m hm => upd_ne hm
        have f5 : Fr [lp, ll, lz] H4 (upd H4 ll (.lst (ls.map V.int ++ [.int y1]))) := Fr.upd (by simp)
        have h5l : upd H4 ll (HO.lst (ls.map V.int ++ [.int y1])) ll = some (.lst (ls.map V.int ++ [.int y1])) := upd_same
        generalize upd H4 ll (.lst (ls.map V.int ++ [.int y1])) = H5 at *
        have h5p := (n5 lp hpl).trans h4p
        have h5z := (n5 lz hlz'.symm).trans h4z
        have FF5 := FF4.trans f5
        repeat' (first | (with_reducible refine wp_bm ?_) | (with_reducible refine wp_bm0 ?_) | walk_at "st")
        refine ⟨tyL h5z, ?_⟩
        repeat' (first | walk_at "st")
        refine wp_ixAny (sq_frN hS hM s03 FF5) (by omega) (by omega) fun v hv => ?_
        obtain ⟨z2, rfl⟩ := hin v hv
        repeat' (first | ((with_reducible refine use_size ?_); intro _ _) | walk_at "st")
        rename_i y2 hy2
        refine ⟨lz, _, _, rfl, rfl, h5z, (by rw [sizeLine_eq]; omega), ?_⟩
        have f6 : Fr [lp, ll, lz] H5 (upd H5 lz (.lst (ss.map V.int ++ [.int y2]))) := Fr.upd (by simp)
        refine ⟨FF5.trans f6, ps ++ [some mm], ls ++ [y1], ss ++ [y2], _, ?_, ?_, ?_, hT.snoc (by omega) hmm hy1 hy2, rfl⟩
        · rw [upd_ne hpz, h5p, List.map_append, ← emm]; rfl
        · rw [upd_ne hlz', h5l, List.map_append]; rfl
        · rw [upd_same, List.map_append]; rfl
      · refine ⟨tyL hlp, ?_⟩
        repeat' (first | walk_at "st")
        refine wp_ixAny (sq_frN hS hM s03 FF) (by omega) (by omega) fun v hv => ?_
        obtain ⟨z', rfl⟩ := hin v hv
        repeat' (first | walk_at "st")
        obtain ⟨mm, emm, hmm⟩ : ∃ mm : Nat, (mm : Int) = z' / 4 % ((0 : Int) + (i : Int) + 1) ∧ mm < i + 1 := by
          have h0 := Int.emod_nonneg (z' / 4) (show ((0 : Int) + (i : Int) + 1) ≠ 0 by omega)
          have h1 := Int.emod_lt_of_pos (z' / 4) (show (0 : Int) < (0 : Int) + (i : Int) + 1 by omega)
          exact ⟨(z' / 4 % ((0 : Int) + (i : Int) + 1)).toNat, by omega, by omega⟩
        refine ⟨lp, _, _, rfl, rfl, hlp, (by rw [sizeLine_eq]; omega), ?_⟩
        have n3 : ∀ m, m ≠ lp → upd Hc lp (.lst (ps.map optV ++ [.int (z' / 4 % ((0 : Int) + (i : Int) + 1))])) m = Hc m := fun m hm => upd_ne hm
        have f3 : Fr [lp, ll, lz] Hc (upd Hc lp (.lst (ps.map optV ++ [.int (z' / 4 % ((0 : Int) + (i : Int) + 1))]))) := Fr.upd (by simp)
        have h4p : upd Hc lp (HO.lst (ps.map optV ++ [.int (z' / 4 % ((0 : Int) + (i : Int) + 1))])) lp = some (.lst (ps.map optV ++ [.int (z' / 4 % ((0 : Int) + (i : Int) + 1))])) := upd_same
        generalize upd Hc lp (.lst (ps.map optV ++ [.int (z' / 4 % ((0 : Int) + (i : Int) + 1))])) = H4 at *
        have h4l : H4 ll = some (.lst (ls.map V.int)) := by rw [n3 ll hpl.symm]; exact hll
        have h4z : H4 lz = some (.lst (ss.map V.int)) := by rw [n3 lz hpz.symm]; exact hlz
        have FF4 := FF.trans f3
        repeat' (first | (with_reducible refine wp_bm ?_) | (with_reducible refine wp_bm0 ?_) | walk_at "st")
        refine ⟨tyL h4l, ?_⟩
        repeat' (first | walk_at "st")
        refine wp_ixAny (sq_frN hS hM s03 FF4) (by omega) (by omega) fun v hv => ?_
        obtain ⟨z1, rfl⟩ := hin v hv
        repeat' (first | ((with_reducible refine use_size ?_); intro _ _) | walk_at "st")
        rename_i y1 hy1
        refine ⟨ll, _, _, rfl, rfl, h4l, (by rw [sizeLine_eq]; omega), ?_⟩
        have n5 : ∀ m, m ≠ ll → upd H4 ll (.lst (ls.map V.int ++ [.int y1])) m = H4 m := fun m hm => upd_ne hm
        have f5 : Fr [lp, ll, lz] H4 (upd H4 ll (.lst (ls.map V.int ++ [.int y1]))) := Fr.upd (by simp)
        have h5l : upd H4 ll (HO.lst (ls.map V.int ++ [.int y1])) ll = some (.lst (ls.map V.int ++ [.int y1])) := upd_same
        generalize upd H4 ll (.lst (ls.map V.int ++ [.int y1])) = H5 at *
        have h5p := (n5 lp hpl).trans h4p
        have h5z := (n5 lz hlz'.symm).trans h4z
        have FF5 := FF4.trans f5
        repeat' (first | (with_reducible refine wp_bm ?_) | (with_reducible refine wp_bm0 ?_) | walk_at "st")
        refine ⟨tyL h5z, ?_⟩
        repeat' (first | walk_at "st")
        refine wp_ixAny (sq_frN hS hM s03 FF5) (by omega) (by omega) fun v hv => ?_
        obtain ⟨z2, rfl⟩ := hin v hv
        repeat' (first | ((with_reducible refine use_size ?_); intro _ _) | walk_at "st")
        rename_i y2 hy2
        refine ⟨lz, _, _, rfl, rfl, h5z, (by rw [sizeLine_eq]; omega), ?_⟩
        have f6 : Fr [lp, ll, lz] H5 (upd H5 lz (.lst (ss.map V.int ++ [.int y2]))) := Fr.upd (by simp)
        refine ⟨FF5.trans f6, ps ++ [some mm], ls ++ [y1], ss ++ [y2], _, ?_, ?_, ?_, hT.snoc (by omega) hmm hy1 hy2, rfl⟩
        · rw [upd_ne hpz, h5p, List.map_append, ← emm]; rfl
        · rw [upd_ne hlz', h5l, List.map_append]; rfl
        · rw [upd_same, List.map_append]; rfl
    · rintro _ H2' ⟨FF, ps, ls, ss, o5, hlp, hll, hlz, hT, rfl⟩
      repeat' (first | walk_at "st")
      refine tupK_new (by show 3 ≤ 1000; decide) fun t H4 s4 h4 => ?_
      exact k t lp ll lz ps ls ss H4 (fun b o hb => s4 _ _ (FF b o (fun z => by rw [hM b z] at hb; cases hb) (s03 _ _ hb))) h4 (s4 _ _ hlp) (s4 _ _ hll) (s4 _ _ hlz) hT
theorem sc_law_spans : FnScope ["_law_parents", "_law_lengths", "_law_found", "_law_stand", "_law_parent", "_law_mine", "_law_other"] ["_law_parents", "_law_lengths"] (defScope s_law_spans) := ⟨rfl, rfl, rfl, by decide +kernel, rfl, by decide +kernel, by decide +kernel⟩
theorem ok_law_spans (F : Fn K mg "_law_spans" s_law_spans ["_law_parents", "_law_lengths"]) (T : Txt mg)  : FnAll P w K mg base "_law_spans" 1 ["_law_parents", "_law_lengths"] (spSpans) := by
  refine F.ok (k := 0) sc_law_spans (fun vs H Q E h => ?_) (fun f cdv A outer s H vs Q E hr h => ?_)
  · obtain ⟨a, b, ps, ls, n, rfl, ha, hb, hT, hn0, hn, k⟩ := h
    rfl
  · obtain ⟨a, b, ps, ls, n, rfl, ha, hb, hT, hn0, hn, k⟩ := h
    have hu := hu16 hr
    have nd := sc_law_spans.nd
    refine ⟨_, (pss_cons (ps_set (i := 2) nd rfl (by first | exact Or.inl rfl | exact Or.inr rfl) (pe_lst pa_nil))
      (pss_cons (ps_for PassesOwn.never rfl (pi_enum rfl T.b_enumerate (pa_cons (pv 0) pa_nil) PyProof.Rows.boot_enumerate) (pg_tup rfl (pgs_cons (pg_name (i := 3) nd rfl (by first | exact Or.inl rfl | exact Or.inr rfl)) (pgs_cons (pg_name (i := 4) nd rfl (by first | exact Or.inl rfl | exact Or.inr rfl)) pgs_nil))) (pss_cons (ps_set (i := 5) nd rfl (by first | exact Or.inl rfl | exact Or.inr rfl) (pe_lst pa_nil))
      (pss_cons (ps_for PassesOwn.never rfl (pi_range1 rfl T.b_range (pa_cons (pv 3) pa_nil)) (pg_name (i := 6) nd rfl (by first | exact Or.inl rfl | exact Or.inr rfl)) (pss_cons (ps_expr (pe_bm PySem.F.plainAttrs_list PySem.F.slot_list_append PySem.F.type_list_append mt_append (pv 5) (pa_cons (pe_op op_add (pe_ix (r := rIxL K) ix_list (pe_ix (r := rIxL K) ix_list (pv 2) (pv 4) (fun _ _ => rfl)) (pv 6) (fun _ _ => rfl)) (pe_ix (r := rIxL K) ix_list (pv 1) (pv 3) (fun _ _ => rfl))) pa_nil)))
      (pss_one (ps_expr (pe_bm PySem.F.plainAttrs_list PySem.F.slot_list_append PySem.F.type_list_append mt_append (pe_ix (r := rIxL K) ix_list (pv 2) (pv 6) (fun _ _ => rfl)) (pa_cons (pe_ix (r := rIxL K) ix_list (pv 5) (pv 6) (fun _ _ => rfl)) pa_nil))))))
      (pss_one (ps_expr (pe_bm PySem.F.plainAttrs_list PySem.F.slot_list_append PySem.F.type_list_append mt_append (pv 2) (pa_cons (pe_op op_cat (pv 5) (pe_lst (pa_cons pe_int pa_nil))) pa_nil)))))))
      (pss_one (ps_ret (pv 2))))), ?_⟩
    have est : start ["_law_parents", "_law_lengths", "_law_found", "_law_stand", "_law_parent", "_law_mine", "_law_other"] [.ref a, .ref b] = [some (.ref a), some (.ref b), none, none, none, none, none] := rfl
    rw [est]
    clear est
    repeat' (first | walk_at "st")
    refine wp_lstF (by show 0 ≤ 1000; decide) fun r H1 s1 h1 fr => ?_
    obtain ⟨F, hF0, hF1⟩ := dist_ex hT n (Nat.le_refl _)
    repeat' (first | (with_reducible refine wp_enum ?_) | walk_at "st")
    refine ⟨a, rfl, ⟨_, sq_of (s1 _ _ ha)⟩, ?_⟩
    refine loop_enum (xs := ps.map optV) (fun i σ' H' => ∃ rows ad o3 o4 o5 o6, SI H H' r rows ad F i i ∧ σ' = [some (.ref a), some (.ref b), some (.ref r), o3, o4, o5, o6])
      ⟨[], fun _ => 0, _, _, _, _, ⟨s1, h1, rfl, (fun a h => by omega), (fun a b h => by omega), (fun a h => by omega)⟩, rfl⟩ (fun i σ' H' _ h => by obtain ⟨_, _, _, _, _, _, I, _⟩ := h; exact sq_of (I.same _ _ ha)) ?_ ?_
    · rintro i x _ H2 q hi ⟨rows, ad, o3, o4, o5, o6, I, rfl⟩ hq
      rw [List.getElem?_map] at hi
      obtain ⟨st, hst, rfl⟩ := Option.map_eq_some_iff.mp hi
      have hin : i < n := by have := (List.getElem?_eq_some_iff.mp hst).1; rw [hT.lp] at this; exact this
      have s3 : Same H2 (upd H2 q (.tup [.int i, optV st])) := Same.upd hq
      have h3 : upd H2 q (HO.tup [.int i, optV st]) q = some (.tup [.int i, optV st]) := upd_same
      generalize upd H2 q (HO.tup [.int i, optV st]) = H3 at *
      have I3 : SI H H3 r rows ad F i i := ⟨I.same.trans s3, s3 _ _ I.hr, I.rl, I.row, I.inj, fun a h => s3 _ _ (I.lst a h)⟩
      refine ⟨q, _, rfl, .inl (.inl h3), rfl, _, _, rfl, ?_⟩
      repeat' (first | walk_at "st")
      refine ⟨_, _, rfl, ?_⟩
      repeat' (first | walk_at "st")
      refine ⟨rfl, ?_⟩
      repeat' (first | walk_at "st")
      refine wp_lstF (by show 0 ≤ 1000; decide) fun am H4 s4 h4 fam => ?_
      have amr : am ≠ r := (ne_of_none I3.hr fam).symm
      have ama : ∀ a', a' < i → am ≠ ad a' := fun a' h => (ne_of_none (I3.lst a' h) fam).symm
      have fam0 : H am = none := none_same I3.same fam
      repeat' (first | walk_at "st")
      refine loop_range (fun j σ' H' => Same H H' ∧ H' r = some (.lst rows) ∧ H' am = some (.lst (rowV F j i)) ∧ (∀ a', a' < i → a' < j → H' (ad a') = some (.lst (rowV F (i + 1) a'))) ∧ (∀ a', a' < i → j ≤ a' → H' (ad a') = some (.lst (rowV F i a'))) ∧ ∃ o6, σ' = [some (.ref a), some (.ref b), some (.ref r), some (.int i), some (optV st), some (.ref am), o6])
        ⟨I3.same.trans s4, s4 _ _ I3.hr, h4, (fun a' _ h => by omega), (fun a' h _ => s4 _ _ (I3.lst a' h)), _, rfl⟩ ?_ ?_
      · rintro j _ H5 hj ⟨sh, hr5, hm5, hlo, hhi, o6, rfl⟩
        have hji : j < i := by omega
        obtain ⟨m, hm, hmi⟩ := hT.pj i (by omega) hin
        rw [hm] at hst
        cases hst
        have hlz : ls[i]? = some (ls[i]'(by rw [hT.ll]; exact hin)) := List.getElem?_eq_getElem _
        have tz := ints_at hlz
        obtain ⟨d1, d2⟩ := hF1 i j m _ hji hin hm hlz
        obtain ⟨em, _, _⟩ := I3.row m hmi
        have tm : atI rows (m : Int) = some (.ref (ad m)) := atI_nat em
        obtain ⟨wm, hwm, hlm⟩ : ∃ w, j < w ∧ H5 (ad m) = some (.lst (rowV F w m)) := by
          by_cases h : m < j
          · exact ⟨i + 1, by omega, hlo m hmi h⟩
          · exact ⟨i, by omega, hhi m hmi (by omega)⟩
        have t0 : atI (rowV F wm m) ((0 : Int) + (j : Int)) = some (.int (F m j)) := by rw [Int.zero_add]; exact rowV_at hwm
        have hb5 := sh _ _ hb
        have hj5 := hhi j hji (Nat.le_refl _)
        obtain ⟨e1, e2, e3⟩ := I3.row j hji
        have t1 : atI rows ((0 : Int) + (j : Int)) = some (.ref (ad j)) := by rw [Int.zero_add]; exact atI_nat e1
        dsimp only [optV]
        repeat' (first | ((with_reducible refine' wp_ixL ?ha ?hv ?_); (case ha => exact sq_of (by walk_at "ats")); (case hv => first | assumption | exact rfl)) | (with_reducible refine wp_bm ?_) | (with_reducible refine wp_bm0 ?_) | walk_at "st")
        refine ⟨tyL hm5, ?_⟩
        repeat' (first | ((with_reducible refine' wp_ixL ?ha ?hv ?_); (case ha => exact sq_of (by walk_at "ats")); (case hv => first | assumption | exact rfl)) | walk_at "st")
        refine ⟨am, _, _, rfl, rfl, hm5, (by rw [sizeLine_eq, rowV_len]; omega), ?_⟩
        have hm6 : upd H5 am (.lst (rowV F j i ++ [.int (F m j + ls[i]'(by rw [hT.ll]; exact hin))])) am = some (.lst (rowV F (j + 1) i)) := by rw [upd_same, rowV_snoc, d1]
        have nn : ∀ c, c ≠ am → upd H5 am (.lst (rowV F j i ++ [.int (F m j + ls[i]'(by rw [hT.ll]; exact hin))])) c = H5 c := fun c hc => upd_ne hc
        have sh6 : Same H (upd H5 am (.lst (rowV F j i ++ [.int (F m j + ls[i]'(by rw [hT.ll]; exact hin))]))) := same_new sh fam0
        generalize upd H5 am (.lst (rowV F j i ++ [.int (F m j + ls[i]'(by rw [hT.ll]; exact hin))])) = H6 at *
        have hr6 := (nn r (Ne.symm amr)).trans hr5
        have hj6 := (nn (ad j) (Ne.symm (ama j hji))).trans hj5
        have t2 : atI (rowV F (j + 1) i) ((0 : Int) + (j : Int)) = some (.int (F i j)) := by rw [Int.zero_add]; exact rowV_at (by omega)
        repeat' (first | ((with_reducible refine' wp_ixL ?ha ?hv ?_); (case ha => exact sq_of (by walk_at "ats")); (case hv => first | assumption | exact rfl)) | (with_reducible refine wp_bm ?_) | (with_reducible refine wp_bm0 ?_) | walk_at "st")
        refine ⟨tyL hj6, ?_⟩
        repeat' (first | ((with_reducible refine' wp_ixL ?ha ?hv ?_); (case ha => exact sq_of (by walk_at "ats")); (case hv => first | assumption | exact rfl)) | walk_at "st")
        refine ⟨ad j, _, _, rfl, rfl, hj6, (by rw [sizeLine_eq, rowV_len]; omega), ?_⟩
        refine ⟨same_new sh6 e3, by rw [upd_ne (Ne.symm e2)]; exact hr6, by rw [upd_ne (ama j hji)]; exact hm6, fun a' h1 h2 => ?_, fun a' h1 h2 => ?_, _, rfl⟩
        · by_cases h : a' = j
          · subst h
            rw [upd_same, rowV_snoc, d2, ← d1]
          · rw [upd_ne (fun z => h (I3.inj a' j h1 hji z)), nn _ (Ne.symm (ama a' h1))]
            exact hlo a' h1 (by omega)
        · rw [upd_ne (fun z => by have := I3.inj a' j h1 hji z; omega), nn _ (Ne.symm (ama a' h1))]
          exact hhi a' h1 (by omega)
      · rintro _ H5 ⟨sh, hr5, hm5, hlo, hhi, o6, rfl⟩
        repeat' (first | (with_reducible refine wp_bm ?_) | (with_reducible refine wp_bm0 ?_) | walk_at "st")
        refine ⟨tyL hr5, ?_⟩
        repeat' (first | walk_at "st")
        refine wp_lstF (by show 1 ≤ 1000; decide) fun z H6 s6 h6 _ => ?_
        repeat' (first | walk_at "st")
        refine wp_catL (s6 _ _ hm5) h6 (by rw [rowV_len]; show (i : Int).toNat + 1 ≤ 100000; omega) fun an H7 s7 h7 fan => ?_
        have s57 := s6.trans s7
        have hr7 := s57 _ _ hr5
        have fan5 : H5 an = none := none_same s6 fan
        have fan0 : H an = none := none_same sh fan5
        have anr : an ≠ r := (ne_of_none hr5 fan5).symm
        have hlo5 : ∀ a', a' < i → H5 (ad a') = some (.lst (rowV F (i + 1) a')) := fun a' h => hlo a' h (by omega)
        have ana : ∀ a', a' < i → an ≠ ad a' := fun a' h => (ne_of_none (hlo5 a' h) fan5).symm
        have hrl := I3.rl
        repeat' (first | walk_at "st")
        refine ⟨r, _, _, rfl, rfl, hr7, (by rw [sizeLine_eq]; omega), ?_⟩
        refine ⟨rows ++ [.ref an], fun a' => if a' = i then an else ad a', _, _, _, _, ⟨same_new (sh.trans s57) fr, upd_same, by rw [List.length_append, hrl]; rfl, fun a' h => ?_, fun x y hx hy hxy => ?_, fun a' h => ?_⟩, rfl⟩
        · by_cases e : a' = i
          · subst e
            rw [List.getElem?_append_right (by omega), hrl, Nat.sub_self]
            simp only [↓reduceIte]
            exact ⟨rfl, anr, fan0⟩
          · rw [List.getElem?_append_left (by omega)]
            simp only [if_neg e]
            exact I3.row a' (by omega)
        · by_cases e1 : x = i
          · by_cases e2 : y = i
            · omega
            · simp only [if_pos e1, if_neg e2] at hxy
              exact absurd hxy (ana y (by omega))
          · by_cases e2 : y = i
            · simp only [if_neg e1, if_pos e2] at hxy
              exact absurd hxy.symm (ana x (by omega))
            · simp only [if_neg e1, if_neg e2] at hxy
              exact I3.inj x y (by omega) (by omega) hxy
        · by_cases e : a' = i
          · subst e
            simp only [↓reduceIte]
            rw [upd_ne anr, h7, rowV_snoc, hF0 a' hin]
            simp
          · simp only [if_neg e]
            obtain ⟨_, e2, _⟩ := I3.row a' (by omega)
            rw [upd_ne e2]
            exact s57 _ _ (hlo5 a' (by omega))
    · rintro _ H2 ⟨rows, ad, o3, o4, o5, o6, I, rfl⟩
      repeat' (first | walk_at "st")
      rw [List.length_map, hT.lp] at I
      exact k F r rows H2 I.same I.hr I.rl (fun i hi => ⟨ad i, (I.row i hi).1, I.lst i hi⟩) ⟨hF0, hF1⟩
theorem sc_law_is : FnScope ["_law_found", "_law_low"] ["_law_found", "_law_low"] (defScope s_law_is) := ⟨rfl, rfl, rfl, by decide +kernel, rfl, by decide +kernel, by decide +kernel⟩
theorem ok_law_is (F : Fn K mg "_law_is" s_law_is ["_law_found", "_law_low"]) (T : Txt mg)  : FnAll P w K mg base "_law_is" 1 ["_law_found", "_law_low"] (spIs) := by
  refine F.ok (k := 0) sc_law_is (fun vs H Q E h => ?_) (fun f cdv A outer s H vs Q E hr h => ?_)
  · obtain ⟨m, n, rfl, k⟩ := h
    rfl
  · obtain ⟨m, n, rfl, k⟩ := h
    have hu := hu16 hr
    have nd := sc_law_is.nd
    refine ⟨_, (pss_one (ps_ret (pe_and (pe_callB call_isinst (by rfl) T.b_isinstance boot_isinstance (pa_cons (pv 0) (pa_cons (pe_bltn (v := .ty "int") rfl T.b_int boot_int rfl) pa_nil))) (pe_and (pe_not (pe_callB call_isinst (by rfl) T.b_isinstance boot_isinstance (pa_cons (pv 0) (pa_cons (pe_bltn (v := .ty "bool") rfl T.b_bool boot_bool rfl) pa_nil)))) (pe_one (pe_cmpR op_ge (pv 0) (pv 1) (nomark _))))))), ?_⟩
    have est : start ["_law_found", "_law_low"] [.int m, .int n] = [some (.int m), some (.int n)] := rfl
    rw [est]
    clear est
    repeat' (first | ((with_reducible refine wp_isiII ?hk ?_); (case hk => rfl)) | ((with_reducible refine wp_isiIB ?hk ?_); (case hk => rfl)) | walk_at "st")
    exact k
end
noncomputable def spPot : Sp := fun vs H Q _ => ∃ c : Int, vs = [.int c] ∧ ∀ (p : Addr) (ns : List Int) H', Same H H' → H p = none → H' p = some (.lst (ns.map V.int)) → ns ≠ [] → ns.length ≤ 2 → Q (.ref p) H'
noncomputable def spDigit : Sp := fun vs H Q _ => ∃ (p : Addr) (ns : List Int) (m : Int), vs = [.ref p, .int m] ∧ 0 < m ∧ m < 2 ^ 62 ∧ H p = some (.lst (ns.map V.int)) ∧ ns ≠ [] ∧ ns.length ≤ 2 ∧
  ∀ (d : Int) (ns' : List Int) H', 0 ≤ d → d < m → ns' ≠ [] → ns'.length ≤ 2 → (∀ b, b ≠ p → H' b = H b) → H' p = some (.lst (ns'.map V.int)) → Q (.int d) H'
theorem wp_gsub {to ti : TE} {t : TSet} {v : V} {σ : L2.St} {H : Hp} {Q : L2.St → Hp → Prop} (h : to σ H fun o H1 => ti σ H1 fun i H2 => t o i v H2 fun H3 => Q σ H3) : gSub to ti t v σ H Q := h
theorem ixN_last {n : Nat} (h : 0 < n) : ixN n (-1) = some (n - 1) := by
  unfold ixN
  rw [if_neg (by decide), if_pos (by omega)]
  congr 1
  omega
theorem atI_last (ys : List Int) (z : Int) : atI ((ys ++ [z]).map V.int) (-1) = some (.int z) := by
  unfold atI
  rw [ixN_last (by simp)]
  simp
theorem set_last (ys : List Int) (z v : Int) : ((ys ++ [z]).map V.int).set (((ys ++ [z]).map V.int).length - 1) (.int v) = (ys ++ [v]).map V.int := by
  simp
section
variable {P : Program} {w : World} {K : PySem.W.Frag} {mg : Str → Option Value} {base : Heap} {c : Cl}
theorem sc_law_pot : FnScope ["_law_cell", "_law_number", "_law_pot_here", "_law_k"] ["_law_cell"] (defScope s_law_pot) := ⟨rfl, rfl, rfl, by decide +kernel, rfl, by decide +kernel, by decide +kernel⟩
theorem ok_law_pot (F : Fn K mg "_law_pot" s_law_pot ["_law_cell"]) (T : Txt mg)  : FnAll P w K mg base "_law_pot" 1 ["_law_cell"] (spPot) := by
  refine F.ok (k := 0) sc_law_pot (fun vs H Q E h => ?_) (fun f cdv A outer s H vs Q E hr h => ?_)
  · obtain ⟨c, rfl, k⟩ := h
    rfl
  · obtain ⟨c, rfl, k⟩ := h
    have hu := hu16 hr
    have nd := sc_law_pot.nd
    refine ⟨_, (pss_cons (ps_set (i := 1) nd rfl (by first | exact Or.inl rfl | exact Or.inr rfl) (pe_op op_add (pe_op op_mod (pe_op op_fdiv (pv 0) pe_int) pe_int) pe_int))
      (pss_cons (ps_set (i := 2) nd rfl (by first | exact Or.inl rfl | exact Or.inr rfl) (pe_lst (pa_cons pe_int pa_nil)))
      (pss_cons (ps_for PassesOwn.never rfl (pi_range1 rfl T.b_range (pa_cons pe_int pa_nil)) (pg_name (i := 3) nd rfl (by first | exact Or.inl rfl | exact Or.inr rfl)) (pss_cons (ps_set (i := 1) nd rfl (by first | exact Or.inl rfl | exact Or.inr rfl) (pe_op op_mod (pe_op op_add (pe_op op_add (pe_op op_mul (pv 1) (pv 1)) (pe_op op_mul pe_int (pv 1))) (pv 3)) pe_int))
      (pss_one (ps_asg (pe_op op_add (pe_op op_mul (pe_ix (r := rIxL K) ix_list (pv 2) pe_int (fun _ _ => rfl)) pe_int) (pv 1)) (pg_sub (pv 2) pe_int set_list)))))
      (pss_cons (ps_if (PW.pt (pw_and (pt_cmpR op_eq (pe_op op_mod (pv 0) pe_int) pe_int (nomark _)) (pw_and1 (pt_cmpR op_ne (pe_op op_fdiv (pv 0) pe_int) pe_int (nomark _))))) (pss_one (ps_expr (pe_bm PySem.F.plainAttrs_list PySem.F.slot_list_append PySem.F.type_list_append mt_append (pv 2) (pa_cons (pe_op op_fdiv (pv 0) pe_int) pa_nil)))) pss_nil)
      (pss_one (ps_ret (pv 2))))))), ?_⟩
    have est : start ["_law_cell", "_law_number", "_law_pot_here", "_law_k"] [.int c] = [some (.int c), none, none, none] := rfl
    rw [est]
    clear est
    repeat' (first | walk_at "st")
    refine wp_lstF (by show 1 ≤ 1000; decide) fun p H1 s1 h1 fp => ?_
    repeat' (first | walk_at "st")
    have hz0 := Int.emod_nonneg (c / 2) (show (2147483629 : Int) ≠ 0 by decide)
    have hz1 := Int.emod_lt_of_pos (c / 2) (show (0 : Int) < 2147483629 by decide)
    refine loop_range (fun i σ' H' => Same H H' ∧ ∃ z x o3, H' p = some (.lst [.int x]) ∧ (0 : Int) ≤ z ∧ z < 2147483647 ∧ σ' = [some (.int c), some (.int z), some (.ref p), o3]) ⟨s1, _, _, _, h1, by omega, by omega, rfl⟩ ?_ ?_
    · rintro i _ H2 hi ⟨s2, z, x, o3, h2, g0, g1, rfl⟩
      have t1 : atI [V.int x] (0 : Int) = some (.int x) := rfl
      repeat' (first | ((with_reducible refine' wp_ixL ?ha ?hv ?_); (case ha => exact sq_of (by walk_at "ats")); (case hv => first | assumption | exact rfl)) | (with_reducible refine wp_gsub ?_) | walk_at "st")
      refine ⟨p, [.int x], 0, 0, rfl, rfl, h2, rfl, ?_⟩
      refine ⟨same_new s2 fp, _, _, _, upd_same, ?_, ?_, rfl⟩
      · exact Int.emod_nonneg _ (by decide)
      · exact Int.emod_lt_of_pos _ (by decide)
    · rintro _ H2 ⟨s2, z, x, o3, h2, g0, g1, rfl⟩
      repeat' (first | (with_reducible refine wp_bm ?_) | (with_reducible refine wp_bm0 ?_) | walk_at "st")
      · refine ⟨tyL h2, ?_⟩
        repeat' (first | walk_at "st")
        refine ⟨p, _, _, rfl, rfl, h2, (by rw [sizeLine_eq]; show 1 < _; omega), ?_⟩
        repeat' (first | walk_at "st")
        exact k p [x, c / 2] _ (same_new s2 fp) fp upd_same (by simp) (by simp)
      all_goals exact k p [x] _ s2 fp h2 (by simp) (by simp)
theorem sc_law_digit : FnScope ["_law_pot_here", "_law_many", "_law_digit_here"] ["_law_pot_here", "_law_many"] (defScope s_law_digit) := ⟨rfl, rfl, rfl, by decide +kernel, rfl, by decide +kernel, by decide +kernel⟩
theorem ok_law_digit (F : Fn K mg "_law_digit" s_law_digit ["_law_pot_here", "_law_many"]) (T : Txt mg)  : FnAll P w K mg base "_law_digit" 1 ["_law_pot_here", "_law_many"] (spDigit) := by
  refine F.ok (k := 0) sc_law_digit (fun vs H Q E h => ?_) (fun f cdv A outer s H vs Q E hr h => ?_)
  · obtain ⟨p, ns, m, rfl, hm0, hm1, hp, hne, hl, k⟩ := h
    rfl
  · obtain ⟨p, ns, m, rfl, hm0, hm1, hp, hne, hl, k⟩ := h
    have hu := hu16 hr
    have nd := sc_law_digit.nd
    refine ⟨_, (pss_cons (ps_set (i := 2) nd rfl (by first | exact Or.inl rfl | exact Or.inr rfl) (pe_op op_mod (pe_ix (r := rIxL K) ix_list (pv 0) (pe_un un_neg pe_int) (fun _ _ => rfl)) (pv 1)))
      (pss_cons (ps_asg (pe_op op_fdivB (pe_ix (r := rIxL K) ix_list (pv 0) (pe_un un_neg pe_int) (fun _ _ => rfl)) (pv 1)) (pg_sub (pv 0) (pe_un un_neg pe_int) set_list))
      (pss_cons (ps_if (PW.pt (pw_and (pt_cmpR op_eq (pe_ix (r := rIxL K) ix_list (pv 0) (pe_un un_neg pe_int) (fun _ _ => rfl)) pe_int (nomark _)) (pw_and1 (pt_cmpR op_gt (pe_callB call_lenQ (by rfl) T.b_len PySem.boot_len (pa_cons (pv 0) pa_nil)) pe_int (nomark _))))) (pss_one (ps_expr (pe_bm0 PySem.F.plainAttrs_list PySem.F.slot_list_pop PySem.F.type_list_pop mt_pop (pv 0)))) pss_nil)
      (pss_one (ps_ret (pv 2)))))), ?_⟩
    have est : start ["_law_pot_here", "_law_many", "_law_digit_here"] [.ref p, .int m] = [some (.ref p), some (.int m), none] := rfl
    rw [est]
    clear est
    obtain ⟨ys, z, rfl⟩ : ∃ ys z, ns = ys ++ [z] := by
      rcases List.eq_nil_or_concat ns with h | ⟨ys, z, h⟩
      · exact absurd h hne
      · exact ⟨ys, z, by rw [h, List.concat_eq_append]⟩
    have t1 := atI_last ys z
    have hll : ((ys ++ [z]).map V.int).length = ys.length + 1 := by simp
    have hl2 : ys.length ≤ 1 := by simp at hl; omega
    have hd0 := Int.emod_nonneg z (show m ≠ 0 by omega)
    have hd1 := Int.emod_lt_of_pos z hm0
    repeat' (first | ((with_reducible refine' wp_ixL ?ha ?hv ?_); (case ha => exact sq_of (by walk_at "ats")); (case hv => first | assumption | exact rfl)) | (with_reducible refine wp_gsub ?_) | ((with_reducible refine wp_fdivB ?a ?b ?_); (case a => omega); (case b => omega)) | walk_at "st")
    refine ⟨p, _, -1, ys.length, rfl, rfl, hp, by rw [hll]; exact ixN_last (by omega), ?_⟩
    have eset : ((ys ++ [z]).map V.int).set ys.length (.int (z / m)) = (ys ++ [z / m]).map V.int := by
      have := set_last ys z (z / m)
      rw [hll] at this
      exact this
    rw [eset]
    have h2 : upd H p (.lst ((ys ++ [z / m]).map V.int)) p = some (.lst ((ys ++ [z / m]).map V.int)) := upd_same
    have n2 : ∀ b, b ≠ p → upd H p (.lst ((ys ++ [z / m]).map V.int)) b = H b := fun b hb => upd_ne hb
    generalize upd H p (.lst ((ys ++ [z / m]).map V.int)) = H2 at *
    have t2 := atI_last ys (z / m)
    have hll2 : ((ys ++ [z / m]).map V.int).length = ys.length + 1 := by simp
    repeat' (first | ((with_reducible refine' wp_ixL ?ha ?hv ?_); (case ha => exact sq_of (by walk_at "ats")); (case hv => first | assumption | exact rfl)) | ((with_reducible refine' wp_lenL ?ha ?_); (case ha => exact sq_of (by walk_at "ats"))) | (with_reducible refine wp_bm ?_) | (with_reducible refine wp_bm0 ?_) | walk_at "st")
    · rename_i hzz hlen'
      refine ⟨tyL h2, p, _, .int (z / m), rfl, rfl, h2, (by rw [hll2]; simp), ?_⟩
      have dl : ((ys ++ [z / m]).map V.int).dropLast = ys.map V.int := by simp
      repeat' (first | walk_at "st")
      exact k _ ys _ hd0 hd1 (by intro e; subst e; simp at hlen') (by omega) (fun b hb => by rw [upd_ne hb, n2 b hb]) (by rw [upd_same, dl])
    all_goals exact k _ (ys ++ [z / m]) _ hd0 hd1 (by simp) (by simp; omega) n2 h2
noncomputable def spAny (K : PySem.W.Frag) : Sp := fun vs H Q _ => ∃ (c : Int) (a : Addr) (xs : List V), vs = [.int c, .ref a] ∧ SqL K H a xs ∧ (∀ v ∈ xs, ∃ z, v = V.int z) ∧ xs.length ≤ 63 ∧
  ∀ (t lp ll lz : Addr) (ps : List (Option Nat)) (ls ss : List Int) H', Same H H' → H' t = some (.tup [.ref lp, .ref ll, .ref lz]) → H' lp = some (.lst (ps.map optV)) → H' ll = some (.lst (ls.map V.int)) → H' lz = some (.lst (ss.map V.int)) → TreeS ps ls ss (xs.length + 1) → Q (.ref t) H'
theorem sc_law_any_tree : FnScope ["_law_root", "_law_cells", "_law_pot_here", "_law_sizes", "_law_parents", "_law_lengths", "_law_k", "_law_cell"] ["_law_root", "_law_cells"] (defScope s_law_any_tree) := ⟨rfl, rfl, rfl, by decide +kernel, rfl, by decide +kernel, by decide +kernel⟩
theorem ok_law_any_tree (F : Fn K mg "_law_any_tree" s_law_any_tree ["_law_root", "_law_cells"]) (T : Txt mg) (F_law_pot : FnAll P w K mg base "_law_pot" 1 ["_law_cell"] (spPot)) (F_law_digit : FnAll P w K mg base "_law_digit" 1 ["_law_pot_here", "_law_many"] (spDigit)) : FnAll P w K mg base "_law_any_tree" 2 ["_law_root", "_law_cells"] (spAny K) := by
  refine F.ok (k := 1) sc_law_any_tree (fun vs H Q E h => ?_) (fun f cdv A outer s H vs Q E hr h => ?_)
  · obtain ⟨c, a, xs, rfl, hS, hin, hlen, k⟩ := h
    rfl
  · obtain ⟨c, a, xs, rfl, hS, hin, hlen, k⟩ := h
    have hu := hu16 hr
    have nd := sc_law_any_tree.nd
    refine ⟨_, (pss_cons (ps_set (i := 2) nd rfl (by first | exact Or.inl rfl | exact Or.inr rfl) (pe_callF F_law_pot hr (pa_cons (pv 0) pa_nil)))
      (pss_cons (ps_set (i := 3) nd rfl (by first | exact Or.inl rfl | exact Or.inr rfl) (pe_lst (pa_cons (pe_op op_add pe_int (pe_callF F_law_digit hr (pa_cons (pv 2) (pa_cons (pe_op op_pow pe_int pe_int) pa_nil)))) pa_nil)))
      (pss_cons (ps_set (i := 4) nd rfl (by first | exact Or.inl rfl | exact Or.inr rfl) (pe_lst (pa_cons pe_non pa_nil)))
      (pss_cons (ps_set (i := 5) nd rfl (by first | exact Or.inl rfl | exact Or.inr rfl) (pe_lst (pa_cons pe_int pa_nil)))
      (pss_cons (ps_for PassesOwn.never rfl (pi_enum rfl T.b_enumerate (pa_cons (pv 1) pa_nil) PyProof.Rows.boot_enumerate) (pg_tup rfl (pgs_cons (pg_name (i := 6) nd rfl (by first | exact Or.inl rfl | exact Or.inr rfl)) (pgs_cons (pg_name (i := 7) nd rfl (by first | exact Or.inl rfl | exact Or.inr rfl)) pgs_nil))) (pss_cons (ps_set (i := 2) nd rfl (by first | exact Or.inl rfl | exact Or.inr rfl) (pe_callF F_law_pot hr (pa_cons (pv 7) pa_nil)))
      (pss_cons (ps_expr (pe_bm PySem.F.plainAttrs_list PySem.F.slot_list_append PySem.F.type_list_append mt_append (pv 4) (pa_cons (pe_callF F_law_digit hr (pa_cons (pv 2) (pa_cons (pe_op op_add (pv 6) pe_int) pa_nil))) pa_nil)))
      (pss_cons (ps_expr (pe_bm PySem.F.plainAttrs_list PySem.F.slot_list_append PySem.F.type_list_append mt_append (pv 5) (pa_cons (pe_op op_add pe_int (pe_callF F_law_digit hr (pa_cons (pv 2) (pa_cons (pe_op op_pow pe_int pe_int) pa_nil)))) pa_nil)))
      (pss_one (ps_expr (pe_bm PySem.F.plainAttrs_list PySem.F.slot_list_append PySem.F.type_list_append mt_append (pv 3) (pa_cons (pe_op op_add pe_int (pe_callF F_law_digit hr (pa_cons (pv 2) (pa_cons (pe_op op_pow pe_int pe_int) pa_nil)))) pa_nil))))))))
      (pss_one (ps_ret (pe_tup (pa_cons (pv 4) (pa_cons (pv 5) (pa_cons (pv 3) pa_nil))))))))))), ?_⟩
    have est : start ["_law_root", "_law_cells", "_law_pot_here", "_law_sizes", "_law_parents", "_law_lengths", "_law_k", "_law_cell"] [.int c, .ref a] = [some (.int c), some (.ref a), none, none, none, none, none, none] := rfl
    rw [est]
    clear est
    repeat' (first | walk_at "st")
    refine ⟨c, rfl, fun p0 n0 H1 s1 fp0 h1 ne1 l1 => ?_⟩
    repeat' (first | walk_at "st")
    refine ⟨p0, n0, _, rfl, by decide, by decide, h1, ne1, l1, fun d1 n1' H2 dn1 dl1 ne2 l2 nn2 h2 => ?_⟩
    repeat' (first | walk_at "st")
    refine wp_lstF (by show 1 ≤ 1000; decide) fun lz H3 s3 h3 f3 => ?_
    repeat' (first | walk_at "st")
    refine wp_lstF (by show 1 ≤ 1000; decide) fun lp H4 s4 h4 f4 => ?_
    repeat' (first | walk_at "st")
    refine wp_lstF (by show 1 ≤ 1000; decide) fun ll H5 s5 h5 f5 => ?_
    have s02 : Same H H2 := fun b o e => (nn2 b (fun z => by subst z; rw [fp0] at e; cases e)).trans (s1 b o e)
    have s05 := ((s02.trans s3).trans s4).trans s5
    have s07 := s05
    have h5z := s5 _ _ (s4 _ _ h3)
    have h5p := s5 _ _ h4
    have a1 : lz ≠ lp := ne_of_none h3 f4
    have a2 : lp ≠ ll := ne_of_none h4 f5
    have a3 : lz ≠ ll := ne_of_none (s4 _ _ h3) f5
    have hM : ∀ m ∈ [lp, ll, lz], H m = none := by
      intro m hm
      simp only [List.mem_cons, List.not_mem_nil, or_false] at hm
      rcases hm with rfl | rfl | rfl
      · exact none_same (s02.trans s3) f4
      · exact none_same ((s02.trans s3).trans s4) f5
      · exact none_same s02 f3
    repeat' (first | (with_reducible refine wp_enum ?_) | walk_at "st")
    refine ⟨a, rfl, ⟨_, s07.seq hS⟩, ?_⟩
    refine loop_enum (xs := xs) (fun i σ' H' => Fr [lp, ll, lz] H5 H' ∧ ∃ ps ls ss o2 o7 o8, H' lp = some (.lst (ps.map optV)) ∧ H' ll = some (.lst (ls.map V.int)) ∧ H' lz = some (.lst (ss.map V.int)) ∧ TreeS ps ls ss (i + 1) ∧ σ' = [some (.int c), some (.ref a), o2, some (.ref lz), some (.ref lp), some (.ref ll), o7, o8])
      ⟨Fr.refl, [none], [0], [1 + d1], _, _, _, h5p, h5, h5z, ⟨⟨rfl, rfl, rfl, fun j h0 hj => by omega⟩, rfl, (fun z hz => by rw [List.mem_singleton.mp hz]; omega), fun j z hj h => by
        cases j with
        | zero => omega
        | succ j => cases h⟩, rfl⟩ (fun i σ' H' _ h => sq_frN hS hM s07 h.1) ?_ ?_
    · rintro i x _ Hb qq hi ⟨FF, ps, ls, ss, o2, o7, o8, hlp, hll, hlz, hT, rfl⟩ hqq
      obtain ⟨zc, rfl⟩ := hin x (List.mem_of_getElem? hi)
      have hi63 : i < 63 := by have := (List.getElem?_eq_some_iff.mp hi).1; omega
      have sb : Same Hb (upd Hb qq (.tup [.int i, .int zc])) := Same.upd hqq
      have hb3 : upd Hb qq (HO.tup [.int i, .int zc]) qq = some (.tup [.int i, .int zc]) := upd_same
      generalize upd Hb qq (HO.tup [.int i, .int zc]) = Hc at *
      have lpv : (ps.map optV).length = i + 1 := by rw [List.length_map, hT.t.lp]
      have llv : (ls.map V.int).length = i + 1 := by rw [List.length_map, hT.t.ll]
      have lzv : (ss.map V.int).length = i + 1 := by rw [List.length_map, hT.sl]
      clear h5 h5z h5p h4 h3 h2 h1
      refine ⟨qq, _, rfl, .inl (.inl hb3), rfl, _, _, rfl, ?_⟩
      repeat' (first | walk_at "st")
      refine ⟨_, _, rfl, ?_⟩
      repeat' (first | walk_at "st")
      refine ⟨rfl, ?_⟩
      repeat' (first | walk_at "st")
      refine ⟨_, rfl, fun p ns10 H10 s10 fp h10_pt ne10 l10 => ?_⟩
      have h10_lp := s10 _ _ (sb _ _ hlp)
      have h10_ll := s10 _ _ (sb _ _ hll)
      have h10_lz := s10 _ _ (sb _ _ hlz)
      have pp : lp ≠ p := ne_of_none (sb _ _ hlp) fp
      have pl : ll ≠ p := ne_of_none (sb _ _ hll) fp
      have pz : lz ≠ p := ne_of_none (sb _ _ hlz) fp
      · repeat' (first | (with_reducible refine wp_bm ?_) | (with_reducible refine wp_bm0 ?_) | walk_at "st")
        refine ⟨tyL h10_lp, ?_⟩
        repeat' (first | walk_at "st")
        refine ⟨p, _, _, rfl, (by omega), (by omega), h10_pt, ne10, l10, fun d11 ns11 H11 dn11 dl11 ne11 l11 n11 h11_pt => ?_⟩
        have F11 : Fr (p :: [lp, ll, lz]) H10 H11 := fun b o hb e => (n11 b (fun e' => hb (by rw [e']; exact .head _))).trans e
        have h11_lp := (n11 lp pp).trans h10_lp
        have h11_ll := (n11 ll pl).trans h10_ll
        have h11_lz := (n11 lz pz).trans h10_lz
        obtain ⟨mm, emm⟩ : ∃ mm : Nat, (mm : Int) = d11 := ⟨d11.toNat, by omega⟩
        have hmm : mm < i + 1 := by omega
        repeat' (first | walk_at "st")
        refine ⟨lp, _, _, rfl, rfl, h11_lp, (by rw [sizeLine_eq]; omega), ?_⟩
        have n12 : ∀ b, b ≠ lp → upd H11 lp (.lst (ps.map optV ++ [.int d11])) b = H11 b := fun b hb => upd_ne hb
        have F12 : Fr (p :: [lp, ll, lz]) H11 (upd H11 lp (.lst (ps.map optV ++ [.int d11]))) := Fr.upd (by simp)
        have h12_lp : upd H11 lp (HO.lst (ps.map optV ++ [.int d11])) lp = some (.lst (ps.map optV ++ [.int d11])) := upd_same
        generalize upd H11 lp (.lst (ps.map optV ++ [.int d11])) = H12 at *
        have h12_ll := (n12 ll (by first | assumption | exact Ne.symm (by assumption))).trans h11_ll
        have h12_lz := (n12 lz (by first | assumption | exact Ne.symm (by assumption))).trans h11_lz
        have h12_pt := (n12 p (Ne.symm (by assumption))).trans h11_pt
        have ne12 := ne11
        have l12 := l11
        repeat' (first | (with_reducible refine wp_bm ?_) | (with_reducible refine wp_bm0 ?_) | walk_at "st")
        refine ⟨tyL h12_ll, ?_⟩
        repeat' (first | walk_at "st")
        refine ⟨p, _, _, rfl, (by decide), (by decide), h12_pt, ne12, l12, fun d13 ns13 H13 dn13 dl13 ne13 l13 n13 h13_pt => ?_⟩
        have F13 : Fr (p :: [lp, ll, lz]) H12 H13 := fun b o hb e => (n13 b (fun e' => hb (by rw [e']; exact .head _))).trans e
        have h13_lp := (n13 lp pp).trans h12_lp
        have h13_ll := (n13 ll pl).trans h12_ll
        have h13_lz := (n13 lz pz).trans h12_lz
        repeat' (first | walk_at "st")
        refine ⟨ll, _, _, rfl, rfl, h13_ll, (by rw [sizeLine_eq]; omega), ?_⟩
        have n14 : ∀ b, b ≠ ll → upd H13 ll (.lst (ls.map V.int ++ [.int (1 + d13)])) b = H13 b := fun b hb => upd_ne hb
        have F14 : Fr (p :: [lp, ll, lz]) H13 (upd H13 ll (.lst (ls.map V.int ++ [.int (1 + d13)]))) := Fr.upd (by simp)
        have h14_ll : upd H13 ll (HO.lst (ls.map V.int ++ [.int (1 + d13)])) ll = some (.lst (ls.map V.int ++ [.int (1 + d13)])) := upd_same
        generalize upd H13 ll (.lst (ls.map V.int ++ [.int (1 + d13)])) = H14 at *
        have h14_lp := (n14 lp (by first | assumption | exact Ne.symm (by assumption))).trans h13_lp
        have h14_lz := (n14 lz (by first | assumption | exact Ne.symm (by assumption))).trans h13_lz
        have h14_pt := (n14 p (Ne.symm (by assumption))).trans h13_pt
        have ne14 := ne13
        have l14 := l13
        repeat' (first | (with_reducible refine wp_bm ?_) | (with_reducible refine wp_bm0 ?_) | walk_at "st")
        refine ⟨tyL h14_lz, ?_⟩
        repeat' (first | walk_at "st")
        refine ⟨p, _, _, rfl, (by decide), (by decide), h14_pt, ne14, l14, fun d15 ns15 H15 dn15 dl15 ne15 l15 n15 h15_pt => ?_⟩
        have F15 : Fr (p :: [lp, ll, lz]) H14 H15 := fun b o hb e => (n15 b (fun e' => hb (by rw [e']; exact .head _))).trans e
        have h15_lp := (n15 lp pp).trans h14_lp
        have h15_ll := (n15 ll pl).trans h14_ll
        have h15_lz := (n15 lz pz).trans h14_lz
        repeat' (first | walk_at "st")
        refine ⟨lz, _, _, rfl, rfl, h15_lz, (by rw [sizeLine_eq]; omega), ?_⟩
        have n16 : ∀ b, b ≠ lz → upd H15 lz (.lst (ss.map V.int ++ [.int (1 + d15)])) b = H15 b := fun b hb => upd_ne hb
        have F16 : Fr (p :: [lp, ll, lz]) H15 (upd H15 lz (.lst (ss.map V.int ++ [.int (1 + d15)]))) := Fr.upd (by simp)
        have h16_lz : upd H15 lz (HO.lst (ss.map V.int ++ [.int (1 + d15)])) lz = some (.lst (ss.map V.int ++ [.int (1 + d15)])) := upd_same
        generalize upd H15 lz (.lst (ss.map V.int ++ [.int (1 + d15)])) = H16 at *
        have h16_lp := (n16 lp (by first | assumption | exact Ne.symm (by assumption))).trans h15_lp
        have h16_ll := (n16 ll (by first | assumption | exact Ne.symm (by assumption))).trans h15_ll
        have h16_pt := (n16 p (Ne.symm (by assumption))).trans h15_pt
        have ne16 := ne15
        have l16 := l15
        refine ⟨?_, ps ++ [some mm], ls ++ [1 + d13], ss ++ [1 + d15], _, _, _, ?_, ?_, ?_, hT.snoc (by omega) hmm (by omega) (by omega), rfl⟩
        · have FA := ((((F11.trans F12).trans F13).trans F14).trans F15).trans F16
          intro b o hb e
          have e1 := sb _ _ (FF b o hb e)
          exact FA b o (fun hm => (List.mem_cons.mp hm).elim (fun z => by rw [z, fp] at e1; cases e1) hb) (s10 _ _ e1)
        · rw [h16_lp, List.map_append, ← emm]; rfl
        · rw [h16_ll, List.map_append]; rfl
        · rw [h16_lz, List.map_append]; rfl
    · rintro _ H8 ⟨FF, ps, ls, ss, o2, o7, o8, hlp, hll, hlz, hT, rfl⟩
      repeat' (first | walk_at "st")
      refine tupK_new (by show 3 ≤ 1000; decide) fun t H9 s9 h9 => ?_
      exact k t lp ll lz ps ls ss H9 (fun b o hb => s9 _ _ (FF b o (fun z => by rw [hM b z] at hb; cases hb) (s07 _ _ hb))) h9 (s9 _ _ hlp) (s9 _ _ hll) (s9 _ _ hlz) hT
end
noncomputable def nV (l : List Nat) : List V := l.map fun (u : Nat) => V.int (u : Int)
theorem nV_len (l : List Nat) : (nV l).length = l.length := List.length_map ..
theorem nV_at {l : List Nat} {j : Nat} {x : V} (h : (nV l)[j]? = some x) : ∃ u, l[j]? = some u ∧ x = .int (u : Int) := by
  unfold nV at h
  rw [List.getElem?_map] at h
  obtain ⟨u, h1, rfl⟩ := Option.map_eq_some_iff.mp h
  exact ⟨u, h1, rfl⟩
theorem ixN_nat {n i : Nat} (h : i < n) : ixN n (i : Int) = some i := by
  unfold ixN
  rw [if_pos (by omega), if_pos (by omega)]
  congr 1
noncomputable def cost (ss : List Int) (cs : List Nat) : Int := (cs.map fun u => ss.getD u 0).sum
noncomputable def Rising (cs : List Nat) : Prop := ∀ (i j : Nat) u v, i < j → cs[i]? = some u → cs[j]? = some v → u < v
noncomputable def spSharesO : Sp := fun vs H Q _ => ∃ (a b c : Addr) (f : Int) (ps : List (Option Nat)) (ls ss : List Int) (n : Nat), vs = [.ref a, .ref b, .ref c, .int f] ∧ H a = some (.lst (ps.map optV)) ∧ H b = some (.lst (ls.map V.int)) ∧ H c = some (.lst (ss.map V.int)) ∧ TreeS ps ls ss n ∧ 0 < n ∧ n < 64 ∧ 0 ≤ f ∧ TB H ∧
  ∀ ys r H', Same H H' → H' r = some (.lst (ys.map V.int)) → ys.length = n → (∀ y ∈ ys, 0 ≤ y) →
    (∀ F, IsDist F ps ls n → (∀ u, u < n → paid F f ys n u ≤ ss.getD u 0) ∧ ∃ C : Nat → Bool, (∀ v, v < n → ∃ u, u < n ∧ C u = true ∧ F u v ≤ f) ∧ Mm.sm (fun u => if C u = true then ss.getD u 0 else 0) n = ys.sum) → Q (.ref r) H'
noncomputable def spCover : Sp := fun vs H Q _ => ∃ (a b c : Addr) (f : Int) (ps : List (Option Nat)) (ls ss : List Int) (n : Nat), vs = [.ref a, .ref b, .ref c, .int f] ∧ H a = some (.lst (ps.map optV)) ∧ H b = some (.lst (ls.map V.int)) ∧ H c = some (.lst (ss.map V.int)) ∧ TreeS ps ls ss n ∧ 0 < n ∧ n < 64 ∧ 0 ≤ f ∧ TB H ∧
  ∀ cs r H', Same H H' → H' r = some (.lst (nV cs)) → Rising cs → (∀ u ∈ cs, u < n) → cs.length ≤ n →
    (∀ F, IsDist F ps ls n → (∀ v, v < n → ∃ u, u ∈ cs ∧ F u v ≤ f) ∧ ∃ y : Nat → Int, (∀ v, v < n → 0 ≤ y v) ∧ (∀ u, u < n → Mm.sm (fun v => if F u v ≤ f then y v else 0) n ≤ ss.getD u 0) ∧ Mm.sm y n = cost ss cs) → Q (.ref r) H'
theorem wp_minL {K : PySem.W.Frag} {H : Hp} {Q : VK} {p : Addr} {ns : List Int} (hne : ns ≠ []) (hq : SqL K H p (ns.map V.int)) (q : ∀ m, m ∈ ns → (∀ x ∈ ns, m ≤ x) → Q (.int m) H) : rMinL K [.ref p] H Q := ⟨p, ns, rfl, hne, hq, q⟩
noncomputable def nearL (D : Nat → Nat → Int) (f : Int) (n u : Nat) : List Nat := (List.range n).filter fun v => decide (D u v ≤ f)
theorem nearL_mem {D : Nat → Nat → Int} {f : Int} {n u v : Nat} : v ∈ nearL D f n u ↔ v < n ∧ D u v ≤ f := by
  unfold nearL
  simp [List.mem_filter, List.mem_range]
theorem nearL_nd (D : Nat → Nat → Int) (f : Int) (n u : Nat) : (nearL D f n u).Nodup := List.Pairwise.filter _ List.nodup_range
theorem nearL_len (D : Nat → Nat → Int) (f : Int) (n u : Nat) : (nearL D f n u).length ≤ n := Nat.le_trans (List.length_filter_le _ _) (Nat.le_of_eq List.length_range)
noncomputable def spNear : Sp := fun vs H Q _ => ∃ (r : Addr) (f : Int) (rows : List V) (D : Nat → Nat → Int) (n : Nat), vs = [.ref r, .int f] ∧ H r = some (.lst rows) ∧ rows.length = n ∧ n ≤ 64 ∧ (∀ i : Nat, i < n → ∃ ai, rows[i]? = some (.ref ai) ∧ H ai = some (.lst (rowV D n i))) ∧
  ∀ (q : Addr) (qs : List V) H', Same H H' → H q = none → H' q = some (.lst qs) → qs.length = n → (∀ i : Nat, i < n → ∃ bi, qs[i]? = some (.ref bi) ∧ H' bi = some (.lst (nV (nearL D f n i)))) → Q (.ref q) H'
noncomputable def spOut : Sp := fun vs H Q _ => ∃ (r : Addr) (rows : List V) (D : Nat → Nat → Int) (n : Nat), vs = [.ref r] ∧ H r = some (.lst rows) ∧ rows.length = n ∧ 0 < n ∧ n < 64 ∧ (∀ i : Nat, i < n → ∃ ai, rows[i]? = some (.ref ai) ∧ H ai = some (.lst (rowV D n i))) ∧ TB H ∧
  ∀ (l : Addr) (os : List Nat) H', Same H H' → H l = none → H' l = some (.lst (nV os)) → os.Perm (List.range n) → os.Pairwise (fun u v => D 0 u ≤ D 0 v) → Q (.ref l) H'
noncomputable def spSharesG : Sp := fun vs H Q _ => ∃ (a b c : Addr) (f : Int) (ps : List (Option Nat)) (ls ss : List Int) (n : Nat), vs = [.ref a, .ref b, .ref c, .int f] ∧ H a = some (.lst (ps.map optV)) ∧ H b = some (.lst (ls.map V.int)) ∧ H c = some (.lst (ss.map V.int)) ∧ TreeS ps ls ss n ∧ 0 < n ∧ n < 64 ∧ 0 ≤ f ∧ TB H ∧
  ∀ ys r H', Same H H' → H' r = some (.lst (ys.map V.int)) → ys.length = n → (∃ F, IsDist F ps ls n ∧ Greedy F f ys ss n) → Q (.ref r) H'
theorem nd_inj {l : List Nat} (nd : l.Nodup) {i j x : Nat} (h1 : l[i]? = some x) (h2 : l[j]? = some x) : i = j := by
  obtain ⟨p1, e1⟩ := List.getElem?_eq_some_iff.mp h1
  obtain ⟨p2, e2⟩ := List.getElem?_eq_some_iff.mp h2
  rcases Nat.lt_trichotomy i j with h | h | h
  · exact absurd (e1.trans e2.symm) (List.pairwise_iff_getElem.mp nd i j p1 p2 h)
  · exact h
  · exact absurd (e2.trans e1.symm) (List.pairwise_iff_getElem.mp nd j i p2 p1 h)
theorem rowV_map (D : Nat → Nat → Int) (n i : Nat) : rowV D n i = ((List.range n).map (D i)).map V.int := by unfold rowV; rw [List.map_map]; rfl
theorem wp_dnewK {σ : L2.St} {H : Hp} {Q : VK} (h : ∀ p, H p = none → Q (.ref p) (upd H p (.dK []))) : tDNewK σ H Q := h
theorem wp_dput {td ty tv : TE} {D : Ends} {σ : L2.St} {H : Hp} (h : tv σ H fun v H1 => td σ H1 fun x H2 => ty σ H2 fun y H3 => ∃ a H4, x = .ref a ∧ DPut H3 a y v H4 ∧ D.nx σ H4) : sDPut td ty tv D σ H := h
theorem wp_sortI {K : PySem.W.Frag} {H : Hp} {Q : VK} {p : Addr} {ns : List Int} (h64 : ns.length < 64) (hq : SqL K H p (ns.map V.int)) (q : ∀ (l : Addr) (ns' : List Int), ns'.Perm ns → ns'.Pairwise (· ≤ ·) → H l = none → Q (.ref l) (upd H l (.lst (ns'.map V.int)))) : rSortI K [.ref p] H Q := ⟨p, ns, rfl, h64, hq, q⟩
theorem greedy_congrF {F D : Nat → Nat → Int} {f : Int} {ys ss : List Int} {n : Nat} (G : Greedy F f ys ss n) (h0 : 0 < n) (h : ∀ a b, a < n → b < n → F a b = D a b) : Greedy D f ys ss n := by
  obtain ⟨rk, left, r1, r2, r3, g⟩ := G
  exact ⟨rk, left, r1, r2, fun v w hv hw e => by rw [← h 0 w h0 hw, ← h 0 v h0 hv]; exact r3 v w hv hw e, g.congrF h⟩
structure CI (D : Nat → Nat → Int) (f : Int) (y : Nat → Int) (s : Nat → Int) (n : Nat) (os : List Nat) (cs : List Nat) (R : Nat → Prop) (i : Nat) : Prop where
  sub : cs.Sublist (os.take i)
  full : ∀ u ∈ cs, Mm.sm (fun v => if D u v ≤ f then y v else 0) n = s u
  rch : ∀ h, R h ↔ ∃ u ∈ cs, h < n ∧ 0 < y h ∧ D u h ≤ f
  one : ∀ u u' h, u ∈ cs → u' ∈ cs → h < n → 0 < y h → D u h ≤ f → D u' h ≤ f → u = u'
  non : ∀ u ∈ os.take i, Mm.sm (fun v => if D u v ≤ f then y v else 0) n = s u → u ∉ cs → ∃ u' h, u' ∈ cs ∧ h < n ∧ D 0 u' ≤ D 0 u ∧ 0 < y h ∧ D u h ≤ f ∧ D u' h ≤ f
section
variable {D : Nat → Nat → Int} {f : Int} {y s : Nat → Int} {n : Nat} {os cs : List Nat} {R R' : Nat → Prop} {i u : Nat}
theorem CI.skip (I : CI D f y s n os cs R i) (hu : os[i]? = some u) (hod : os.Pairwise fun a b => D 0 a ≤ D 0 b) (h : ¬ (Mm.sm (fun v => if D u v ≤ f then y v else 0) n = s u ∧ ∀ h, h < n → 0 < y h → D u h ≤ f → ¬ R h)) : CI D f y s n os cs R (i + 1) where
  sub := by
    have e : os.take (i + 1) = os.take i ++ [u] := by rw [List.take_add_one, hu]; rfl
    rw [e]
    exact I.sub.trans (List.sublist_append_left _ _)
  full := I.full
  rch := I.rch
  one := I.one
  non := fun x hx hf hn => by
    have e : os.take (i + 1) = os.take i ++ [u] := by rw [List.take_add_one, hu]; rfl
    rw [e] at hx
    rcases List.mem_append.mp hx with hx | hx
    · exact I.non x hx hf hn
    · have ex := List.mem_singleton.mp hx
      subst ex
      have : ¬ ∀ h, h < n → 0 < y h → D x h ≤ f → ¬ R h := fun z => h ⟨hf, z⟩
      obtain ⟨g, hg⟩ := Classical.not_forall.mp this
      obtain ⟨g1, hg⟩ := Classical.not_imp.mp hg
      obtain ⟨g2, hg⟩ := Classical.not_imp.mp hg
      obtain ⟨g3, hg⟩ := Classical.not_imp.mp hg
      obtain ⟨u', m, a1, a2, a3⟩ := (I.rch g).mp (Classical.not_not.mp hg)
      refine ⟨u', g, m, g1, ?_, g2, g3, a3⟩
      obtain ⟨j, hj, ej⟩ := List.mem_iff_getElem.mp (I.sub.subset m)
      rw [List.length_take] at hj
      rw [List.getElem_take] at ej
      obtain ⟨hi, ei⟩ := List.getElem?_eq_some_iff.mp hu
      have := List.pairwise_iff_getElem.mp hod j i (by omega) hi (by omega)
      rw [ej, ei] at this
      exact this
theorem CI.take (I : CI D f y s n os cs R i) (hu : os[i]? = some u) (hf : Mm.sm (fun v => if D u v ≤ f then y v else 0) n = s u) (hno : ∀ h, h < n → 0 < y h → D u h ≤ f → ¬ R h) (hR : ∀ h, R' h ↔ R h ∨ (h < n ∧ 0 < y h ∧ D u h ≤ f)) : CI D f y s n os (cs ++ [u]) R' (i + 1) where
  sub := by
    have e : os.take (i + 1) = os.take i ++ [u] := by rw [List.take_add_one, hu]; rfl
    rw [e]
    exact List.Sublist.append I.sub (List.Sublist.refl _)
  full := fun x hx => by
    rcases List.mem_append.mp hx with hx | hx
    · exact I.full x hx
    · rw [List.mem_singleton.mp hx]; exact hf
  rch := fun h => by
    rw [hR, I.rch]
    refine ⟨fun z => ?_, fun ⟨x, hx, a⟩ => ?_⟩
    · rcases z with ⟨x, hx, a⟩ | a
      · exact ⟨x, List.mem_append_left _ hx, a⟩
      · exact ⟨u, List.mem_append_right _ (List.mem_singleton.mpr rfl), a⟩
    · rcases List.mem_append.mp hx with hx | hx
      · exact .inl ⟨x, hx, a⟩
      · rw [List.mem_singleton.mp hx] at a
        exact .inr a
  one := fun x x' h hx hx' hn hy d1 d2 => by
    rcases List.mem_append.mp hx with hx | hx
    · rcases List.mem_append.mp hx' with hx' | hx'
      · exact I.one x x' h hx hx' hn hy d1 d2
      · rw [List.mem_singleton.mp hx'] at d2
        exact absurd ((I.rch h).mpr ⟨x, hx, hn, hy, d1⟩) (hno h hn hy d2)
    · rw [List.mem_singleton.mp hx] at d1 ⊢
      rcases List.mem_append.mp hx' with hx' | hx'
      · exact absurd ((I.rch h).mpr ⟨x', hx', hn, hy, d2⟩) (hno h hn hy d1)
      · exact (List.mem_singleton.mp hx').symm
  non := fun x hx hf' hn => by
    have e : os.take (i + 1) = os.take i ++ [u] := by rw [List.take_add_one, hu]; rfl
    rw [e] at hx
    rcases List.mem_append.mp hx with hx | hx
    · obtain ⟨u', h, m, a⟩ := I.non x hx hf' fun z => hn (List.mem_append_left _ z)
      exact ⟨u', h, List.mem_append_left _ m, a⟩
    · exact absurd (List.mem_append_right _ hx) hn
theorem CI.congr (I : CI D f y s n os cs R i) (h : ∀ x, R' x ↔ R x) : CI D f y s n os cs R' i := ⟨I.sub, I.full, fun x => (h x).trans (I.rch x), I.one, I.non⟩
end
theorem ints_nV (cs : List Nat) : nV cs = (cs.map fun (u : Nat) => (u : Int)).map V.int := by unfold nV; rw [List.map_map]; rfl
theorem sorted_nV {ns : List Int} {cs : List Nat} (hp : ns.Perm (cs.map fun (u : Nat) => (u : Int))) (hs : ns.Pairwise (· ≤ ·)) (nd : cs.Nodup) : ∃ cs' : List Nat, ns = (cs'.map fun (u : Nat) => (u : Int)) ∧ cs'.Perm cs ∧ Rising cs' := by
  have hm : ∀ z ∈ ns, ∃ u : Nat, z = (u : Int) := fun z hz => by
    obtain ⟨u, _, e⟩ := List.mem_map.mp (hp.mem_iff.mp hz)
    exact ⟨u, e.symm⟩
  have hback : (ns.map Int.toNat).map (fun (u : Nat) => (u : Int)) = ns := by
    rw [List.map_map]
    refine (List.map_congr_left fun z hz => ?_).trans (List.map_id ns)
    obtain ⟨u, rfl⟩ := hm z hz
    show ((Int.toNat (u : Int) : Nat) : Int) = (u : Int)
    rw [Int.toNat_natCast]
  have hp2 : (ns.map Int.toNat).Perm cs := by
    have h1 := hp.map Int.toNat
    rw [List.map_map] at h1
    have e : cs.map (Int.toNat ∘ fun (u : Nat) => (u : Int)) = cs := (List.map_congr_left fun u _ => Int.toNat_natCast u).trans (List.map_id cs)
    rw [e] at h1
    exact h1
  refine ⟨ns.map Int.toNat, hback.symm, hp2, fun i j u v hij hu hv => ?_⟩
  obtain ⟨hi, eu⟩ := List.getElem?_eq_some_iff.mp hu
  obtain ⟨hj, ev⟩ := List.getElem?_eq_some_iff.mp hv
  rw [List.length_map] at hi hj
  have h1 := List.pairwise_iff_getElem.mp hs i j hi hj hij
  obtain ⟨a, ea⟩ := hm ns[i] (List.getElem_mem _)
  obtain ⟨b, eb⟩ := hm ns[j] (List.getElem_mem _)
  rw [List.getElem_map, ea, Int.toNat_natCast] at eu
  rw [List.getElem_map, eb, Int.toNat_natCast] at ev
  rw [ea, eb] at h1
  have ndm : (ns.map Int.toNat).Nodup := hp2.nodup_iff.mpr nd
  have hne : a ≠ b := fun e => by
    have g1 : (ns.map Int.toNat)[i]? = some a := by rw [List.getElem?_map, List.getElem?_eq_getElem hi, ea]; rfl
    have g2 : (ns.map Int.toNat)[j]? = some a := by rw [List.getElem?_map, List.getElem?_eq_getElem hj, eb, ← e]; rfl
    have := nd_inj ndm g1 g2
    omega
  omega
section
variable {P : Program} {w : World} {K : PySem.W.Frag} {mg : Str → Option Value} {base : Heap} {c : Cl}
theorem scspans : FnScope ["parents", "lengths", "far", "stand", "ahead", "other"] ["parents", "lengths"] (defScope sspans) := ⟨rfl, rfl, rfl, by decide +kernel, rfl, by decide +kernel, by decide +kernel⟩
theorem okspans (F : Fn K mg "spans" sspans ["parents", "lengths"]) (T : Txt mg)  : FnAll P w K mg base "spans" 1 ["parents", "lengths"] (spSpans) := by
  refine F.ok (k := 0) scspans (fun vs H Q E h => ?_) (fun f cdv A outer s H vs Q E hr h => ?_)
  · obtain ⟨a, b, ps, ls, n, rfl, ha, hb, hT, hn0, hn, k⟩ := h
    rfl
  · obtain ⟨a, b, ps, ls, n, rfl, ha, hb, hT, hn0, hn, k⟩ := h
    have hu := hu16 hr
    have nd := scspans.nd
    refine ⟨_, (pss_cons (ps_set (i := 2) nd rfl (by first | exact Or.inl rfl | exact Or.inr rfl) (pe_lst (pa_cons (pe_lst (pa_cons pe_int pa_nil)) pa_nil)))
      (pss_cons (ps_for PassesOwn.never rfl (pi_range2 rfl T.b_range (pa_cons pe_int (pa_cons (pe_callB call_lenQ (by rfl) T.b_len PySem.boot_len (pa_cons (pv 0) pa_nil)) pa_nil))) (pg_name (i := 3) nd rfl (by first | exact Or.inl rfl | exact Or.inr rfl)) (pss_cons (ps_setComp (i := 4) nd rfl (by first | exact Or.inl rfl | exact Or.inr rfl) rfl (compScopeC (caps := [("lengths", 1), ("stand", 3)]) rfl rfl (by decide +kernel) (by decide +kernel) rfl (sub2 rfl rfl) rfl (fun k y j h => match k, h with | 0, h => by cases h; exact ⟨rfl, by first | exact Or.inl rfl | exact Or.inr (by first | exact Or.inl rfl | exact Or.inr rfl) | exact Or.inr (Or.inr rfl), by first | exact .inl rfl | exact .inr rfl, by first | exact .inl rfl | exact .inr rfl⟩ | 1, h => by cases h; exact ⟨rfl, by first | exact Or.inl rfl | exact Or.inr (by first | exact Or.inl rfl | exact Or.inr rfl) | exact Or.inr (Or.inr rfl), by first | exact .inl rfl | exact .inr rfl, by first | exact .inl rfl | exact .inr rfl⟩ | k + 2, h => by cases h) (by decide +kernel)) rfl (pi_list (pe_ix (r := rIxL K) ix_list (pv 2) (pe_ix (r := rIxL K) ix_list (pv 0) (pv 3) (fun _ _ => rfl)) (fun _ _ => rfl))) (fun _ _ _ _ => pif_nil) (fun _ _ _ _ => (pe_op op_add (pv 0) (pe_ix (r := rIxL K) ix_list (pv 1) (pv 2) (fun _ _ => rfl)))))
      (pss_cons (ps_for PassesOwn.never rfl (pi_range1 rfl T.b_range (pa_cons (pv 3) pa_nil)) (pg_name (i := 5) nd rfl (by first | exact Or.inl rfl | exact Or.inr rfl)) (pss_one (ps_expr (pe_bm PySem.F.plainAttrs_list PySem.F.slot_list_append PySem.F.type_list_append mt_append (pe_ix (r := rIxL K) ix_list (pv 2) (pv 5) (fun _ _ => rfl)) (pa_cons (pe_ix (r := rIxL K) ix_list (pv 4) (pv 5) (fun _ _ => rfl)) pa_nil)))))
      (pss_one (ps_expr (pe_bm PySem.F.plainAttrs_list PySem.F.slot_list_append PySem.F.type_list_append mt_append (pv 2) (pa_cons (pe_op op_cat (pv 4) (pe_lst (pa_cons pe_int pa_nil))) pa_nil)))))))
      (pss_one (ps_ret (pv 2))))), ?_⟩
    have est : start ["parents", "lengths", "far", "stand", "ahead", "other"] [.ref a, .ref b] = [some (.ref a), some (.ref b), none, none, none, none] := rfl
    rw [est]
    clear est
    repeat' (first | walk_at "st")
    refine wp_lstF (by show 1 ≤ 1000; decide) fun r0 H0 s0 h0 fr0 => ?_
    repeat' (first | walk_at "st")
    refine wp_lstF (by show 1 ≤ 1000; decide) fun r H1 s1 h1 fr1 => ?_
    obtain ⟨F, hF0, hF1⟩ := dist_ex hT n (Nat.le_refl _)
    have s01 := s0.trans s1
    have h1a := s01 _ _ ha
    have lpv : (ps.map optV).length = n := by rw [List.length_map, hT.lp]
    have fr : H r = none := none_same s0 fr1
    have r0r : r0 ≠ r := ne_of_none h0 fr1
    repeat' (first | (with_reducible refine wp_rng2 ?_) | ((with_reducible refine' wp_lenL ?ha ?_); (case ha => exact sq_of (by walk_at "ats"))) | walk_at "st")
    refine ⟨1, _, rfl, ⟨by decide, by decide, by omega, by omega⟩, ?_⟩
    have ecnt : ((((ps.map optV).length : Nat) : Int) - 1).toNat = n - 1 := by rw [lpv]; omega
    rw [ecnt]
    refine loop_range (fun i σ' H' => ∃ rows ad o3 o4 o5, SI H H' r rows ad F (i + 1) (i + 1) ∧ σ' = [some (.ref a), some (.ref b), some (.ref r), o3, o4, o5])
      ⟨[.ref r0], fun _ => r0, _, _, _, ⟨s01, h1, rfl, (fun a h => by have : a = 0 := by omega
                                                                      subst this; exact ⟨rfl, r0r, fr0⟩), (fun a b h h' _ => by omega), (fun a h => by
          have : a = 0 := by omega
          subst this
          show H1 r0 = some (.lst [.int (F 0 0)])
          rw [hF0 0 hn0]
          exact s1 _ _ h0)⟩, rfl⟩ ?_ ?_
    · rintro i0 _ H3 hi0 ⟨rows, ad, o3, o4, o5, I3, rfl⟩
      obtain ⟨i, hii⟩ : ∃ i, i = i0 + 1 := ⟨_, rfl⟩
      have hin : i < n := by omega
      have hi1 : 0 < i := by omega
      rw [show ((1 : Int) + (i0 : Int)) = (i : Int) by omega]
      rw [← hii] at I3 ⊢
      clear hii hi0
      obtain ⟨m, hm', hmi⟩ := hT.pj i hi1 hin
      obtain ⟨em, _, _⟩ := I3.row m hmi
      have hlm := I3.lst m hmi
      have tm : atI rows (m : Int) = some (.ref (ad m)) := atI_nat em
      have h3r := I3.hr
      have h3a := I3.same _ _ ha
      have tp : atI (ps.map optV) (i : Int) = some (.int m) := atI_nat (by rw [List.getElem?_map, hm']; rfl)
      have hlz : ls[i]? = some (ls[i]'(by rw [hT.ll]; exact hin)) := List.getElem?_eq_getElem _
      have tz := ints_at hlz
      repeat' (first | walk_at "st")
      refine ⟨[.ref b, .int i], rfl, fun k y j h => ?_, ?_⟩
      · match k, h with
        | 0, h => cases h; exact ⟨_, rfl, rfl⟩
        | 1, h => cases h; exact ⟨_, rfl, rfl⟩
        | k + 2, h => cases h
      repeat' (first | ((with_reducible refine' wp_ixL ?ha ?hv ?_); (case ha => exact sq_of (by walk_at "ats")); (case hv => first | assumption | exact rfl)) | walk_at "st")
      refine ⟨ad m, rfl, ⟨_, sq_of hlm⟩, ?_⟩
      refine comp_list (xs := rowV F i m) (by rw [rowV_len]; omega) (fun D j acc H' => Same H3 H' ∧ H' D = some (.lst acc) ∧ acc.length = j ∧ acc = (List.range j).map fun q => V.int (F i q)) (fun D hD => ⟨Same.upd hD, upd_same, rfl, rfl⟩)
        (fun D j acc H' hD hj h => ⟨h.2.1, Nat.le_of_eq h.2.2.1, sq_of (h.1 _ _ hlm)⟩) ?_ ?_
      · intro D j x acc H' N hD hj hlt hN hP
        obtain ⟨hs, hd, hl2, eacc⟩ := hP
        have hjl := (List.getElem?_eq_some_iff.mp hj).1
        rw [rowV_len] at hjl
        have ex := rowV_item hj
        subst ex
        have hb' := hs _ _ (I3.same _ _ hb)
        show tYes _ _ _
        unfold tYes
        dsimp only
        rw [if_pos rfl]
        repeat' (first | ((with_reducible refine' wp_ixL ?ha ?hv ?_); (case ha => exact sq_of (by walk_at "ats")); (case hv => first | assumption | exact rfl)) | walk_at "st")
        refine ⟨hd, hlt, hN _ _ ⟨?_, upd_same, by rw [List.length_append, hl2]; rfl, ?_⟩⟩
        · intro b' o' e'
          rw [upd_ne (ne_of_none e' hD)]; exact hs b' o' e'
        · rw [List.range_succ, List.map_append, ← eacc]
          obtain ⟨e1, _⟩ := hF1 i j m _ hjl hin hm' hlz
          rw [List.map_singleton, e1]
      intro am acc H4 fam hP4
      obtain ⟨s4, h4', _, eacc⟩ := hP4
      have h4 : H4 am = some (.lst (rowV F i i)) := by rw [h4', eacc, rowV_len]; rfl
      have amr : am ≠ r := (ne_of_none I3.hr fam).symm
      have ama : ∀ a', a' < i → am ≠ ad a' := fun a' h => (ne_of_none (I3.lst a' h) fam).symm
      have fam0 : H am = none := none_same I3.same fam
      have hFs : ∀ j, j < i → F j i = F i j := fun j hj => by
        obtain ⟨e1, e2⟩ := hF1 i j m _ hj hin hm' hlz
        rw [e1, e2]
      repeat' (first | walk_at "st")
      refine loop_range (fun j σ' H' => Same H H' ∧ H' r = some (.lst rows) ∧ H' am = some (.lst (rowV F i i)) ∧ (∀ a', a' < i → a' < j → H' (ad a') = some (.lst (rowV F (i + 1) a'))) ∧ (∀ a', a' < i → j ≤ a' → H' (ad a') = some (.lst (rowV F i a'))) ∧ ∃ o5, σ' = [some (.ref a), some (.ref b), some (.ref r), some (.int i), some (.ref am), o5])
        ⟨I3.same.trans s4, s4 _ _ I3.hr, h4, (fun a' _ h => by omega), (fun a' h _ => s4 _ _ (I3.lst a' h)), _, rfl⟩ ?_ ?_
      · rintro j _ H5 hj ⟨sh, hr5, hm5, hlo, hhi, o5, rfl⟩
        have hji : j < i := by omega
        have hj5 := hhi j hji (Nat.le_refl _)
        obtain ⟨e1, e2, e3⟩ := I3.row j hji
        have t1 : atI rows ((0 : Int) + (j : Int)) = some (.ref (ad j)) := by rw [Int.zero_add]; exact atI_nat e1
        have t2 : atI (rowV F i i) ((0 : Int) + (j : Int)) = some (.int (F i j)) := by rw [Int.zero_add]; exact rowV_at hji
        repeat' (first | ((with_reducible refine' wp_ixL ?ha ?hv ?_); (case ha => exact sq_of (by walk_at "ats")); (case hv => first | assumption | exact rfl)) | (with_reducible refine wp_bm ?_) | (with_reducible refine wp_bm0 ?_) | walk_at "st")
        refine ⟨tyL hj5, ?_⟩
        repeat' (first | ((with_reducible refine' wp_ixL ?ha ?hv ?_); (case ha => exact sq_of (by walk_at "ats")); (case hv => first | assumption | exact rfl)) | walk_at "st")
        refine ⟨ad j, _, _, rfl, rfl, hj5, (by rw [sizeLine_eq, rowV_len]; omega), ?_⟩
        refine ⟨same_new sh e3, by rw [upd_ne (Ne.symm e2)]; exact hr5, by rw [upd_ne (ama j hji)]; exact hm5, fun a' h1 h2 => ?_, fun a' h1 h2 => ?_, _, rfl⟩
        · by_cases h : a' = j
          · subst h
            rw [upd_same, rowV_snoc, hFs a' hji]
          · rw [upd_ne (fun z => h (I3.inj a' j h1 hji z))]
            exact hlo a' h1 (by omega)
        · rw [upd_ne (fun z => by have := I3.inj a' j h1 hji z; omega)]
          exact hhi a' h1 (by omega)
      · rintro _ H5 ⟨sh, hr5, hm5, hlo, hhi, o5, rfl⟩
        repeat' (first | (with_reducible refine wp_bm ?_) | (with_reducible refine wp_bm0 ?_) | walk_at "st")
        refine ⟨tyL hr5, ?_⟩
        repeat' (first | walk_at "st")
        refine wp_lstF (by show 1 ≤ 1000; decide) fun z H6 s6 h6 _ => ?_
        repeat' (first | walk_at "st")
        refine wp_catL (s6 _ _ hm5) h6 (by rw [rowV_len]; show i + 1 ≤ 100000; omega) fun an H7 s7 h7 fan => ?_
        have s57 := s6.trans s7
        have hr7 := s57 _ _ hr5
        have fan5 : H5 an = none := none_same s6 fan
        have fan0 : H an = none := none_same sh fan5
        have anr : an ≠ r := (ne_of_none hr5 fan5).symm
        have hlo5 : ∀ a', a' < i → H5 (ad a') = some (.lst (rowV F (i + 1) a')) := fun a' h => hlo a' h (by omega)
        have ana : ∀ a', a' < i → an ≠ ad a' := fun a' h => (ne_of_none (hlo5 a' h) fan5).symm
        have hrl := I3.rl
        repeat' (first | walk_at "st")
        refine ⟨r, _, _, rfl, rfl, hr7, (by rw [sizeLine_eq]; omega), ?_⟩
        refine ⟨rows ++ [.ref an], fun a' => if a' = i then an else ad a', _, _, _, ⟨same_new (sh.trans s57) fr, upd_same, by rw [List.length_append, hrl]; rfl, fun a' h => ?_, fun x y hx hy hxy => ?_, fun a' h => ?_⟩, rfl⟩
        · by_cases e : a' = i
          · subst e
            rw [List.getElem?_append_right (by omega), hrl, Nat.sub_self]
            simp only [↓reduceIte]
            exact ⟨rfl, anr, fan0⟩
          · rw [List.getElem?_append_left (by omega)]
            simp only [if_neg e]
            exact I3.row a' (by omega)
        · by_cases e1 : x = i
          · by_cases e2 : y = i
            · omega
            · simp only [if_pos e1, if_neg e2] at hxy
              exact absurd hxy (ana y (by omega))
          · by_cases e2 : y = i
            · simp only [if_neg e1, if_pos e2] at hxy
              exact absurd hxy.symm (ana x (by omega))
            · simp only [if_neg e1, if_neg e2] at hxy
              exact I3.inj x y (by omega) (by omega) hxy
        · by_cases e : a' = i
          · subst e
            simp only [↓reduceIte]
            rw [upd_ne anr, h7, rowV_snoc, hF0 a' hin]
          · simp only [if_neg e]
            obtain ⟨_, e2, _⟩ := I3.row a' (by omega)
            rw [upd_ne e2]
            exact s57 _ _ (hlo5 a' (by omega))
    · rintro _ H2 ⟨rows, ad, o3, o4, o5, I, rfl⟩
      repeat' (first | walk_at "st")
      rw [show n - 1 + 1 = n by omega] at I
      exact k F r rows H2 I.same I.hr I.rl (fun i hi => ⟨ad i, (I.row i hi).1, I.lst i hi⟩) ⟨hF0, hF1⟩
theorem scnear_stands : FnScope ["table", "far", "near", "row"] ["table", "far"] (defScope snear_stands) := ⟨rfl, rfl, rfl, by decide +kernel, rfl, by decide +kernel, by decide +kernel⟩
theorem oknear_stands (F : Fn K mg "near_stands" snear_stands ["table", "far"]) (T : Txt mg)  : FnAll P w K mg base "near_stands" 1 ["table", "far"] (spNear) := by
  refine F.ok (k := 0) scnear_stands (fun vs H Q E h => ?_) (fun f cdv A outer s H vs Q E hr h => ?_)
  · obtain ⟨r, ff, rows, D, n, rfl, hr0, hrl, hn, hrow, k⟩ := h
    rfl
  · obtain ⟨r, ff, rows, D, n, rfl, hr0, hrl, hn, hrow, k⟩ := h
    have hu := hu16 hr
    have nd := scnear_stands.nd
    refine ⟨_, (pss_cons (ps_set (i := 2) nd rfl (by first | exact Or.inl rfl | exact Or.inr rfl) (pe_lst pa_nil))
      (pss_cons (ps_for PassesOwn.never rfl (pi_list (pv 0)) (pg_name (i := 3) nd rfl (by first | exact Or.inl rfl | exact Or.inr rfl)) (pss_one (ps_expr (pe_bm PySem.F.plainAttrs_list PySem.F.slot_list_append PySem.F.type_list_append mt_append (pv 2) (pa_cons (pe_comp2 (compScopeC2 (caps := [("far", 1)]) rfl rfl (by decide +kernel) (by decide +kernel) rfl rfl (sub1 rfl) rfl (fun k y j h => match k, h with | 0, h => by cases h; exact ⟨rfl, by first | exact Or.inl rfl | exact Or.inr (by first | exact Or.inl rfl | exact Or.inr rfl) | exact Or.inr (Or.inr rfl), by first | exact .inl rfl | exact .inr rfl, by first | exact .inl rfl | exact .inr rfl⟩ | k + 1, h => by cases h) (by decide +kernel)) rfl (pi_enum rfl T.b_enumerate (pa_cons (pv 3) pa_nil) PyProof.Rows.boot_enumerate) (fun _ _ _ _ => (pif_one (pt_cmpR op_le (pv 1) (pv 2) (nomark _)))) (fun _ _ _ _ => (pv 0))) pa_nil)))))
      (pss_one (ps_ret (pv 2))))), ?_⟩
    have est : start ["table", "far", "near", "row"] [.ref r, .int ff] = [some (.ref r), some (.int ff), none, none] := rfl
    rw [est]
    clear est
    repeat' (first | walk_at "st")
    refine wp_lstF (by show 0 ≤ 1000; decide) fun q H1 s1 h1 fq => ?_
    have nq : ∀ c o, H c = some o → c ≠ q := fun c o h => ne_of_none h fq
    have kf : ∀ {H'}, Fr [q] H1 H' → ∀ c o, H c = some o → H' c = some o := fun FF c o h => FF c o (by rw [List.mem_singleton]; exact nq c o h) (s1 _ _ h)
    repeat' (first | walk_at "st")
    refine ⟨r, rfl, ⟨_, sq_of (s1 _ _ hr0)⟩, ?_⟩
    refine loop_list (xs := rows) (fun i σ' H' => Fr [q] H1 H' ∧ ∃ (qs : List V) (o3 : Option V), H' q = some (.lst qs) ∧ qs.length = i ∧ (∀ j : Nat, j < i → ∃ bj, qs[j]? = some (.ref bj) ∧ bj ≠ q ∧ H' bj = some (.lst (nV (nearL D ff n j)))) ∧ σ' = [some (.ref r), some (.int ff), some (.ref q), o3])
      ⟨Fr.refl, [], _, h1, rfl, (fun j h => absurd h (Nat.not_lt_zero _)), rfl⟩ (fun i σ' H' _ h => sq_of (kf h.1 _ _ hr0)) ?_ ?_
    · rintro i x _ H2 hi ⟨FF, qs, o3, hq, hql, hqs, rfl⟩
      have hin : i < n := by have := (List.getElem?_eq_some_iff.mp hi).1; omega
      obtain ⟨ai, ei, hai⟩ := hrow i hin
      rw [ei] at hi
      cases hi
      have hai2 := kf FF _ _ hai
      repeat' (first | (with_reducible refine wp_bm ?_) | (with_reducible refine wp_bm0 ?_) | walk_at "st")
      refine ⟨tyL hq, ?_⟩
      repeat' (first | walk_at "st")
      refine ⟨[.int ff], rfl, fun k y j h => ?_, ?_⟩
      · match k, h with
        | 0, h => cases h; exact ⟨_, rfl, rfl⟩
        | k + 1, h => cases h
      repeat' (first | (with_reducible refine wp_enum ?_) | walk_at "st")
      refine ⟨ai, rfl, ⟨_, sq_of hai2⟩, ?_⟩
      refine comp_enum (xs := rowV D n i) (by rw [rowV_len]; omega) (fun Dd j acc H' => Same H2 H' ∧ H' Dd = some (.lst acc) ∧ acc.length ≤ j ∧ acc = nV ((List.range j).filter fun v => decide (D i v ≤ ff))) (fun Dd hD => ⟨Same.upd hD, upd_same, Nat.le_refl _, rfl⟩)
        (fun Dd j acc H' hD hj h => ⟨h.2.1, h.2.2.1, sq_of (h.1 _ _ hai2)⟩) ?_ ?_
      · intro Dd j x acc H' p0 NN hD hx hlt hp0 hN hP
        obtain ⟨hs, hd, hal, eacc⟩ := hP
        have ex := rowV_item hx
        subst ex
        have s3 : Same H' (upd H' p0 (.tup [.int j, .int (D i j)])) := Same.upd hp0
        generalize upd H' p0 (HO.tup [.int j, .int (D i j)]) = H3 at *
        repeat' (first | walk_at "st")
        · rename_i hle
          refine ⟨s3 _ _ hd, hlt, hN _ _ ⟨fun b' o' e' => ?_, upd_same, (by rw [List.length_append]; show acc.length + 1 ≤ _; omega), ?_⟩⟩
          · rw [upd_ne (ne_of_none e' hD)]; exact s3 _ _ (hs b' o' e')
          · rw [List.range_succ, List.filter_append, List.filter_cons, if_pos (decide_eq_true hle), List.filter_nil, eacc]
            unfold nV
            rw [List.map_append]; rfl
        · rename_i hle
          refine hN _ _ ⟨hs.trans s3, s3 _ _ hd, by omega, ?_⟩
          rw [List.range_succ, List.filter_append, List.filter_cons, if_neg (fun z => hle (of_decide_eq_true z)), List.filter_nil, List.append_nil, eacc]
      intro an acc H3 fan hP3
      obtain ⟨s3, h3, _, eacc⟩ := hP3
      rw [rowV_len] at eacc
      have hq3 := s3 _ _ hq
      have anq : an ≠ q := (ne_of_none hq fan).symm
      refine ⟨q, _, _, rfl, rfl, hq3, (by rw [sizeLine_eq]; omega), ?_⟩
      refine ⟨FF.trans (s3.fr.trans (Fr.upd (by simp))), _, _, upd_same, by rw [List.length_append, hql]; rfl, fun j hj => ?_, rfl⟩
      by_cases e : j < i
      · obtain ⟨bj, e1, e2, e3⟩ := hqs j e
        exact ⟨bj, by rw [List.getElem?_append_left (by omega)]; exact e1, e2, by rw [upd_ne e2]; exact s3 _ _ e3⟩
      · have e' : j = i := by omega
        subst e'
        refine ⟨an, by rw [List.getElem?_append_right (by omega), hql, Nat.sub_self]; rfl, anq, ?_⟩
        rw [upd_ne anq, h3, eacc]
        rfl
    · rintro _ H2 ⟨FF, qs, o3, hq, hql, hqs, rfl⟩
      repeat' (first | walk_at "st")
      rw [hrl] at hql hqs
      exact k q qs H2 (kf FF) fq hq hql fun i hi => let ⟨bi, e1, _, e3⟩ := hqs i hi; ⟨bi, e1, e3⟩
theorem scoutward : FnScope ["table"] ["table"] (defScope soutward) := ⟨rfl, rfl, rfl, by decide +kernel, rfl, by decide +kernel, by decide +kernel⟩
theorem okoutward (F : FnC K mg "outward" soutward ["table"] tbC) (C : PySem.W.CodeHd base tbC tbA) (bm : BMain mg base) (T : Txt mg)  : FnAll P w K mg base "outward" 1 ["table"] (spOut) := by
  refine F.ok (k := 0) scoutward (fun vs H Q E h => ?_) (fun f A outer s H vs Q E hr h => ?_)
  · obtain ⟨r, rows, D, n, rfl, hr0, hrl, hn0, hn, hrow, hTB, k⟩ := h
    rfl
  · obtain ⟨r, rows, D, n, rfl, hr0, hrl, hn0, hn, hrow, hTB, k⟩ := h
    have hu := hu16 hr
    have nd := scoutward.nd
    refine ⟨_, (pss_one (ps_ret (pe_sortBy (c := tbC) (P := tbA) (iy := 0) (tq := 0) rfl hr rfl T.b_sorted rfl T.b_range (pe_callB call_lenQ (by rfl) T.b_len PySem.boot_len (pa_cons (pv 0) pa_nil)) rfl C bm rfl rfl rfl rfl rfl rfl (Or.inr (by first | exact Or.inl rfl | exact Or.inr rfl)) (fun _ _ _ _ => rfl) rfl rfl rfl (by decide +kernel) rfl rfl (by decide) (by decide) (by decide)))), ?_⟩
    have est : start ["table"] [.ref r] = [some (.ref r)] := rfl
    rw [est]
    clear est
    obtain ⟨a0, e0, ha0⟩ := hrow 0 hn0
    repeat' (first | ((with_reducible refine' wp_lenL ?ha ?_); (case ha => exact sq_of (by walk_at "ats"))) | (with_reducible refine wp_sortBy ?_) | walk_at "st")
    rw [hrl]
    refine ⟨n, r, a0, rows, (List.range n).map (D 0), rfl, hn, rfl, sq_of hr0, e0, by rw [← rowV_map]; exact sq_of ha0, by rw [List.length_map, List.length_range]; exact Nat.le_refl _, hTB, fun l os H' sm fl hl hp hs => ?_⟩
    refine k l os H' sm fl hl hp ?_
    refine List.Pairwise.imp_of_mem (fun {u v} hu hv h => ?_) hs
    have hu' : u < n := List.mem_range.mp (hp.mem_iff.mp hu)
    have hv' : v < n := List.mem_range.mp (hp.mem_iff.mp hv)
    rw [List.getD_eq_getElem?_getD, List.getD_eq_getElem?_getD, List.getElem?_map, List.getElem?_map, List.getElem?_range hu', List.getElem?_range hv'] at h
    exact h
theorem scshares : FnScope ["parents", "lengths", "sizes", "far", "table", "near", "left", "given", "stand", "share", "other"] ["parents", "lengths", "sizes", "far"] (defScope sshares) := ⟨rfl, rfl, rfl, by decide +kernel, rfl, by decide +kernel, by decide +kernel⟩
theorem okshares (F : Fn K mg "shares" sshares ["parents", "lengths", "sizes", "far"]) (T : Txt mg) (Fspans : FnAll P w K mg base "spans" 1 ["parents", "lengths"] (spSpans)) (Fnear_stands : FnAll P w K mg base "near_stands" 1 ["table", "far"] (spNear)) (Foutward : FnAll P w K mg base "outward" 1 ["table"] (spOut)) : FnAll P w K mg base "shares" 2 ["parents", "lengths", "sizes", "far"] (spSharesG) := by
  refine F.ok (k := 1) scshares (fun vs H Q E h => ?_) (fun f cdv A outer s H vs Q E hr h => ?_)
  · obtain ⟨a, b, c, ff, ps, ls, ss, n, rfl, ha, hb, hc, hT, hn0, hn, hf, hTB, k⟩ := h
    rfl
  · obtain ⟨a, b, c, ff, ps, ls, ss, n, rfl, ha, hb, hc, hT, hn0, hn, hf, hTB, k⟩ := h
    have hu := hu16 hr
    have nd := scshares.nd
    refine ⟨_, (pss_cons (ps_set (i := 4) nd rfl (by first | exact Or.inl rfl | exact Or.inr rfl) (pe_callF Fspans hr (pa_cons (pv 0) (pa_cons (pv 1) pa_nil))))
      (pss_cons (ps_set (i := 5) nd rfl (by first | exact Or.inl rfl | exact Or.inr rfl) (pe_callF Fnear_stands hr (pa_cons (pv 4) (pa_cons (pv 3) pa_nil))))
      (pss_cons (ps_set (i := 6) nd rfl (by first | exact Or.inl rfl | exact Or.inr rfl) (pe_callTy call_listOf (by rfl) T.b_list PyProof.Rows.boot_list (pa_cons (pv 2) pa_nil)))
      (pss_cons (ps_setComp (i := 7) nd rfl (by first | exact Or.inl rfl | exact Or.inr rfl) rfl (compScope0 rfl (by decide) (by decide +kernel) rfl) rfl (pi_list (pv 5)) (fun _ _ _ _ => pif_nil) (fun _ _ _ _ => pe_int))
      (pss_cons (ps_for PassesOwn.never rfl (pi_rev rfl T.b_reversed (pa_cons (pe_callF Foutward hr (pa_cons (pv 4) pa_nil)) pa_nil)) (pg_name (i := 8) nd rfl (by first | exact Or.inl rfl | exact Or.inr rfl)) (pss_cons (ps_set (i := 9) nd rfl (by first | exact Or.inl rfl | exact Or.inr rfl) (pe_callB (call_minL rfl) (by rfl) T.b_min PyProof.Rows.boot_min (pa_cons (pe_comp (compScopeC (caps := [("left", 6)]) rfl rfl (by decide +kernel) (by decide +kernel) rfl (sub1 rfl) rfl (fun k y j h => match k, h with | 0, h => by cases h; exact ⟨rfl, by first | exact Or.inl rfl | exact Or.inr (by first | exact Or.inl rfl | exact Or.inr rfl) | exact Or.inr (Or.inr rfl), by first | exact .inl rfl | exact .inr rfl, by first | exact .inl rfl | exact .inr rfl⟩ | k + 1, h => by cases h) (by decide +kernel)) rfl (pi_list (pe_ix (r := rIxL K) ix_list (pv 5) (pv 8) (fun _ _ => rfl))) (fun _ _ _ _ => pif_nil) (fun _ _ _ _ => (pe_ix (r := rIxL K) ix_list (pv 1) (pv 0) (fun _ _ => rfl)))) pa_nil)))
      (pss_cons (ps_asg (pv 9) (pg_sub (pv 7) (pv 8) set_list))
      (pss_one (ps_for PassesOwn.never rfl (pi_list (pe_ix (r := rIxL K) ix_list (pv 5) (pv 8) (fun _ _ => rfl))) (pg_name (i := 10) nd rfl (by first | exact Or.inl rfl | exact Or.inr rfl)) (pss_one (ps_augS (pv 6) (pv 10) get_listL (pv 9) ip_sub set_list)))))))
      (pss_one (ps_ret (pv 7)))))))), ?_⟩
    have est : start ["parents", "lengths", "sizes", "far", "table", "near", "left", "given", "stand", "share", "other"] [.ref a, .ref b, .ref c, .int ff] = [some (.ref a), some (.ref b), some (.ref c), some (.int ff), none, none, none, none, none, none, none] := rfl
    rw [est]
    clear est
    repeat' (first | walk_at "st")
    refine ⟨a, b, ps, ls, n, rfl, ha, hb, hT.t, hn0, by omega, fun D r rows H1 s1 h1 hrl hrow hD => ?_⟩
    have hTr := hD.tr hT.t (fun j z h0 h => by have := hT.lp j z h0 h; omega)
    have hD0 : ∀ i, i < n → D i i = 0 := hD.zero
    have hsy : ∀ x y, x < n → y < n → D x y = D y x := fun x y hx hy => hTr.sym hx hy
    have hsl : ss.length = n := hT.sl
    repeat' (first | walk_at "st")
    refine ⟨r, ff, rows, D, n, rfl, h1, hrl, by omega, hrow, fun q qs H2 s2 fq h2 hql hqs => ?_⟩
    have s02 := s1.trans s2
    repeat' (first | walk_at "st")
    refine wp_listOf (sq_of (s02 _ _ hc)) fun lf H3 s3 h3 flf => ?_
    have h3q := s3 _ _ h2
    repeat' (first | walk_at "st")
    refine ⟨[], rfl, fun k y j h => (by cases h), ?_⟩
    repeat' (first | walk_at "st")
    refine ⟨q, rfl, ⟨_, sq_of h3q⟩, ?_⟩
    refine comp_list (xs := qs) (by omega) (fun Dd j acc H' => Same H3 H' ∧ H' Dd = some (.lst acc) ∧ acc.length ≤ j ∧ acc = (List.replicate j (0 : Int)).map V.int) (fun Dd hD => ⟨Same.upd hD, upd_same, Nat.le_refl _, rfl⟩)
      (fun Dd j acc H' hD hj h => ⟨h.2.1, h.2.2.1, sq_of (h.1 _ _ h3q)⟩) ?_ ?_
    · intro Dd j x acc H' NN hD hx hlt hN hP
      obtain ⟨hs, hd, hal, eacc⟩ := hP
      show tYes _ _ _
      unfold tYes
      dsimp only
      rw [if_pos rfl]
      repeat' (first | walk_at "st")
      refine ⟨hd, hlt, hN _ _ ⟨fun b' o' e' => ?_, upd_same, (by rw [List.length_append]; show acc.length + 1 ≤ _; omega), ?_⟩⟩
      · rw [upd_ne (ne_of_none e' hD)]; exact hs b' o' e'
      · rw [eacc, List.replicate_succ', List.map_append]; rfl
    intro gv acc0 H4 fgv hP
    obtain ⟨s4, h4, _, eacc0⟩ := hP
    rw [hql] at eacc0
    subst eacc0
    have h4l := s4 _ _ h3
    have hlg : lf ≠ gv := ne_of_none h3 fgv
    have s24 := s3.trans s4
    have s14 := s2.trans s24
    have s04 := s02.trans s24
    repeat' (first | (with_reducible refine wp_rev ?_) | walk_at "st")
    refine ⟨r, rows, D, n, rfl, s14 _ _ h1, hrl, hn0, hn, fun i hi => (let ⟨ai, e1, e2⟩ := hrow i hi; ⟨ai, e1, s14 _ _ e2⟩), hTB.same s04, fun ro os H5 s5 fro h5 hop hod => ?_⟩
    have hol : os.length = n := by rw [hop.length_eq, List.length_range]
    have ornd : os.reverse.Nodup := ((List.reverse_perm os).trans hop).nodup_iff.mpr List.nodup_range
    have ormem : ∀ x, x ∈ os.reverse ↔ x < n := fun x => by rw [List.mem_reverse, hop.mem_iff, List.mem_range]
    have orp : os.reverse.Pairwise (fun u v => D 0 v ≤ D 0 u) := List.pairwise_reverse.mpr hod
    have hodp : ∀ (i j : Nat) u v, i ≤ j → os.reverse[i]? = some u → os.reverse[j]? = some v → D 0 v ≤ D 0 u := fun i j u v hij hu hv => by
      by_cases e : i = j
      · subst e
        rw [hu] at hv
        cases hv
        exact Int.le_refl _
      · obtain ⟨hi', eu⟩ := List.getElem?_eq_some_iff.mp hu
        obtain ⟨hj', ev⟩ := List.getElem?_eq_some_iff.mp hv
        have := List.pairwise_iff_getElem.mp orp i j hi' hj' (by omega)
        rw [eu, ev] at this
        exact this
    obtain ⟨rk, hrk⟩ := Classical.axiomOfChoice (fun x : Nat => show ∃ i : Nat, x < n → os.reverse[i]? = some x from by
      by_cases h : x < n
      · obtain ⟨i, hi', e⟩ := List.mem_iff_getElem.mp ((ormem x).mpr h)
        exact ⟨i, fun _ => by rw [← e]; exact List.getElem?_eq_getElem hi'⟩
      · exact ⟨0, fun z => absurd z h⟩)
    have rkn : ∀ v, v < n → rk v < n := fun v hv => by
      have := (List.getElem?_eq_some_iff.mp (hrk v hv)).1
      rw [List.length_reverse] at this
      omega
    have rki : ∀ v w, v < n → w < n → rk v = rk w → v = w := fun v w hv hw e => by
      have a := hrk v hv
      have b := hrk w hw
      rw [e, b] at a
      cases a
      rfl
    have rkd : ∀ v w, v < n → w < n → rk v ≤ rk w → D 0 w ≤ D 0 v := fun v w hv hw h => hodp _ _ v w h (hrk v hv) (hrk w hw)
    have s05 := s04.trans s5
    have nl : H2 lf = none := flf
    have ng : H2 gv = none := none_same s3 fgv
    have kf : ∀ {H'}, Fr [lf, gv] H5 H' → ∀ c o, H2 c = some o → H' c = some o := fun FF c o h => FF c o (fun z => by
      simp only [List.mem_cons, List.not_mem_nil, or_false] at z
      rcases z with z | z
      · rw [z, nl] at h; cases h
      · rw [z, ng] at h; cases h) (s5 _ _ (s24 _ _ h))
    have h5ro : ¬ ro = lf ∧ ¬ ro = gv := ⟨(ne_of_none h4l fro).symm, (ne_of_none h4 fro).symm⟩
    refine ⟨ro, nV os, rfl, sq_of h5, ?_⟩
    refine loop_rev (xs := nV os) (fun i σ' H' => Fr [lf, gv] H5 H' ∧ ∃ (L Y : List Int) (o8 o9 o10 : Option V), H' lf = some (.lst (L.map V.int)) ∧ H' gv = some (.lst (Y.map V.int)) ∧ L.length = n ∧ Y.length = n ∧ Mm.GT n D ff (fun u => ss.getD u 0) (fun u => L.getD u 0) (fun v => Y.getD v 0) rk i ∧ σ' = [some (.ref a), some (.ref b), some (.ref c), some (.int ff), some (.ref r), some (.ref q), some (.ref lf), some (.ref gv), o8, o9, o10])
      ⟨Fr.refl, ss, List.replicate n 0, _, _, _, s5 _ _ h4l, s5 _ _ h4, hsl, List.length_replicate, ?_, rfl⟩ (fun i σ' H' _ h => sq_of (h.1 _ _ (by simp only [List.mem_cons, List.not_mem_nil, or_false, not_or]; exact h5ro) h5)) ?_ ?_
    · refine (Mm.GT.start (F := D) (f := ff) (r := rk) (s := fun u => ss.getD u 0) (fun u hu' => ?_)).congr (fun _ _ => rfl) (fun v _ => ?_)
      · have hul : u < ss.length := by omega
        rw [List.getD_eq_getElem?_getD, List.getElem?_eq_getElem hul]
        have := hT.sp ss[u] (List.getElem_mem _)
        show 0 ≤ ss[u]
        omega
      · rw [List.getD_eq_getElem?_getD, List.getElem?_replicate]
        split <;> rfl
    · rintro i x _ H6 hi ⟨FF, L, Y, o8, o9, o10, hL, hY, hLl, hYl, G, rfl⟩
      have hi' : (nV os.reverse)[i]? = some x := by unfold nV at hi ⊢; rw [List.map_reverse]; exact hi
      obtain ⟨v, hv, rfl⟩ := nV_at hi'
      have hvn : v < n := (ormem v).mp (List.mem_of_getElem? hv)
      have hrv : rk v = i := nd_inj ornd (hrk v hvn) hv
      obtain ⟨bv, ebv, hbv⟩ := hqs v hvn
      have tq : atI qs (v : Int) = some (.ref bv) := atI_nat ebv
      have hq6 := kf FF _ _ h2
      have hb6 := kf FF _ _ hbv
      obtain ⟨nv, env⟩ : ∃ nv, nv = nearL D ff n v := ⟨_, rfl⟩
      rw [← env] at hb6
      have mnv : ∀ u, u ∈ nv ↔ u < n ∧ D v u ≤ ff := fun u => by rw [env]; exact nearL_mem
      have ndv : nv.Nodup := by rw [env]; exact nearL_nd ..
      have hnl : nv.length ≤ n := by rw [env]; exact nearL_len ..
      have bne : bv ≠ lf ∧ bv ≠ gv := ⟨fun z => (by rw [z, nl] at hbv; cases hbv), fun z => (by rw [z, ng] at hbv; cases hbv)⟩
      repeat' (first | walk_at "st")
      refine ⟨[.ref lf], rfl, fun k y j h => ?_, ?_⟩
      · match k, h with
        | 0, h => cases h; exact ⟨_, rfl, rfl⟩
        | k + 1, h => cases h
      repeat' (first | ((with_reducible refine' wp_ixL ?ha ?hv ?_); (case ha => exact sq_of (by walk_at "ats")); (case hv => first | assumption | exact rfl)) | walk_at "st")
      refine ⟨bv, rfl, ⟨_, sq_of hb6⟩, ?_⟩
      refine comp_list (xs := nV nv) (by rw [nV_len]; omega) (fun Dd j acc H' => Same H6 H' ∧ H' Dd = some (.lst acc) ∧ acc.length ≤ j ∧ acc = ((nv.take j).map fun u => L.getD u 0).map V.int) (fun Dd hD => ⟨Same.upd hD, upd_same, Nat.le_refl _, rfl⟩)
        (fun Dd j acc H' hD hj h => ⟨h.2.1, h.2.2.1, sq_of (h.1 _ _ hb6)⟩) ?_ ?_
      · intro Dd j x acc H' NN hD hx hlt hN hP
        obtain ⟨hs, hd, hal, eacc⟩ := hP
        obtain ⟨u, hu', rfl⟩ := nV_at hx
        have hun := ((mnv u).mp (List.mem_of_getElem? hu')).1
        have hLL := hs _ _ hL
        have tu : atI (L.map V.int) (u : Int) = some (.int (L.getD u 0)) := ints_at (by rw [List.getD_eq_getElem?_getD, List.getElem?_eq_getElem (by omega)]; rfl)
        have etk : nv.take (j + 1) = nv.take j ++ [u] := by rw [List.take_add_one, hu']; rfl
        show tYes _ _ _
        unfold tYes
        dsimp only
        rw [if_pos rfl]
        repeat' (first | ((with_reducible refine' wp_ixL ?ha ?hv ?_); (case ha => exact sq_of (by walk_at "ats")); (case hv => first | assumption | exact rfl)) | walk_at "st")
        refine ⟨hd, hlt, hN _ _ ⟨fun b' o' e' => ?_, upd_same, (by rw [List.length_append]; show acc.length + 1 ≤ _; omega), ?_⟩⟩
        · rw [upd_ne (ne_of_none e' hD)]; exact hs b' o' e'
        · rw [etk, List.map_append, List.map_append, ← eacc]; rfl
      intro am acc7 H7 fam hP7
      obtain ⟨s7, h7, _, eacc7⟩ := hP7
      rw [nV_len, List.take_length] at eacc7
      have hvm : v ∈ nv := (mnv v).mpr ⟨hvn, by rw [hD0 v hvn]; exact hf⟩
      repeat' (first | walk_at "st")
      refine wp_minL (ns := nv.map fun u => L.getD u 0) (by intro e; rw [List.map_eq_nil_iff] at e; rw [e] at hvm; cases hvm) (by rw [← eacc7]; exact sq_of h7) fun m hm hle => ?_
      have hm' : ∃ u, u < n ∧ D v u ≤ ff ∧ L.getD u 0 = m := by
        obtain ⟨u, hu', e⟩ := List.mem_map.mp hm
        exact ⟨u, ((mnv u).mp hu').1, ((mnv u).mp hu').2, e⟩
      have hle' : ∀ u, u < n → D v u ≤ ff → m ≤ L.getD u 0 := fun u h1 h2 => hle _ (List.mem_map.mpr ⟨u, (mnv u).mpr ⟨h1, h2⟩, rfl⟩)
      have G' := G.step hsy rki hvn hrv hm' hle'
      have hL7 := s7 _ _ hL
      have hY7 := s7 _ _ hY
      have hb7 := s7 _ _ hb6
      have hq7 := s7 _ _ hq6
      have FF7 : Fr [lf, gv] H5 H7 := FF.trans s7.fr
      repeat' (first | (with_reducible refine wp_gsub ?_) | walk_at "st")
      refine ⟨gv, _, v, v, rfl, rfl, hY7, ixN_nat (by rw [List.length_map]; omega), ?_⟩
      have eY : (Y.map V.int).set v (.int m) = (Y.set v m).map V.int := (List.map_set ..).symm
      rw [eY]
      have h8Y : upd H7 gv (.lst ((Y.set v m).map V.int)) gv = some (.lst ((Y.set v m).map V.int)) := upd_same
      have n8 : ∀ b, b ≠ gv → upd H7 gv (.lst ((Y.set v m).map V.int)) b = H7 b := fun b hb => upd_ne hb
      have F8 : Fr [lf, gv] H7 (upd H7 gv (.lst ((Y.set v m).map V.int))) := Fr.upd (by simp)
      generalize upd H7 gv (.lst ((Y.set v m).map V.int)) = H8 at *
      have h8L := (n8 lf hlg).trans hL7
      have h8n := (n8 bv bne.2).trans hb7
      have qne : q ≠ gv := fun z => by rw [z, ng] at h2; cases h2
      have h8q := (n8 q qne).trans hq7
      repeat' (first | ((with_reducible refine' wp_ixL ?ha ?hv ?_); (case ha => exact sq_of (by walk_at "ats")); (case hv => first | assumption | exact rfl)) | walk_at "st")
      refine ⟨bv, rfl, ⟨_, sq_of h8n⟩, ?_⟩
      refine loop_list (xs := nV nv) (fun j σ' H' => Fr [lf] H8 H' ∧ ∃ (M : List Int) (o10 : Option V), H' lf = some (.lst (M.map V.int)) ∧ M.length = n ∧ (∀ u, u < n → M.getD u 0 = if u ∈ nv.take j then L.getD u 0 - m else L.getD u 0) ∧ σ' = [some (.ref a), some (.ref b), some (.ref c), some (.int ff), some (.ref r), some (.ref q), some (.ref lf), some (.ref gv), some (.int v), some (.int m), o10])
        ⟨Fr.refl, L, _, h8L, hLl, (fun u _ => by simp), rfl⟩ (fun j σ' H' _ h => sq_of (h.1 _ _ (by rw [List.mem_singleton]; exact bne.1) h8n)) ?_ ?_
      · rintro j x _ H9 hj ⟨F9, M, o10', hM, hMl, hMv, rfl⟩
        obtain ⟨u, hu', rfl⟩ := nV_at hj
        have hun := ((mnv u).mp (List.mem_of_getElem? hu')).1
        have etk : nv.take (j + 1) = nv.take j ++ [u] := by rw [List.take_add_one, hu']; rfl
        have hnot : u ∉ nv.take j := fun hm2 => by
          have nd2 : (nv.take (j + 1)).Nodup := List.Pairwise.sublist (List.take_sublist _ _) ndv
          rw [etk, List.nodup_append] at nd2
          exact nd2.2.2 u hm2 u (List.mem_singleton.mpr rfl) rfl
        have hmu := hMv u hun
        rw [if_neg hnot] at hmu
        repeat' (first | (with_reducible refine wp_augS ?_) | walk_at "st")
        refine ⟨lf, _, u, .int (M.getD u 0), rfl, rfl, sq_of hM, (by rw [List.getElem?_map, List.getD_eq_getElem?_getD, List.getElem?_eq_getElem (by omega)]; rfl), ?_⟩
        repeat' (first | walk_at "st")
        refine wp_ipI ?_
        refine ⟨lf, _, u, u, rfl, rfl, hM, ixN_nat (by rw [List.length_map]; omega), ?_⟩
        rw [show (M.map V.int).set u (.int (M.getD u 0 - m)) = (M.set u (M.getD u 0 - m)).map V.int from (List.map_set ..).symm]
        refine ⟨F9.trans (Fr.upd (by simp)), M.set u (M.getD u 0 - m), _, upd_same, by rw [List.length_set]; exact hMl, fun w' hw => ?_, rfl⟩
        rw [etk, List.getD_eq_getElem?_getD, List.getElem?_set]
        by_cases e : u = w'
        · subst e
          rw [if_pos rfl, if_pos (by omega), if_pos (List.mem_append_right _ (List.mem_singleton.mpr rfl)), hmu]
          rfl
        · rw [if_neg e, ← List.getD_eq_getElem?_getD, hMv w' hw]
          by_cases g : w' ∈ nv.take j
          · rw [if_pos g, if_pos (List.mem_append_left _ g)]
          · rw [if_neg g, if_neg]
            intro z
            rcases List.mem_append.mp z with z | z
            · exact g z
            · exact e (List.mem_singleton.mp z).symm
      · rintro _ H9 ⟨F9, M, o10', hM, hMl, hMv, rfl⟩
        rw [nV_len, List.take_length] at hMv
        have F9' : Fr [lf, gv] H8 H9 := fun b o hb e => F9 b o (fun z => hb (by rw [List.mem_singleton.mp z]; exact .head _)) e
        refine ⟨FF7.trans (F8.trans F9'), M, Y.set v m, _, _, _, hM, F9 _ _ (by rw [List.mem_singleton]; exact Ne.symm hlg) h8Y, hMl, by rw [List.length_set]; exact hYl, G'.congr (fun u hu' => ?_) (fun x hx => ?_), rfl⟩
        · show M.getD u 0 = _
          rw [hMv u hu']
          by_cases g : D v u ≤ ff
          · rw [if_pos ((mnv u).mpr ⟨hu', g⟩), if_pos g]
          · rw [if_neg (fun z => g ((mnv u).mp z).2), if_neg g]
        · show (Y.set v m).getD x 0 = _
          rw [List.getD_eq_getElem?_getD, List.getElem?_set]
          by_cases e : v = x
          · subst e
            rw [if_pos rfl, if_pos (by omega), if_pos rfl]
            rfl
          · rw [if_neg e, if_neg (Ne.symm e), ← List.getD_eq_getElem?_getD]
    · rintro _ H6 ⟨FF, L, Y, o8, o9, o10, hL, hY, hLl, hYl, G, rfl⟩
      rw [nV_len, hol] at G
      repeat' (first | walk_at "st")
      exact k Y gv H6 (fun x o h => kf FF x o (s02 _ _ h)) hY hYl ⟨D, hD, rk, _, rkn, rki, rkd, G⟩
theorem fnall_imp {x : Str} {k j : Nat} {ps : List Str} {sp sp' : Sp} (F : FnAll P w K mg base x k ps sp) (hj : k ≤ j) (h : ∀ vs H Q E, sp' vs H Q E → sp vs H Q E) : FnAll P w K mg base x j ps sp' := by
  obtain ⟨f, fd, G, a, b, c⟩ := F.ex
  exact ⟨f, fd, (G.imp h).mono hj, a, b, c⟩
theorem paid_congr {F D : Nat → Nat → Int} {f : Int} {ys : List Int} {n u : Nat} (h : ∀ v, v < n → F u v = D u v) : paid F f ys n u = paid D f ys n u := by
  unfold paid
  exact Mm.sm_congr fun v hv => by rw [h v hv]
theorem ys_smP : ∀ (ys : List Int), ys.sum = Mm.sm (fun v => ys.getD v 0) ys.length := fun ys => by
  have h : ∀ k, k ≤ ys.length → Mm.sm (fun v => ys.getD v 0) k = (ys.take k).sum := by
    intro k
    induction k with
    | zero => intro _; simp [Mm.sm]
    | succ k ih =>
      intro hk
      show Mm.sm _ k + ys.getD k 0 = _
      rw [ih (by omega), List.take_add_one, List.sum_append, List.getD_eq_getElem?_getD]
      cases e : ys[k]? with
      | none => rw [List.getElem?_eq_none_iff] at e; omega
      | some z => simp
  rw [h _ (Nat.le_refl _), List.take_length]
theorem oksharesO (F : FnAll P w K mg base "shares" 2 ["parents", "lengths", "sizes", "far"] spSharesG) : FnAll P w K mg base "shares" 3 ["parents", "lengths", "sizes", "far"] spSharesO := by
  refine fnall_imp F (by decide) fun vs H Q E h => ?_
  obtain ⟨a, b, c, f, ps, ls, ss, n, rfl, ha, hb, hc, hT, hn0, hn, hf, hTB, k⟩ := h
  refine ⟨a, b, c, f, ps, ls, ss, n, rfl, ha, hb, hc, hT, hn0, hn, hf, hTB, fun ys r H' s h hl ⟨D, hD, G⟩ => ?_⟩
  refine k ys r H' s h hl (G.yn hl) fun F hF => ?_
  have eq : ∀ i j, i < n → j < n → F i j = D i j := fun i j hi hj => IsDist.uniq hT.t hF hD _ i j (Nat.lt_succ_self _) hi hj
  obtain ⟨g1, g2⟩ := G.fe
  obtain ⟨C, c1, c2⟩ := G.opt (hD.tr hT.t (fun j z h0 h => by have := hT.lp j z h0 h; omega)) (fun u hu => by
    have hul : u < ss.length := by rw [hT.sl]; exact hu
    rw [List.getD_eq_getElem?_getD, List.getElem?_eq_getElem hul]
    have := hT.sp ss[u] (List.getElem_mem _)
    show 0 < ss[u]
    omega)
  refine ⟨fun u hu => ?_, C, fun v hv => ?_, ?_⟩
  · rw [paid_congr fun v hv => eq u v hu hv]
    exact g1 u hu
  · obtain ⟨u, hu, hc, hd⟩ := c1 v hv
    exact ⟨u, hu, hc, by rw [eq u v hu hv]; exact hd⟩
  · rw [c2, ys_smP, hl]
theorem sccover : FnScope ["parents", "lengths", "sizes", "far", "table", "near", "given", "chosen", "reached", "stand", "holders", "full", "holder"] ["parents", "lengths", "sizes", "far"] (defScope scover) := ⟨rfl, rfl, rfl, by decide +kernel, rfl, by decide +kernel, by decide +kernel⟩
theorem okcover (F : Fn K mg "cover" scover ["parents", "lengths", "sizes", "far"]) (T : Txt mg) (Fspans : FnAll P w K mg base "spans" 1 ["parents", "lengths"] (spSpans)) (Fnear_stands : FnAll P w K mg base "near_stands" 1 ["table", "far"] (spNear)) (Fshares : FnAll P w K mg base "shares" 2 ["parents", "lengths", "sizes", "far"] (spSharesG)) (Foutward : FnAll P w K mg base "outward" 1 ["table"] (spOut)) : FnAll P w K mg base "cover" 3 ["parents", "lengths", "sizes", "far"] (spCover) := by
  refine F.ok (k := 2) sccover (fun vs H Q E h => ?_) (fun f cdv A outer s H vs Q E hr h => ?_)
  · obtain ⟨a, b, c, ff, ps, ls, ss, n, rfl, ha, hb, hc, hT, hn0, hn, hf, hTB, k⟩ := h
    rfl
  · obtain ⟨a, b, c, ff, ps, ls, ss, n, rfl, ha, hb, hc, hT, hn0, hn, hf, hTB, k⟩ := h
    have hu := hu16 hr
    have nd := sccover.nd
    have hu1 := hu_of hr
    refine ⟨_, (pss_cons (ps_set (i := 4) nd rfl (by first | exact Or.inl rfl | exact Or.inr rfl) (pe_callF Fspans hr (pa_cons (pv 0) (pa_cons (pv 1) pa_nil))))
      (pss_cons (ps_set (i := 5) nd rfl (by first | exact Or.inl rfl | exact Or.inr rfl) (pe_callF Fnear_stands hr (pa_cons (pv 4) (pa_cons (pv 3) pa_nil))))
      (pss_cons (ps_set (i := 6) nd rfl (by first | exact Or.inl rfl | exact Or.inr rfl) (pe_callF Fshares hr (pa_cons (pv 0) (pa_cons (pv 1) (pa_cons (pv 2) (pa_cons (pv 3) pa_nil))))))
      (pss_cons (ps_set (i := 7) nd rfl (by first | exact Or.inl rfl | exact Or.inr rfl) (pe_lst pa_nil))
      (pss_cons (ps_set (i := 8) nd rfl (by first | exact Or.inl rfl | exact Or.inr rfl) pe_dnewK)
      (pss_cons (ps_for PassesOwn.never rfl (pi_list (pe_callF Foutward hr (pa_cons (pv 4) pa_nil))) (pg_name (i := 9) nd rfl (by first | exact Or.inl rfl | exact Or.inr rfl)) (pss_cons (ps_setComp (i := 10) nd rfl (by first | exact Or.inl rfl | exact Or.inr rfl) rfl (compScopeC (caps := [("given", 6)]) rfl rfl (by decide +kernel) (by decide +kernel) rfl (sub1 rfl) rfl (fun k y j h => match k, h with | 0, h => by cases h; exact ⟨rfl, by first | exact Or.inl rfl | exact Or.inr (by first | exact Or.inl rfl | exact Or.inr rfl) | exact Or.inr (Or.inr rfl), by first | exact .inl rfl | exact .inr rfl, by first | exact .inl rfl | exact .inr rfl⟩ | k + 1, h => by cases h) (by decide +kernel)) rfl (pi_list (pe_ix (r := rIxL K) ix_list (pv 5) (pv 9) (fun _ _ => rfl))) (fun _ _ _ _ => (pif_one (pt_cmpR op_gt (pe_ix (r := rIxL K) ix_list (pv 1) (pv 0) (fun _ _ => rfl)) pe_int (nomark _)))) (fun _ _ _ _ => (pv 0)))
      (pss_cons (ps_set (i := 11) nd rfl (by first | exact Or.inl rfl | exact Or.inr rfl) (pe_cmpR op_eq (pe_callB (call_sumL rfl) (by rfl) T.b_sum PyProof.Rows.boot_sum (pa_cons (pe_comp (compScopeC (caps := [("given", 6)]) rfl rfl (by decide +kernel) (by decide +kernel) rfl (sub1 rfl) rfl (fun k y j h => match k, h with | 0, h => by cases h; exact ⟨rfl, by first | exact Or.inl rfl | exact Or.inr (by first | exact Or.inl rfl | exact Or.inr rfl) | exact Or.inr (Or.inr rfl), by first | exact .inl rfl | exact .inr rfl, by first | exact .inl rfl | exact .inr rfl⟩ | k + 1, h => by cases h) (by decide +kernel)) rfl (pi_list (pv 10)) (fun _ _ _ _ => pif_nil) (fun _ _ _ _ => (pe_ix (r := rIxL K) ix_list (pv 1) (pv 0) (fun _ _ => rfl)))) pa_nil)) (pe_ix (r := rIxL K) ix_list (pv 2) (pv 9) (fun _ _ => rfl)) (nomark _)))
      (pss_one (ps_if (PW.pt (pw_and (pt_val (pv 11)) (pw_and1 (pt_not (pt_val (pe_callB (call_anyL rfl) (by rfl) T.b_any boot_any (pa_cons (pe_comp (compScopeC (caps := [("reached", 8)]) rfl rfl (by decide +kernel) (by decide +kernel) rfl (sub1 rfl) rfl (fun k y j h => match k, h with | 0, h => by cases h; exact ⟨rfl, by first | exact Or.inl rfl | exact Or.inr (by first | exact Or.inl rfl | exact Or.inr rfl) | exact Or.inr (Or.inr rfl), by first | exact .inl rfl | exact .inr rfl, by first | exact .inl rfl | exact .inr rfl⟩ | k + 1, h => by cases h) (by decide +kernel)) rfl (pi_list (pv 10)) (fun _ _ _ _ => pif_nil) (fun _ _ _ _ => (pe_cmpR (op_inI hu1) (pv 0) (pv 1) rfl))) pa_nil))))))) (pss_cons (ps_expr (pe_bm PySem.F.plainAttrs_list PySem.F.slot_list_append PySem.F.type_list_append mt_append (pv 7) (pa_cons (pv 9) pa_nil)))
      (pss_one (ps_for PassesOwn.never rfl (pi_list (pv 10)) (pg_name (i := 12) nd rfl (by first | exact Or.inl rfl | exact Or.inr rfl)) (pss_one (ps_dput hu1 (pv 8) (pv 12) pe_bl rfl))))) pss_nil)))))
      (pss_one (ps_ret (pe_callB call_sortI (by rfl) T.b_sorted boot_sorted (pa_cons (pv 7) pa_nil)))))))))), ?_⟩
    have est : start ["parents", "lengths", "sizes", "far", "table", "near", "given", "chosen", "reached", "stand", "holders", "full", "holder"] [.ref a, .ref b, .ref c, .int ff] = [some (.ref a), some (.ref b), some (.ref c), some (.int ff), none, none, none, none, none, none, none, none, none] := rfl
    rw [est]
    clear est
    repeat' (first | walk_at "st")
    refine ⟨a, b, ps, ls, n, rfl, ha, hb, hT.t, hn0, by omega, fun D r rows H1 s1 h1 hrl hrow hD => ?_⟩
    have hTr := hD.tr hT.t (fun j z h0 h => by have := hT.lp j z h0 h; omega)
    have hsl : ss.length = n := hT.sl
    repeat' (first | walk_at "st")
    refine ⟨r, ff, rows, D, n, rfl, h1, hrl, by omega, hrow, fun q qs H2 s2 fq h2 hql hqs => ?_⟩
    have s02 := s1.trans s2
    repeat' (first | walk_at "st")
    refine ⟨a, b, c, ff, ps, ls, ss, n, rfl, s02 _ _ ha, s02 _ _ hb, s02 _ _ hc, hT, hn0, hn, hf, hTB.same s02, fun ys gv H3 s3 h3 hyl hG => ?_⟩
    obtain ⟨F0, hF0, G0⟩ := hG
    have G : Greedy D ff ys ss n := greedy_congrF G0 hn0 fun i j hi hj => IsDist.uniq hT.t hF0 hD _ i j (Nat.lt_succ_self _) hi hj
    have hyn : ∀ v, v < n → 0 ≤ ys.getD v 0 := fun v hv => by
      rw [List.getD_eq_getElem?_getD, List.getElem?_eq_getElem (by omega)]
      exact G.yn hyl _ (List.getElem_mem _)
    have s03 := s02.trans s3
    repeat' (first | walk_at "st")
    refine wp_lstF (by show 0 ≤ 1000; decide) fun ch H4 s4 h4 fch => ?_
    repeat' (first | (with_reducible refine wp_dnewK ?_) | walk_at "st")
    intro rd frd
    have s5 : Same H4 (upd H4 rd (.dK [])) := Same.upd frd
    have h5 : upd H4 rd (HO.dK []) rd = some (.dK []) := upd_same
    generalize upd H4 rd (HO.dK []) = H5 at *
    have s15 := s2.trans (s3.trans (s4.trans s5))
    have s25 := s3.trans (s4.trans s5)
    have s35 := s4.trans s5
    have s05 := s03.trans s35
    repeat' (first | walk_at "st")
    refine ⟨r, rows, D, n, rfl, s15 _ _ h1, hrl, hn0, hn, fun i hi => (let ⟨ai, e1, e2⟩ := hrow i hi; ⟨ai, e1, s15 _ _ e2⟩), hTB.same s05, fun ro os H6 s6 fro h6 hop hod => ?_⟩
    have hol : os.length = n := by rw [hop.length_eq, List.length_range]
    have osmem : ∀ x, x ∈ os ↔ x < n := fun x => by rw [hop.mem_iff, List.mem_range]
    have osnd : os.Nodup := hop.nodup_iff.mpr List.nodup_range
    have nc : H3 ch = none := fch
    have nr : H3 rd = none := none_same s4 frd
    have hcr : ch ≠ rd := ne_of_none h4 frd
    have kf : ∀ {H'}, Fr [ch, rd] H6 H' → ∀ c o, H3 c = some o → H' c = some o := fun FF c o h => FF c o (fun z => by
      simp only [List.mem_cons, List.not_mem_nil, or_false] at z
      rcases z with z | z
      · rw [z, nc] at h; cases h
      · rw [z, nr] at h; cases h) (s6 _ _ (s35 _ _ h))
    have h5c := s5 _ _ h4
    have h6ro : ¬ ro = ch ∧ ¬ ro = rd := ⟨(ne_of_none h5c fro).symm, (ne_of_none h5 fro).symm⟩
    refine ⟨ro, rfl, ⟨_, sq_of h6⟩, ?_⟩
    refine loop_list (xs := nV os) (fun i σ' H' => Fr [ch, rd] H6 H' ∧ ∃ (cs : List Nat) (kvs : List (Key × V)) (o9 o10 o11 o12 : Option V), H' ch = some (.lst (nV cs)) ∧ H' rd = some (.dK kvs) ∧ kvs.length ≤ 64 * i ∧ CI D ff (fun v => ys.getD v 0) (fun u => ss.getD u 0) n os cs (fun h => (valV kvs (.inl (h : Int))).isSome = true) i ∧ σ' = [some (.ref a), some (.ref b), some (.ref c), some (.int ff), some (.ref r), some (.ref q), some (.ref gv), some (.ref ch), some (.ref rd), o9, o10, o11, o12])
      ⟨Fr.refl, [], [], _, _, _, _, s6 _ _ h5c, s6 _ _ h5, Nat.zero_le _, ⟨List.nil_sublist _, (fun u h => (by cases h)), (fun h => ⟨fun z => (by cases z), fun ⟨u, hu, _⟩ => (by cases hu)⟩), (fun u u' h hu => (by cases hu)), (fun u hu => (by simp at hu))⟩, rfl⟩ (fun i σ' H' _ h => sq_of (h.1 _ _ (by simp only [List.mem_cons, List.not_mem_nil, or_false, not_or]; exact h6ro) h6)) ?_ ?_
    · rintro i x _ H7 hi ⟨FF, cs, kvs, o9, o10, o11, o12, hch, hrd, hkl, I, rfl⟩
      obtain ⟨v, hv, rfl⟩ := nV_at hi
      have hvn : v < n := (osmem v).mp (List.mem_of_getElem? hv)
      have hi64 : i < 64 := by have := (List.getElem?_eq_some_iff.mp hv).1; omega
      have hcl : cs.length ≤ i := Nat.le_trans I.sub.length_le (by rw [List.length_take]; omega)
      obtain ⟨bv, ebv, hbv⟩ := hqs v hvn
      have tq : atI qs (v : Int) = some (.ref bv) := atI_nat ebv
      have hq7 := kf FF _ _ (s3 _ _ h2)
      have hb7 := kf FF _ _ (s3 _ _ hbv)
      have hg7 := kf FF _ _ h3
      have hz7 := kf FF _ _ (s03 _ _ hc)
      have tz : atI (ss.map V.int) (v : Int) = some (.int (ss.getD v 0)) := ints_at (by rw [List.getD_eq_getElem?_getD, List.getElem?_eq_getElem (by omega)]; rfl)
      obtain ⟨nv, env⟩ : ∃ nv, nv = nearL D ff n v := ⟨_, rfl⟩
      rw [← env] at hb7
      have mnv : ∀ u, u ∈ nv ↔ u < n ∧ D v u ≤ ff := fun u => by rw [env]; exact nearL_mem
      have hnl : nv.length ≤ n := by rw [env]; exact nearL_len ..
      have yat : ∀ {u : Nat}, u < n → atI (ys.map V.int) (u : Int) = some (.int (ys.getD u 0)) := fun {u} hu' => ints_at (by rw [List.getD_eq_getElem?_getD, List.getElem?_eq_getElem (by omega)]; rfl)
      repeat' (first | walk_at "st")
      refine ⟨[.ref gv], rfl, fun k y j h => ?_, ?_⟩
      · match k, h with
        | 0, h => cases h; exact ⟨_, rfl, rfl⟩
        | k + 1, h => cases h
      repeat' (first | ((with_reducible refine' wp_ixL ?ha ?hv ?_); (case ha => exact sq_of (by walk_at "ats")); (case hv => first | assumption | exact rfl)) | walk_at "st")
      refine ⟨bv, rfl, ⟨_, sq_of hb7⟩, ?_⟩
      refine comp_list (xs := nV nv) (by rw [nV_len]; omega) (fun Dd j acc H' => Same H7 H' ∧ H' Dd = some (.lst acc) ∧ acc.length ≤ j ∧ acc = nV ((nv.take j).filter fun u => decide (0 < ys.getD u 0))) (fun Dd hD => ⟨Same.upd hD, upd_same, Nat.le_refl _, rfl⟩)
        (fun Dd j acc H' hD hj h => ⟨h.2.1, h.2.2.1, sq_of (h.1 _ _ hb7)⟩) ?_ ?_
      · intro Dd j x acc H' NN hD hx hlt hN hP
        obtain ⟨hs, hd, hal, eacc⟩ := hP
        obtain ⟨u, hu', rfl⟩ := nV_at hx
        have hun := ((mnv u).mp (List.mem_of_getElem? hu')).1
        have hgg := hs _ _ hg7
        have tu := yat hun
        have etk : nv.take (j + 1) = nv.take j ++ [u] := by rw [List.take_add_one, hu']; rfl
        repeat' (first | ((with_reducible refine' wp_ixL ?ha ?hv ?_); (case ha => exact sq_of (by walk_at "ats")); (case hv => first | assumption | exact rfl)) | walk_at "st")
        · rename_i hle
          refine ⟨hd, hlt, hN _ _ ⟨fun b' o' e' => ?_, upd_same, (by rw [List.length_append]; show acc.length + 1 ≤ _; omega), ?_⟩⟩
          · rw [upd_ne (ne_of_none e' hD)]; exact hs b' o' e'
          · rw [etk, List.filter_append, List.filter_cons, if_pos (decide_eq_true hle), List.filter_nil, eacc]
            unfold nV
            rw [List.map_append]; rfl
        · rename_i hle
          refine hN _ _ ⟨hs, hd, by omega, ?_⟩
          rw [etk, List.filter_append, List.filter_cons, if_neg (fun z => hle (of_decide_eq_true z)), List.filter_nil, List.append_nil, eacc]
      intro hh acc8 H8 fhh hP8
      obtain ⟨s8, h8, _, eacc8⟩ := hP8
      rw [nV_len, List.take_length] at eacc8
      subst eacc8
      obtain ⟨hv8, ehv⟩ : ∃ hv8, hv8 = nv.filter fun u => decide (0 < ys.getD u 0) := ⟨_, rfl⟩
      rw [← ehv] at h8
      have mhv : ∀ u, u ∈ hv8 ↔ u < n ∧ D v u ≤ ff ∧ 0 < ys.getD u 0 := fun u => by rw [ehv, List.mem_filter, mnv]; simp [and_assoc]
      have hhl : hv8.length ≤ n := by rw [ehv]; exact Nat.le_trans (List.length_filter_le _ _) hnl
      have hsum : (hv8.map fun u => ys.getD u 0).sum = Mm.sm (fun w => if D v w ≤ ff then ys.getD w 0 else 0) n := by
        rw [ehv, env]
        exact Mm.sum_near (fun u => ys.getD u 0) D ff v n hyn
      have hg8 := s8 _ _ hg7
      repeat' (first | walk_at "st")
      refine ⟨[.ref gv], rfl, fun k y j h => ?_, ?_⟩
      · match k, h with
        | 0, h => cases h; exact ⟨_, rfl, rfl⟩
        | k + 1, h => cases h
      repeat' (first | ((with_reducible refine' wp_ixL ?ha ?hv ?_); (case ha => exact sq_of (by walk_at "ats")); (case hv => first | assumption | exact rfl)) | walk_at "st")
      refine ⟨hh, rfl, ⟨_, sq_of h8⟩, ?_⟩
      refine comp_list (xs := nV hv8) (by rw [nV_len]; omega) (fun Dd j acc H' => Same H8 H' ∧ H' Dd = some (.lst acc) ∧ acc.length ≤ j ∧ acc = ((hv8.take j).map fun u => ys.getD u 0).map V.int) (fun Dd hD => ⟨Same.upd hD, upd_same, Nat.le_refl _, rfl⟩)
        (fun Dd j acc H' hD hj h => ⟨h.2.1, h.2.2.1, sq_of (h.1 _ _ h8)⟩) ?_ ?_
      · intro Dd j x acc H' NN hD hx hlt hN hP
        obtain ⟨hs, hd, hal, eacc⟩ := hP
        obtain ⟨u, hu', rfl⟩ := nV_at hx
        have hun := ((mhv u).mp (List.mem_of_getElem? hu')).1
        have hgg := hs _ _ hg8
        have tu := yat hun
        have etk : hv8.take (j + 1) = hv8.take j ++ [u] := by rw [List.take_add_one, hu']; rfl
        show tYes _ _ _
        unfold tYes
        dsimp only
        rw [if_pos rfl]
        repeat' (first | ((with_reducible refine' wp_ixL ?ha ?hv ?_); (case ha => exact sq_of (by walk_at "ats")); (case hv => first | assumption | exact rfl)) | walk_at "st")
        refine ⟨hd, hlt, hN _ _ ⟨fun b' o' e' => ?_, upd_same, (by rw [List.length_append]; show acc.length + 1 ≤ _; omega), ?_⟩⟩
        · rw [upd_ne (ne_of_none e' hD)]; exact hs b' o' e'
        · rw [etk, List.map_append, List.map_append, ← eacc]; rfl
      intro sl acc9 H9 fsl hP9
      obtain ⟨s9, h9, _, eacc9⟩ := hP9
      rw [nV_len, List.take_length] at eacc9
      have hz9 := s9 _ _ (s8 _ _ hz7)
      have FF9 : Fr [ch, rd] H6 H9 := FF.trans (s8.trans s9).fr
      have hch9 := s9 _ _ (s8 _ _ hch)
      have hrd9 := s9 _ _ (s8 _ _ hrd)
      have hh9 := s9 _ _ h8
      repeat' (first | ((with_reducible refine' wp_ixL ?ha ?hv ?_); (case ha => exact sq_of (by walk_at "ats")); (case hv => first | assumption | exact rfl)) | walk_at "st")
      refine wp_sumL (by rw [← eacc9]; exact sq_of h9) ?_
      rw [hsum]
      repeat' (first | ((with_reducible refine' wp_ixL ?ha ?hv ?_); (case ha => exact sq_of (by walk_at "ats")); (case hv => first | assumption | exact rfl)) | walk_at "st")
      · rename_i hfull
        refine ⟨[.ref rd], rfl, fun k y j h => ?_, ?_⟩
        · match k, h with
          | 0, h => cases h; exact ⟨_, rfl, rfl⟩
          | k + 1, h => cases h
        repeat' (first | walk_at "st")
        refine ⟨hh, rfl, ⟨_, sq_of hh9⟩, ?_⟩
        refine comp_list (xs := nV hv8) (by rw [nV_len]; omega) (fun Dd j acc H' => Same H9 H' ∧ H' Dd = some (.lst acc) ∧ acc.length ≤ j ∧ acc = ((hv8.take j).map fun (u : Nat) => (valV kvs (Sum.inl (u : Int) : Key)).isSome).map V.bl) (fun Dd hD => ⟨Same.upd hD, upd_same, Nat.le_refl _, rfl⟩)
          (fun Dd j acc H' hD hj h => ⟨h.2.1, h.2.2.1, sq_of (h.1 _ _ hh9)⟩) ?_ ?_
        · intro Dd j x acc H' NN hD hx hlt hN hP
          obtain ⟨hs, hd, hal, eacc⟩ := hP
          obtain ⟨u, hu', rfl⟩ := nV_at hx
          have hrr := hs _ _ hrd9
          have etk : hv8.take (j + 1) = hv8.take j ++ [u] := by rw [List.take_add_one, hu']; rfl
          show tYes _ _ _
          unfold tYes
          dsimp only
          rw [if_pos rfl]
          repeat' (first | walk_at "st")
          refine wp_inI hrr ?_
          refine ⟨hd, hlt, hN _ _ ⟨fun b' o' e' => ?_, upd_same, (by rw [List.length_append]; show acc.length + 1 ≤ _; omega), ?_⟩⟩
          · rw [upd_ne (ne_of_none e' hD)]; exact hs b' o' e'
          · rw [etk, List.map_append, List.map_append, ← eacc]; rfl
        intro bl acc10 H10 fbl hP10
        obtain ⟨s10, h10, _, eacc10⟩ := hP10
        rw [nV_len, List.take_length] at eacc10
        have hch10 := s10 _ _ hch9
        have hrd10 := s10 _ _ hrd9
        have hh10 := s10 _ _ hh9
        have FF10 : Fr [ch, rd] H6 H10 := FF9.trans s10.fr
        repeat' (first | walk_at "st")
        refine wp_anyL (by rw [h10, eacc10]) ?_
        refine ⟨_, rfl, ?_⟩
        cases hany : (hv8.map fun (u : Nat) => (valV kvs (Sum.inl (u : Int) : Key)).isSome).any id with
        | true =>
          rw [if_neg (by decide)]
          repeat' (first | walk_at "st")
          refine ⟨FF10, cs, kvs, _, _, _, _, hch10, hrd10, by omega, I.skip hv hod (fun z => ?_), rfl⟩
          obtain ⟨bb, hb1, hb2⟩ := List.any_eq_true.mp hany
          obtain ⟨u, hu', rfl⟩ := List.mem_map.mp hb1
          obtain ⟨m1, m2, m3⟩ := (mhv u).mp hu'
          exact z.2 u m1 m3 m2 hb2
        | false =>
          have hno : ∀ h, h < n → 0 < ys.getD h 0 → D v h ≤ ff → ¬ (valV kvs (Sum.inl (h : Int) : Key)).isSome = true := fun h m1 m2 m3 hh' => by
            have := List.any_eq_false.mp hany _ (List.mem_map.mpr ⟨h, (mhv h).mpr ⟨m1, m3, m2⟩, rfl⟩)
            exact this hh'
          rw [if_pos (by decide)]
          repeat' (first | (with_reducible refine wp_bm ?_) | (with_reducible refine wp_bm0 ?_) | walk_at "st")
          refine ⟨tyL hch10, ?_⟩
          repeat' (first | walk_at "st")
          refine ⟨ch, _, _, rfl, rfl, hch10, (by rw [sizeLine_eq, nV_len]; omega), ?_⟩
          have ecs : nV cs ++ [V.int (v : Int)] = nV (cs ++ [v]) := by unfold nV; rw [List.map_append]; rfl
          rw [ecs]
          have h11c : upd H10 ch (.lst (nV (cs ++ [v]))) ch = some (.lst (nV (cs ++ [v]))) := upd_same
          have n11 : ∀ b, b ≠ ch → upd H10 ch (.lst (nV (cs ++ [v]))) b = H10 b := fun b hb => upd_ne hb
          have F11 : Fr [ch, rd] H10 (upd H10 ch (.lst (nV (cs ++ [v])))) := Fr.upd (by simp)
          generalize upd H10 ch (.lst (nV (cs ++ [v]))) = H11 at *
          have h11r := (n11 rd (Ne.symm hcr)).trans hrd10
          have hhc : hh ≠ ch := (ne_of_none hch fhh).symm
          have hhr : hh ≠ rd := (ne_of_none hrd fhh).symm
          have h11h := (n11 hh hhc).trans hh10
          repeat' (first | walk_at "st")
          refine ⟨hh, rfl, ⟨_, sq_of h11h⟩, ?_⟩
          refine loop_list (xs := nV hv8) (fun j σ' H' => Fr [rd] H11 H' ∧ ∃ (kv2 : List (Key × V)) (o12 : Option V), H' rd = some (.dK kv2) ∧ kv2.length ≤ kvs.length + j ∧ (∀ h : Nat, (valV kv2 (Sum.inl (h : Int) : Key)).isSome = true ↔ (valV kvs (Sum.inl (h : Int) : Key)).isSome = true ∨ h ∈ hv8.take j) ∧ σ' = [some (.ref a), some (.ref b), some (.ref c), some (.int ff), some (.ref r), some (.ref q), some (.ref gv), some (.ref ch), some (.ref rd), some (.int v), some (.ref hh), some (.bl (decide (Mm.sm (fun w => if D v w ≤ ff then ys.getD w 0 else 0) n = ss.getD v 0))), o12])
            ⟨Fr.refl, kvs, _, h11r, Nat.le_refl _, (fun h => by simp), rfl⟩ (fun j σ' H' _ h => sq_of (h.1 _ _ (by rw [List.mem_singleton]; exact hhr) h11h)) ?_ ?_
          · rintro j x _ H12 hj ⟨F12, kv2, o12', hr12, hkl2, hv2, rfl⟩
            obtain ⟨u, hu', rfl⟩ := nV_at hj
            have hjl : j < hv8.length := (List.getElem?_eq_some_iff.mp hu').1
            have etk : hv8.take (j + 1) = hv8.take j ++ [u] := by rw [List.take_add_one, hu']; rfl
            repeat' (first | (with_reducible refine wp_dput ?_) | walk_at "st")
            refine ⟨rd, _, rfl, DPut.k (k := .inl (u : Int)) hr12 (by rw [sizeLine_eq]; omega), ?_⟩
            refine ⟨F12.trans (Fr.upd (by simp)), putK kv2 (.inl (u : Int)) (.bl true), _, upd_same, Nat.le_trans (length_putK ..) (by omega), fun h => ?_, rfl⟩
            rw [valV_put, etk]
            by_cases e : h = u
            · subst e
              simp
            · have e' : ¬ (Sum.inl (h : Int) : Key) = Sum.inl (u : Int) := fun z => e (by have := Sum.inl.inj z; omega)
              rw [if_neg e', hv2 h]
              simp [e]
          · rintro _ H12 ⟨F12, kv2, o12', hr12, hkl2, hv2, rfl⟩
            rw [nV_len, List.take_length] at hv2
            rw [nV_len] at hkl2
            have F12' : Fr [ch, rd] H11 H12 := fun b o hb e => F12 b o (fun z => hb (by rw [List.mem_singleton.mp z]; exact .tail _ (.head _))) e
            refine ⟨FF10.trans (F11.trans F12'), cs ++ [v], kv2, _, _, _, _, F12 _ _ (by rw [List.mem_singleton]; exact hcr) h11c, hr12, by omega, I.take hv hfull hno (fun h => ?_), rfl⟩
            rw [hv2 h, mhv]
            constructor
            · rintro (z | ⟨z1, z2, z3⟩)
              · exact .inl z
              · exact .inr ⟨z1, z3, z2⟩
            · rintro (z | ⟨z1, z2, z3⟩)
              · exact .inl z
              · exact .inr ⟨z1, z3, z2⟩
      · rename_i hnf _
        exact ⟨FF9, cs, kvs, _, _, _, _, hch9, hrd9, by omega, I.skip hv hod (fun z => hnf z.1), rfl⟩
    · rintro _ H7 ⟨FF, cs, kvs, o9, o10, o11, o12, hch, hrd, hkl, I, rfl⟩
      rw [nV_len, hol] at I
      have hsub : cs.Sublist os := I.sub.trans (List.take_sublist _ _)
      have cnd : cs.Nodup := osnd.sublist hsub
      have cln : cs.length ≤ n := by rw [← hol]; exact hsub.length_le
      repeat' (first | walk_at "st")
      refine wp_sortI (ns := cs.map fun (u : Nat) => (u : Int)) (by rw [List.length_map]; omega) (by rw [← ints_nV]; exact sq_of hch) fun l ns' hp hs fl => ?_
      obtain ⟨cs', rfl, hp2, hri⟩ := sorted_nV hp hs cnd
      rw [← ints_nV]
      have s8 : Same H7 (upd H7 l (.lst (nV cs'))) := Same.upd fl
      have mem' : ∀ u, u ∈ cs' ↔ u ∈ cs := fun u => hp2.mem_iff
      have cs'n : ∀ u ∈ cs', u < n := fun u hu' => (osmem u).mp (hsub.subset ((mem' u).mp hu'))
      refine k cs' l _ (fun x o h => s8 _ _ (kf FF x o (s03 _ _ h))) upd_same hri cs'n (by rw [hp2.length_eq]; exact cln) fun F hF => ?_
      have eqF : ∀ i j, i < n → j < n → F i j = D i j := fun i j hi hj => IsDist.uniq hT.t hF hD _ i j (Nat.lt_succ_self _) hi hj
      obtain ⟨rk, left, r1, r2, r3, g⟩ := G
      have fe : ∀ u, u < n → Mm.sm (fun v => if D u v ≤ ff then ys.getD v 0 else 0) n ≤ ss.getD u 0 := fun u hu' => by
        have := g.gi.eq u hu'
        have := g.gi.nn u hu'
        omega
      have et : os.take n = os := by rw [← hol, List.take_length]
      obtain ⟨cov, cst⟩ := Mm.fwd_cover (y := fun v => ys.getD v 0) (s := fun u => ss.getD u 0) (r := rk) hTr hyn r3 fe (fun v hv => g.ti v hv (r1 v hv)) (fun u => decide (u ∈ cs))
        (fun u _ hC => I.full u (of_decide_eq_true hC))
        (fun u u' h _ _ hh c1 c2 hy d1 d2 => I.one u u' h (of_decide_eq_true c1) (of_decide_eq_true c2) hh hy d1 d2)
        (fun u hu' hfu hC => by
          obtain ⟨u', h, m, a1, a2, a3, a4, a5⟩ := I.non u (by rw [et]; exact (osmem u).mpr hu') hfu (of_decide_eq_false hC)
          exact ⟨u', h, (osmem u').mp (hsub.subset m), a1, decide_eq_true m, a2, a3, a4, a5⟩)
      refine ⟨fun v hv => ?_, fun v => ys.getD v 0, hyn, fun u hu' => ?_, ?_⟩
      · obtain ⟨u, hu', hC, hd⟩ := cov v hv
        exact ⟨u, (mem' u).mpr (of_decide_eq_true hC), by rw [eqF u v hu' hv]; exact hd⟩
      · rw [Mm.sm_congr (g := fun v => if D u v ≤ ff then ys.getD v 0 else 0) fun v hv => by rw [eqF u v hu' hv]]
        exact fe u hu'
      · rw [← cst]
        unfold cost
        rw [Mm.sum_list (fun u => ss.getD u 0) n cs' (hp2.nodup_iff.mpr cnd) cs'n]
        refine Mm.sm_congr fun u _ => ?_
        simp only [mem' u]
end
theorem cost_sm {ss : List Int} {n : Nat} : ∀ {cs : List Nat}, Rising cs → (∀ u ∈ cs, u < n) → cost ss cs = Mm.sm (fun u => if decide (u ∈ cs) = true then ss.getD u 0 else 0) n
  | [], _, _ => by
    rw [Mm.sm_zero (fun i _ => by simp)]
    rfl
  | c :: cs, hr, hlt => by
    have hr' : Rising cs := fun i j u v hij h1 h2 => hr (i + 1) (j + 1) u v (by omega) h1 h2
    have hnc : c ∉ cs := fun hm => by
      obtain ⟨j, hj⟩ := List.mem_iff_getElem?.mp hm
      have := hr 0 (j + 1) c c (by omega) rfl hj
      omega
    have e1 : cost ss (c :: cs) = ss.getD c 0 + cost ss cs := by unfold cost; rw [List.map_cons, List.sum_cons]
    have e2 : ss.getD c 0 = Mm.sm (fun u => if u = c then ss.getD c 0 else 0) n := by rw [Mm.sm_one (a := c) (hlt c (.head _)) (fun i _ h => if_neg h), if_pos rfl]
    rw [e1, cost_sm hr' (fun u hu => hlt u (.tail _ hu)), e2, ← Mm.sm_add]
    refine Mm.sm_congr fun u hu => ?_
    by_cases h : u = c
    · subst h
      simp [hnc]
    · by_cases g : u ∈ cs
      · simp [h, g]
      · simp [h, g]
theorem put_keys {kvs : List (Key × V)} {ks : List Int} {z : Int} {v : V} (h : kvs.map (·.1) = ks.map Sum.inl) : (putK kvs (.inl z) v).map (·.1) = (if z ∈ ks then ks else ks ++ [z]).map Sum.inl := by
  have e : (kvs.any fun kv => decide (kv.1 = (Sum.inl z : Key))) = true ↔ z ∈ ks := by
    rw [List.any_eq_true]
    constructor
    · rintro ⟨kv, hm, hd⟩
      have := List.mem_map_of_mem (f := (·.1)) hm
      rw [h, of_decide_eq_true hd] at this
      obtain ⟨y, hy, e⟩ := List.mem_map.mp this
      rw [← Sum.inl.inj e]; exact hy
    · intro hm
      have : (Sum.inl z : Key) ∈ kvs.map (·.1) := by rw [h]; exact List.mem_map_of_mem hm
      obtain ⟨kv, hk, e⟩ := List.mem_map.mp this
      exact ⟨kv, hk, decide_eq_true e⟩
  unfold putK
  by_cases hz : z ∈ ks
  · rw [if_pos (e.mpr hz), if_pos hz, ← h, List.map_map]
    refine List.map_congr_left fun kv _ => ?_
    show (if kv.1 = (Sum.inl z : Key) then (kv.1, v) else kv).1 = kv.1
    split <;> rfl
  · rw [if_neg (fun q => hz (e.mp q)), if_neg hz, List.map_append, List.map_append, h]
    rfl
noncomputable def spAllS : Sp := fun vs H Q _ => ∃ (a b : Addr) (ps : List (Option Nat)) (ls : List Int) (n : Nat), vs = [.ref a, .ref b] ∧ H a = some (.lst (ps.map optV)) ∧ H b = some (.lst (ls.map V.int)) ∧ TreeP ps ls n ∧ 0 < n ∧ n ≤ 64 ∧
  ∀ F (ns : List Int) r H', Same H H' → H' r = some (.lst (ns.map V.int)) → ns.Pairwise (· ≤ ·) → ns.length ≤ 4096 → IsDist F ps ls n → (∀ z, z ∈ ns ↔ ∃ i j, i < n ∧ j < n ∧ F i j = z) → Q (.ref r) H'
noncomputable def Cov (D : Nat → Nat → Int) (ss : List Int) (n : Nat) (room f : Int) : Prop := ∃ C : Nat → Bool, (∀ v, v < n → ∃ u, u < n ∧ C u = true ∧ D u v ≤ f) ∧ Mm.sm (fun u => if C u = true then ss.getD u 0 else 0) n ≤ room
noncomputable def Bad (D : Nat → Nat → Int) (ss : List Int) (n : Nat) (room f : Int) : Prop := ∃ y : Nat → Int, (∀ v, v < n → 0 ≤ y v) ∧ (∀ u, u < n → Mm.sm (fun v => if D u v ≤ f then y v else 0) n ≤ ss.getD u 0) ∧ room < Mm.sm y n
noncomputable def Best (D : Nat → Nat → Int) (ss : List Int) (n : Nat) (room far : Int) : Prop := Cov D ss n room far ∧ (far ≠ 0 → Bad D ss n room (far - 1))
theorem Bad.none {D : Nat → Nat → Int} {ss : List Int} {n : Nat} {room room' f f' : Int} (b : Bad D ss n room f) (c : Cov D ss n room' f') (hr : room' ≤ room) (hf : f' ≤ f) : False := by
  obtain ⟨y, y0, yf, yr⟩ := b
  obtain ⟨C, c1, c2⟩ := c
  have := Mm.weak (C := C) (s := fun u => ss.getD u 0) (y := y) (D := D) (f := f) (n := n) y0 yf fun v hv => by
    obtain ⟨u, h1, h2, h3⟩ := c1 v hv
    exact ⟨u, h1, h2, by omega⟩
  omega
theorem Cov.congr {D F : Nat → Nat → Int} {ss : List Int} {n : Nat} {room f : Int} (h : ∀ i j, i < n → j < n → F i j = D i j) (c : Cov D ss n room f) : Cov F ss n room f := by
  obtain ⟨C, c1, c2⟩ := c
  refine ⟨C, fun v hv => ?_, c2⟩
  obtain ⟨u, h1, h2, h3⟩ := c1 v hv
  exact ⟨u, h1, h2, by rw [h u v h1 hv]; exact h3⟩
theorem Bad.congr {D F : Nat → Nat → Int} {ss : List Int} {n : Nat} {room f g : Int} (h : ∀ i j, i < n → j < n → (F i j ≤ g ↔ D i j ≤ f)) (b : Bad D ss n room f) : Bad F ss n room g := by
  obtain ⟨y, y0, yf, yr⟩ := b
  refine ⟨y, y0, fun u hu => ?_, yr⟩
  rw [Mm.sm_congr (g := fun v => if D u v ≤ f then y v else 0) fun v hv => by
    by_cases e : D u v ≤ f
    · rw [if_pos e, if_pos ((h u v hu hv).mpr e)]
    · rw [if_neg e, if_neg (fun z => e ((h u v hu hv).mp z))]]
  exact yf u hu
noncomputable def spLeast : Sp := fun vs H Q _ => ∃ (a b c : Addr) (room : Int) (ps : List (Option Nat)) (ls ss : List Int) (n : Nat), vs = [.ref a, .ref b, .ref c, .int room] ∧ H a = some (.lst (ps.map optV)) ∧ H b = some (.lst (ls.map V.int)) ∧ H c = some (.lst (ss.map V.int)) ∧ TreeS ps ls ss n ∧ 0 < n ∧ n < 64 ∧ TB H ∧ (∃ u, u < n ∧ ss.getD u 0 ≤ room) ∧
  ∀ far H', Same H H' → 0 ≤ far → (∀ F, IsDist F ps ls n → Best F ss n room far) → Q (.int far) H'
theorem wp_callE {sp : Sp} {E : XK} {t : TA} {σ : L2.St} {H : Hp} {Q : VK} (h : t σ H fun vs H1 => sp vs H1 Q E) : tCallE sp E t σ H Q := h
noncomputable def spPlan (e : Ek) : Sp := fun vs H Q E => ∃ (a b c : Addr) (room : Int) (ps : List (Option Nat)) (ls ss : List Int) (n : Nat), vs = [.ref a, .ref b, .ref c, .int room] ∧ H a = some (.lst (ps.map optV)) ∧ H b = some (.lst (ls.map V.int)) ∧ H c = some (.lst (ss.map V.int)) ∧ TreeS ps ls ss n ∧ 0 < n ∧ n < 64 ∧ TB H ∧
  ((∀ m ∈ ss, room < m) → E (.ref e.xNoRoom) none H) ∧
  ∀ t far st sh cs ys H', (∃ m ∈ ss, m ≤ room) → Same H H' → H' t = some (.tup [.int far, .ref st, .ref sh]) → H' st = some (.lst (nV cs)) → H' sh = some (.lst (ys.map V.int)) → 0 ≤ far → Rising cs → (∀ u ∈ cs, u < n) → cs.length ≤ n → cost ss cs ≤ room → (far = 0 → ys = []) →
    (far ≠ 0 → ys.length = n ∧ (∀ y ∈ ys, 0 ≤ y) ∧ room < ys.sum) → (∀ F, IsDist F ps ls n → (∀ v, v < n → ∃ u, u ∈ cs ∧ F u v ≤ far) ∧ (far ≠ 0 → ∀ u, u < n → paid F (far - 1) ys n u ≤ ss.getD u 0)) → Q (.ref t) H'
section
variable {P : Program} {w : World} {K : PySem.W.Frag} {mg : Str → Option Value} {base : Heap} {c : Cl}
theorem scall_spans : FnScope ["parents", "lengths", "found", "row", "span"] ["parents", "lengths"] (defScope sall_spans) := ⟨rfl, rfl, rfl, by decide +kernel, rfl, by decide +kernel, by decide +kernel⟩
theorem okall_spans (F : Fn K mg "all_spans" sall_spans ["parents", "lengths"]) (T : Txt mg) (Fspans : FnAll P w K mg base "spans" 1 ["parents", "lengths"] (spSpans)) : FnAll P w K mg base "all_spans" 2 ["parents", "lengths"] (spAllS) := by
  refine F.ok (k := 1) scall_spans (fun vs H Q E h => ?_) (fun f cdv A outer s H vs Q E hr h => ?_)
  · obtain ⟨a, b, ps, ls, n, rfl, ha, hb, hT, hn0, hn, k⟩ := h
    rfl
  · obtain ⟨a, b, ps, ls, n, rfl, ha, hb, hT, hn0, hn, k⟩ := h
    have hu := hu16 hr
    have nd := scall_spans.nd
    have hu1 := hu_of hr
    refine ⟨_, (pss_cons (ps_set (i := 2) nd rfl (by first | exact Or.inl rfl | exact Or.inr rfl) pe_dnewK)
      (pss_cons (ps_for PassesOwn.never rfl (pi_list (pe_callF Fspans hr (pa_cons (pv 0) (pa_cons (pv 1) pa_nil)))) (pg_name (i := 3) nd rfl (by first | exact Or.inl rfl | exact Or.inr rfl)) (pss_one (ps_for PassesOwn.never rfl (pi_list (pv 3)) (pg_name (i := 4) nd rfl (by first | exact Or.inl rfl | exact Or.inr rfl)) (pss_one (ps_dput hu1 (pv 2) (pv 4) pe_bl rfl)))))
      (pss_one (ps_ret (pe_callB (call_sortD rfl) (by rfl) T.b_sorted boot_sorted (pa_cons (pv 2) pa_nil)))))), ?_⟩
    have est : start ["parents", "lengths", "found", "row", "span"] [.ref a, .ref b] = [some (.ref a), some (.ref b), none, none, none] := rfl
    rw [est]
    clear est
    repeat' (first | (with_reducible refine wp_dnewK ?_) | walk_at "st")
    intro fd ffd
    have s0 : Same H (upd H fd (.dK [])) := Same.upd ffd
    have h0 : upd H fd (.dK []) fd = some (.dK []) := upd_same
    generalize upd H fd (.dK []) = H0 at *
    repeat' (first | walk_at "st")
    refine ⟨a, b, ps, ls, n, rfl, s0 _ _ ha, s0 _ _ hb, hT, hn0, hn, fun D r rows H1 s1 h1 hrl hrow hD => ?_⟩
    have h1d := s1 _ _ h0
    have kf : ∀ {H'}, Fr [fd] H1 H' → ∀ c o, c ≠ fd → H1 c = some o → H' c = some o := fun FF c o hc h => FF c o (by rw [List.mem_singleton]; exact hc) h
    have rfd : r ≠ fd := fun z => by rw [z, h1d] at h1; cases h1
    refine ⟨r, rfl, ⟨_, sq_of h1⟩, ?_⟩
    refine loop_list (xs := rows) (fun i σ' H' => Fr [fd] H1 H' ∧ ∃ (kvs : List (Key × V)) (ks : List Int) (o3 o4 : Option V), H' fd = some (.dK kvs) ∧ kvs.map (·.1) = ks.map Sum.inl ∧ ks.Nodup ∧ ks.length ≤ 64 * i ∧ (∀ z, z ∈ ks ↔ ∃ x y, x < i ∧ y < n ∧ D x y = z) ∧ σ' = [some (.ref a), some (.ref b), some (.ref fd), o3, o4])
      ⟨Fr.refl, [], [], _, _, h1d, rfl, List.nodup_nil, Nat.zero_le _, (fun z => ⟨fun q => (by cases q), fun ⟨x, y, q, _⟩ => (by omega)⟩), rfl⟩ (fun i σ' H' _ h => sq_of (kf h.1 _ _ rfd h1)) ?_ ?_
    · rintro i x _ H2 hi ⟨FF, kvs, ks, o3, o4, hfd, hks, knd, kl, km, rfl⟩
      have hin : i < n := by have := (List.getElem?_eq_some_iff.mp hi).1; omega
      obtain ⟨ai, ei, hai⟩ := hrow i hin
      rw [ei] at hi
      cases hi
      have aifd : ai ≠ fd := fun z => by rw [z, h1d] at hai; cases hai
      have hai2 := kf FF _ _ aifd hai
      repeat' (first | walk_at "st")
      refine ⟨ai, rfl, ⟨_, sq_of hai2⟩, ?_⟩
      refine loop_list (xs := rowV D n i) (fun j σ' H' => Fr [fd] H2 H' ∧ ∃ (kv2 : List (Key × V)) (ks2 : List Int) (o4 : Option V), H' fd = some (.dK kv2) ∧ kv2.map (·.1) = ks2.map Sum.inl ∧ ks2.Nodup ∧ ks2.length ≤ ks.length + j ∧ (∀ z, z ∈ ks2 ↔ z ∈ ks ∨ ∃ y, y < j ∧ D i y = z) ∧ σ' = [some (.ref a), some (.ref b), some (.ref fd), some (.ref ai), o4])
        ⟨Fr.refl, kvs, ks, _, hfd, hks, knd, Nat.le_refl _, (fun z => ⟨fun q => .inl q, fun q => q.elim id fun ⟨y, q, _⟩ => (by omega)⟩), rfl⟩ (fun j σ' H' _ h => sq_of (h.1 _ _ (by rw [List.mem_singleton]; exact aifd) hai2)) ?_ ?_
      · rintro j x _ H3 hj ⟨F3, kv2, ks2, o4', h3, hk2, nd2, l2, m2, rfl⟩
        have hjn : j < n := by have := (List.getElem?_eq_some_iff.mp hj).1; rw [rowV_len] at this; exact this
        have ex := rowV_item hj
        subst ex
        have kvl : kv2.length = ks2.length := by have := congrArg List.length hk2; rw [List.length_map, List.length_map] at this; exact this
        repeat' (first | (with_reducible refine wp_dput ?_) | walk_at "st")
        refine ⟨fd, _, rfl, DPut.k (k := .inl (D i j)) h3 (by rw [sizeLine_eq]; omega), ?_⟩
        refine ⟨F3.trans (Fr.upd (by simp)), putK kv2 (.inl (D i j)) (.bl true), if D i j ∈ ks2 then ks2 else ks2 ++ [D i j], _, upd_same, put_keys hk2, ?_, ?_, fun z => ?_, rfl⟩
        · split
          · exact nd2
          · rename_i hn'
            exact List.nodup_append.mpr ⟨nd2, (by simp), fun x hx y hy => by rw [List.mem_singleton.mp hy]; exact fun q => hn' (q ▸ hx)⟩
        · split
          · omega
          · rw [List.length_append]; show ks2.length + 1 ≤ _; omega
        · have e1 : z ∈ (if D i j ∈ ks2 then ks2 else ks2 ++ [D i j]) ↔ z ∈ ks2 ∨ D i j = z := by
            split
            · rename_i hm
              exact ⟨.inl, fun q => q.elim id fun q => q ▸ hm⟩
            · rw [List.mem_append, List.mem_singleton]
              exact ⟨fun q => q.imp id Eq.symm, fun q => q.imp id Eq.symm⟩
          rw [e1, m2 z]
          constructor
          · rintro ((q | ⟨y, y1, y2⟩) | q)
            · exact .inl q
            · exact .inr ⟨y, by omega, y2⟩
            · exact .inr ⟨j, by omega, q⟩
          · rintro (q | ⟨y, y1, y2⟩)
            · exact .inl (.inl q)
            · by_cases e : y = j
              · subst e; exact .inr y2
              · exact .inl (.inr ⟨y, by omega, y2⟩)
      · rintro _ H3 ⟨F3, kv2, ks2, o4', h3, hk2, nd2, l2, m2, rfl⟩
        rw [rowV_len] at l2 m2
        refine ⟨FF.trans F3, kv2, ks2, _, _, h3, hk2, nd2, by omega, fun z => ?_, rfl⟩
        rw [m2 z, km z]
        constructor
        · rintro (⟨x, y, x1, y1, e⟩ | ⟨y, y1, e⟩)
          · exact ⟨x, y, by omega, y1, e⟩
          · exact ⟨i, y, by omega, y1, e⟩
        · rintro ⟨x, y, x1, y1, e⟩
          by_cases ex : x = i
          · subst ex; exact .inr ⟨y, y1, e⟩
          · exact .inl ⟨x, y, by omega, y1, e⟩
    · rintro _ H2 ⟨FF, kvs, ks, o3, o4, hfd, hks, knd, kl, km, rfl⟩
      rw [hrl] at kl km
      repeat' (first | walk_at "st")
      refine wp_sortD hfd hks knd (by omega) fun l ns' hp hs fl => ?_
      have s3 : Same H2 (upd H2 l (.lst (ns'.map V.int))) := Same.upd fl
      refine k D ns' l _ (fun x o h => ?_) upd_same hs (by rw [hp.length_eq]; omega) hD fun z => by rw [hp.mem_iff]; exact km z
      have xfd : x ≠ fd := ne_of_none h ffd
      exact s3 _ _ (kf FF x o xfd (s1 _ _ (s0 _ _ h)))
end
section
variable {P : Program} {w : World} {K : PySem.W.Frag} {mg : Str → Option Value} {base : Heap} {c : Cl}
theorem scleast_far : FnScope ["parents", "lengths", "sizes", "room", "steps", "low", "high", "middle"] ["parents", "lengths", "sizes", "room"] (defScope sleast_far) := ⟨rfl, rfl, rfl, by decide +kernel, rfl, by decide +kernel, by decide +kernel⟩
theorem okleast_far (F : Fn K mg "least_far" sleast_far ["parents", "lengths", "sizes", "room"]) (T : Txt mg) (Fall_spans : FnAll P w K mg base "all_spans" 2 ["parents", "lengths"] (spAllS)) (Fshares : FnAll P w K mg base "shares" 3 ["parents", "lengths", "sizes", "far"] (spSharesO)) : FnAll P w K mg base "least_far" 4 ["parents", "lengths", "sizes", "room"] (spLeast) := by
  refine F.ok (k := 3) scleast_far (fun vs H Q E h => ?_) (fun f cdv A outer s H vs Q E hr h => ?_)
  · obtain ⟨a, b, c, room, ps, ls, ss, n, rfl, ha, hb, hc, hT, hn0, hn, hTB, hmin, k⟩ := h
    rfl
  · obtain ⟨a, b, c, room, ps, ls, ss, n, rfl, ha, hb, hc, hT, hn0, hn, hTB, hmin, k⟩ := h
    have hu := hu16 hr
    have nd := scleast_far.nd
    refine ⟨_, (pss_cons (ps_set (i := 4) nd rfl (by first | exact Or.inl rfl | exact Or.inr rfl) (pe_callF Fall_spans hr (pa_cons (pv 0) (pa_cons (pv 1) pa_nil))))
      (pss_cons (ps_set (i := 5) nd rfl (by first | exact Or.inl rfl | exact Or.inr rfl) pe_int)
      (pss_cons (ps_set (i := 6) nd rfl (by first | exact Or.inl rfl | exact Or.inr rfl) (pe_op op_sub (pe_callB call_lenQ (by rfl) T.b_len PySem.boot_len (pa_cons (pv 4) pa_nil)) pe_int))
      (pss_cons (ps_while PassesOwn.never (pt_cmpR op_lt (pv 5) (pv 6) (nomark _)) (pss_cons (ps_set (i := 7) nd rfl (by first | exact Or.inl rfl | exact Or.inr rfl) (pe_op op_fdiv (pe_op op_add (pv 5) (pv 6)) pe_int))
      (pss_one (ps_if (pt_cmpR op_le (pe_callB (call_sumL rfl) (by rfl) T.b_sum PyProof.Rows.boot_sum (pa_cons (pe_callF Fshares hr (pa_cons (pv 0) (pa_cons (pv 1) (pa_cons (pv 2) (pa_cons (pe_ix (r := rIxL K) ix_list (pv 4) (pv 7) (fun _ _ => rfl)) pa_nil))))) pa_nil)) (pv 3) (nomark _)) (pss_one (ps_set (i := 6) nd rfl (by first | exact Or.inl rfl | exact Or.inr rfl) (pv 7))) (pss_one (ps_set (i := 5) nd rfl (by first | exact Or.inl rfl | exact Or.inr rfl) (pe_op op_add (pv 7) pe_int)))))))
      (pss_one (ps_ret (pe_ix (r := rIxL K) ix_list (pv 4) (pv 5) (fun _ _ => rfl)))))))), ?_⟩
    have est : start ["parents", "lengths", "sizes", "room", "steps", "low", "high", "middle"] [.ref a, .ref b, .ref c, .int room] = [some (.ref a), some (.ref b), some (.ref c), some (.int room), none, none, none, none] := rfl
    rw [est]
    clear est
    repeat' (first | walk_at "st")
    refine ⟨a, b, ps, ls, n, rfl, ha, hb, hT.t, hn0, by omega, fun D ns r H1 s1 h1 hso hle hD hmem => ?_⟩
    have hTr := hD.tr hT.t (fun j z h0 h => by have := hT.lp j z h0 h; omega)
    have hDn : ∀ i j, i < n → j < n → 0 ≤ D i j := fun i j hi hj => hTr.nn _ i j (Nat.lt_succ_self _) hi hj
    have hne : 0 < ns.length := List.length_pos_of_mem ((hmem 0).mpr ⟨0, 0, hn0, hn0, hD.zero 0 hn0⟩)
    have hlv : (ns.map V.int).length = ns.length := List.length_map ..
    have hnn : ∀ (i : Nat), i < ns.length → 0 ≤ ns.getD i 0 := fun i hi => by
      rw [List.getD_eq_getElem?_getD, List.getElem?_eq_getElem hi]
      obtain ⟨x, y, hx, hy, e⟩ := (hmem ns[i]).mp (List.getElem_mem _)
      show 0 ≤ ns[i]
      rw [← e]
      exact hDn x y hx hy
    have hmon : ∀ (i j : Nat), i ≤ j → j < ns.length → ns.getD i 0 ≤ ns.getD j 0 := fun i j hij hj => by
      rcases Nat.lt_or_ge i j with q | q
      · have := List.pairwise_iff_getElem.mp hso i j (by omega) hj q
        rw [List.getD_eq_getElem?_getD, List.getD_eq_getElem?_getD, List.getElem?_eq_getElem hj, List.getElem?_eq_getElem (by omega)]
        exact this
      · have : i = j := by omega
        subst this; exact Int.le_refl _
    have hidx : ∀ x y, x < n → y < n → ∃ i : Nat, i < ns.length ∧ ns.getD i 0 = D x y := fun x y hx hy => by
      obtain ⟨i, hi, e⟩ := List.mem_iff_getElem.mp ((hmem (D x y)).mpr ⟨x, y, hx, hy, rfl⟩)
      exact ⟨i, hi, by rw [List.getD_eq_getElem?_getD, List.getElem?_eq_getElem hi]; exact e⟩
    have nat : ∀ (i : Nat), i < ns.length → atI (ns.map V.int) (i : Int) = some (.int (ns.getD i 0)) := fun i hi => ints_at (by rw [List.getD_eq_getElem?_getD, List.getElem?_eq_getElem hi]; rfl)
    have cov0 : Cov D ss n room (ns.getD (ns.length - 1) 0) := by
      obtain ⟨u, hu1, hu2⟩ := hmin
      refine ⟨fun x => decide (x = u), fun v hv => ⟨u, hu1, decide_eq_true rfl, ?_⟩, ?_⟩
      · obtain ⟨i, hi, e⟩ := hidx u v hu1 hv
        rw [← e]
        exact hmon i _ (by omega) (by omega)
      · rw [Mm.sm_one (a := u) hu1 (fun i _ h => by simp [h])]
        simpa using hu2
    repeat' (first | ((with_reducible refine' wp_lenL ?ha ?_); (case ha => exact sq_of (by walk_at "ats"))) | walk_at "st")
    rw [hlv]
    have ehi : (ns.length : Int) - 1 = ((ns.length - 1 : Nat) : Int) := by omega
    rw [ehi]
    refine ⟨fun m σ' H' => ∃ (lo hi : Nat) (o7 : Option V), lo ≤ hi ∧ hi < ns.length ∧ m = hi - lo ∧ Same H1 H' ∧ Cov D ss n room (ns.getD hi 0) ∧ (lo = 0 ∨ Bad D ss n room (ns.getD (lo - 1) 0)) ∧ σ' = [some (.ref a), some (.ref b), some (.ref c), some (.int room), some (.ref r), some (.int (lo : Int)), some (.int (hi : Int)), o7], ⟨_, 0, ns.length - 1, _, Nat.zero_le _, by omega, rfl, Same.refl _, cov0, .inl rfl, rfl⟩, ?_⟩
    rintro m _ H2 ⟨lo, hi, o7, l1, l2, rfl, s2, cv, bd, rfl⟩
    have s02 := s1.trans s2
    have h2r := s2 _ _ h1
    repeat' (first | walk_at "st")
    · rename_i hlt
      refine ⟨fun σ' H' => ∃ m', m' < hi - lo ∧ ∃ (lo hi : Nat) (o7 : Option V), lo ≤ hi ∧ hi < ns.length ∧ m' = hi - lo ∧ Same H1 H' ∧ Cov D ss n room (ns.getD hi 0) ∧ (lo = 0 ∨ Bad D ss n room (ns.getD (lo - 1) 0)) ∧ σ' = [some (.ref a), some (.ref b), some (.ref c), some (.int room), some (.ref r), some (.int (lo : Int)), some (.int (hi : Int)), o7], fun _ _ h => h, ?_⟩
      obtain ⟨mi, emi⟩ : ∃ mi : Nat, mi = (lo + hi) / 2 := ⟨_, rfl⟩
      have emi2 : ((lo : Int) + (hi : Int)) / 2 = (mi : Int) := by omega
      have tm : atI (ns.map V.int) (((lo : Int) + (hi : Int)) / 2) = some (.int (ns.getD mi 0)) := by rw [emi2]; exact nat mi (by omega)
      repeat' (first | ((with_reducible refine' wp_ixL ?ha ?hv ?_); (case ha => exact sq_of (by walk_at "ats")); (case hv => first | assumption | exact rfl)) | walk_at "st")
      refine ⟨a, b, c, _, ps, ls, ss, n, rfl, s02 _ _ ha, s02 _ _ hb, s02 _ _ hc, hT, hn0, hn, hnn mi (by omega), hTB.same s02, fun ys q H3 s3 h3 hyl hyn hsh => ?_⟩
      obtain ⟨hfe, C, c1, c2⟩ := hsh D hD
      have s13 := s2.trans s3
      repeat' (first | walk_at "st")
      refine wp_sumL (sq_of h3) ?_
      repeat' (first | walk_at "st")
      · rename_i hle2
        exact ⟨mi - lo, by omega, lo, mi, some (.int (mi : Int)), by omega, by omega, rfl, s13, ⟨C, c1, by omega⟩, bd, by rw [emi2]; rfl⟩
      · rename_i hle2
        refine ⟨hi - (mi + 1), by omega, mi + 1, hi, some (.int (mi : Int)), by omega, by omega, rfl, s13, cv, .inr ⟨fun v => ys.getD v 0, fun v hv => ?_, hfe, ?_⟩, by rw [emi2]; rfl⟩
        · show 0 ≤ ys.getD v 0
          rw [List.getD_eq_getElem?_getD, List.getElem?_eq_getElem (by omega)]
          exact hyn _ (List.getElem_mem _)
        · have := ys_smP ys
          rw [hyl] at this
          rw [← this]
          omega
    · rename_i hlt
      have e : hi = lo := by omega
      subst e
      have tl := nat hi l2
      repeat' (first | ((with_reducible refine' wp_ixL ?ha ?hv ?_); (case ha => exact sq_of (by walk_at "ats")); (case hv => first | assumption | exact rfl)) | walk_at "st")
      refine k _ H2 s02 (hnn hi l2) fun F hF => ?_
      have eq : ∀ i j, i < n → j < n → F i j = D i j := fun i j h1 h2 => IsDist.uniq hT.t hF hD _ i j (Nat.lt_succ_self _) h1 h2
      refine ⟨cv.congr eq, fun hf => ?_⟩
      rcases bd with bd | bd
      · subst bd
        exfalso
        apply hf
        obtain ⟨i, hi, e⟩ := hidx 0 0 hn0 hn0
        rw [hD.zero 0 hn0] at e
        have h1 := hmon 0 i (Nat.zero_le _) hi
        have h2 := hnn 0 l2
        omega
      · by_cases h0 : hi = 0
        · subst h0
          exfalso
          apply hf
          obtain ⟨i, hi, e⟩ := hidx 0 0 hn0 hn0
          rw [hD.zero 0 hn0] at e
          have h1 := hmon 0 i (Nat.zero_le _) hi
          have h2 := hnn 0 l2
          omega
        · by_cases hs : ns.getD (hi - 1) 0 = ns.getD hi 0
          · rw [hs] at bd
            exact (bd.none cv (Int.le_refl _) (Int.le_refl _)).elim
          · have hlt2 : ns.getD (hi - 1) 0 < ns.getD hi 0 := by have := hmon (hi - 1) hi (by omega) l2; omega
            refine bd.congr fun i j h1 h2 => ?_
            rw [eq i j h1 h2]
            obtain ⟨x, hx, e⟩ := hidx i j h1 h2
            rw [← e]
            constructor
            · intro q
              rcases Nat.lt_or_ge x hi with z | z
              · exact hmon x (hi - 1) (by omega) (by omega)
              · have := hmon hi x z hx
                omega
            · intro q
              omega
end
section
variable {P : Program} {w : World} {K : PySem.W.Frag} {mg : Str → Option Value} {base : Heap} {e : Ek}
theorem scplan : FnScope ["parents", "lengths", "sizes", "room", "far", "stands"] ["parents", "lengths", "sizes", "room"] (defScope splan) := ⟨rfl, rfl, rfl, by decide +kernel, rfl, by decide +kernel, by decide +kernel⟩
theorem okplan (F : Fn K mg "plan" splan ["parents", "lengths", "sizes", "room"]) (T : Txt mg) (TE : TxE K mg e) (Fleast_far : FnAll P w K mg base "least_far" 4 ["parents", "lengths", "sizes", "room"] (spLeast)) (Fcover : FnAll P w K mg base "cover" 3 ["parents", "lengths", "sizes", "far"] (spCover)) (Fshares : FnAll P w K mg base "shares" 3 ["parents", "lengths", "sizes", "far"] (spSharesO)) : FnAllE P w K mg base "plan" 5 ["parents", "lengths", "sizes", "room"] (spPlan e) := by
  refine F.okE (k := 4) scplan (fun vs H Q E h => ?_) (fun f cdv A outer s H vs Q E hr h => ?_)
  · obtain ⟨a, b, c, room, ps, ls, ss, n, rfl, ha, hb, hc, hT, hn0, hn, hTB, hbad, k⟩ := h
    rfl
  · obtain ⟨a, b, c, room, ps, ls, ss, n, rfl, ha, hb, hc, hT, hn0, hn, hTB, hbad, k⟩ := h
    have hu := hu16 hr
    have nd := scplan.nd
    refine ⟨_, (pss_cons (ps_if (pt_cmpR op_gt (pe_callB (call_minL rfl) (by rfl) T.b_min PyProof.Rows.boot_min (pa_cons (pv 2) pa_nil)) (pv 3) (nomark _)) (pss_one (ps_raise TE.xcNoRoom hr TE.mNoRoom (pa_cons pe_str pa_nil))) pss_nil)
      (pss_cons (ps_set (i := 4) nd rfl (by first | exact Or.inl rfl | exact Or.inr rfl) (pe_callF Fleast_far hr (pa_cons (pv 0) (pa_cons (pv 1) (pa_cons (pv 2) (pa_cons (pv 3) pa_nil))))))
      (pss_cons (ps_set (i := 5) nd rfl (by first | exact Or.inl rfl | exact Or.inr rfl) (pe_callF Fcover hr (pa_cons (pv 0) (pa_cons (pv 1) (pa_cons (pv 2) (pa_cons (pv 4) pa_nil))))))
      (pss_cons (ps_if (pt_cmpR op_eq (pv 4) pe_int (nomark _)) (pss_one (ps_ret (pe_tup (pa_cons (pv 4) (pa_cons (pv 5) (pa_cons (pe_lst pa_nil) pa_nil)))))) pss_nil)
      (pss_one (ps_ret (pe_tup (pa_cons (pv 4) (pa_cons (pv 5) (pa_cons (pe_callF Fshares hr (pa_cons (pv 0) (pa_cons (pv 1) (pa_cons (pv 2) (pa_cons (pe_op op_sub (pv 4) pe_int) pa_nil))))) pa_nil)))))))))), ?_⟩
    have est : start ["parents", "lengths", "sizes", "room", "far", "stands"] [.ref a, .ref b, .ref c, .int room] = [some (.ref a), some (.ref b), some (.ref c), some (.int room), none, none] := rfl
    rw [est]
    clear est
    have hsl : ss.length = n := hT.sl
    have zmem : ∀ u, u < n → ss.getD u 0 ∈ ss := fun u hu => by rw [List.getD_eq_getElem?_getD, List.getElem?_eq_getElem (by omega)]; exact List.getElem_mem _
    have memz : ∀ m, m ∈ ss → ∃ u, u < n ∧ ss.getD u 0 = m := fun m hm => by
      obtain ⟨i, hi, e⟩ := List.mem_iff_getElem.mp hm
      exact ⟨i, by omega, by rw [List.getD_eq_getElem?_getD, List.getElem?_eq_getElem hi]; exact e⟩
    obtain ⟨D0, hD00, hD01⟩ := dist_ex hT.t n (Nat.le_refl _)
    have hD0 : IsDist D0 ps ls n := ⟨hD00, hD01⟩
    repeat' (first | walk_at "st")
    refine wp_minL (ns := ss) (by intro e; rw [e] at hsl; simp at hsl; omega) (sq_of hc) fun m hm hml => ?_
    repeat' (first | (with_reducible refine wp_raise ?_) | walk_at "st")
    · rename_i hgt
      exact ⟨by rw [sizeLine_eq]; show 1 ≤ _; omega, hbad fun x hx => by have := hml x hx; omega⟩
    rename_i hgt
    have hmin : ∃ m ∈ ss, m ≤ room := ⟨m, hm, by omega⟩
    have hminu : ∃ u, u < n ∧ ss.getD u 0 ≤ room := by
      obtain ⟨u, hu1, hu2⟩ := memz m hm
      exact ⟨u, hu1, by omega⟩
    refine ⟨a, b, c, room, ps, ls, ss, n, rfl, ha, hb, hc, hT, hn0, hn, hTB, hminu, fun far H1 s1 hf hbest => ?_⟩
    repeat' (first | walk_at "st")
    refine ⟨a, b, c, far, ps, ls, ss, n, rfl, s1 _ _ ha, s1 _ _ hb, s1 _ _ hc, hT, hn0, hn, hf, hTB.same s1, fun cs st H2 s2 h2 hri hcn hcl hcov => ?_⟩
    have s02 := s1.trans s2
    have hcost : cost ss cs ≤ room := by
      obtain ⟨_, y, y0, yf, ys⟩ := hcov D0 hD0
      obtain ⟨C, c1, c2⟩ := (hbest D0 hD0).1
      have := Mm.weak (C := C) (s := fun u => ss.getD u 0) (y := y) (D := D0) (f := far) (n := n) y0 yf c1
      omega
    repeat' (first | walk_at "st")
    · refine wp_lstF (by show 0 ≤ 1000; decide) fun sh H3 s3 h3 _ => ?_
      repeat' (first | walk_at "st")
      refine tupK_new (by show 3 ≤ 1000; decide) fun t H4 s4 h4 => ?_
      exact k t far st sh cs [] H4 hmin ((s02.trans s3).trans s4) h4 (s4 _ _ (s3 _ _ h2)) (s4 _ _ h3) hf hri hcn hcl hcost (fun _ => rfl) (fun z => absurd (by assumption) z) fun F hF => ⟨(hcov F hF).1, fun z => absurd (by assumption) z⟩
    · rename_i hf0
      refine ⟨a, b, c, far - 1, ps, ls, ss, n, rfl, s02 _ _ ha, s02 _ _ hb, s02 _ _ hc, hT, hn0, hn, by omega, hTB.same s02, fun ys sh H3 s3 h3 hyl hyn hsh => ?_⟩
      have hsum : room < ys.sum := by
        obtain ⟨_, C, c1, c2⟩ := hsh D0 hD0
        obtain ⟨y, y0, yf, yr⟩ := (hbest D0 hD0).2 hf0
        have := Mm.weak (C := C) (s := fun u => ss.getD u 0) (y := y) (D := D0) (f := far - 1) (n := n) y0 yf c1
        omega
      repeat' (first | walk_at "st")
      refine tupK_new (by show 3 ≤ 1000; decide) fun t H4 s4 h4 => ?_
      exact k t far st sh cs ys H4 hmin ((s02.trans s3).trans s4) h4 (s4 _ _ (s3 _ _ h2)) (s4 _ _ h3) hf hri hcn hcl hcost (fun z => absurd z hf0) (fun _ => ⟨hyl, hyn, hsum⟩) fun F hF => ⟨(hcov F hF).1, fun _ => (hsh F hF).1⟩
end
theorem sum_nn : ∀ {ss : List Int}, (∀ z ∈ ss, 1 ≤ z) → 0 ≤ ss.sum
  | [], _ => Int.le_refl _
  | x :: ss, h => by
    have := sum_nn (ss := ss) fun z hz => h z (.tail _ hz)
    have := h x (.head _)
    rw [List.sum_cons]
    omega
theorem sum_ge : ∀ {ss : List Int} {m : Int}, (∀ z ∈ ss, 1 ≤ z) → m ∈ ss → m ≤ ss.sum
  | x :: ss, m, h, hm => by
    have h1 := sum_nn (ss := ss) fun z hz => h z (.tail _ hz)
    have h2 := h x (.head _)
    rw [List.sum_cons]
    rcases List.mem_cons.mp hm with e | hm
    · omega
    · have := sum_ge (fun z hz => h z (.tail _ hz)) hm
      omega
theorem wp_isiTu {H : Hp} {Q : VK} {K : PySem.W.Frag} {a : Addr} {xs : List V} (ha : H a = some (.tup xs)) (hk : PySem.W.kitOne K (.type "tuple") (.type "tuple") = some true) (h : Q (.bl true) H) : rIsi K [.ref a, .ty "tuple"] H Q := ⟨_, _, _, _, true, rfl, .tup ha, rfl, hk, h⟩
theorem use_is {m n : Int} {H : Hp} {Q : VK} {E : XK} (h : Q (.bl (decide (n ≤ m))) H) : spIs [.int m, .int n] H Q E := ⟨m, n, rfl, h⟩
noncomputable def spRoom : Sp := fun vs H Q _ => ∃ (lz : Addr) (ss : List Int) (c : Int), vs = [.ref lz, .int c] ∧ H lz = some (.lst (ss.map V.int)) ∧ ss ≠ [] ∧ (∀ z ∈ ss, 1 ≤ z) ∧ ∀ z, Q (.int z) H
noncomputable def spCovers : Sp := fun vs H Q _ => ∃ (r st : Addr) (far : Int) (rows : List V) (D : Nat → Nat → Int) (n : Nat) (cs : List Nat), vs = [.ref r, .ref st, .int far] ∧ H r = some (.lst rows) ∧ rows.length = n ∧ n ≤ 64 ∧ (∀ i : Nat, i < n → ∃ ai, rows[i]? = some (.ref ai) ∧ H ai = some (.lst (rowV D n i))) ∧ H st = some (.lst (nV cs)) ∧ Rising cs ∧ (∀ u ∈ cs, u < n) ∧ cs.length ≤ n ∧ (∀ v, v < n → ∃ u, u ∈ cs ∧ D v u ≤ far) ∧ ∀ H', Same H H' → Q (.bl true) H'
noncomputable def spSharesL : Sp := fun vs H Q _ => ∃ (r lz sh : Addr) (far : Int) (rows : List V) (D : Nat → Nat → Int) (n : Nat) (ss ys : List Int), vs = [.ref r, .ref lz, .ref sh, .int far] ∧ H r = some (.lst rows) ∧ rows.length = n ∧ n ≤ 64 ∧ (∀ i : Nat, i < n → ∃ ai, rows[i]? = some (.ref ai) ∧ H ai = some (.lst (rowV D n i))) ∧ H lz = some (.lst (ss.map V.int)) ∧ ss.length = n ∧ H sh = some (.lst (ys.map V.int)) ∧ ys.length = n ∧ (∀ y ∈ ys, 0 ≤ y) ∧ (∀ u, u < n → paid D (far - 1) ys n u ≤ ss.getD u 0) ∧ ∀ H', Same H H' → Q (.bl true) H'
noncomputable def spNoRoom : Sp := fun vs H Q _ => ∃ (a b c : Addr) (room : Int) (ps : List (Option Nat)) (ls ss : List Int) (n : Nat), vs = [.ref a, .ref b, .ref c, .int room] ∧ H a = some (.lst (ps.map optV)) ∧ H b = some (.lst (ls.map V.int)) ∧ H c = some (.lst (ss.map V.int)) ∧ TreeS ps ls ss n ∧ 0 < n ∧ n < 64 ∧ TB H ∧ (∀ m ∈ ss, room < m) ∧ ∀ H', Same H H' → Q (.bl true) H'
section
variable {P : Program} {w : World} {K : PySem.W.Frag} {mg : Str → Option Value} {base : Heap} {c : Cl}
theorem sc_law_room : FnScope ["_law_sizes", "_law_cell", "_law_least"] ["_law_sizes", "_law_cell"] (defScope s_law_room) := ⟨rfl, rfl, rfl, by decide +kernel, rfl, by decide +kernel, by decide +kernel⟩
theorem ok_law_room (F : Fn K mg "_law_room" s_law_room ["_law_sizes", "_law_cell"]) (T : Txt mg)  : FnAll P w K mg base "_law_room" 1 ["_law_sizes", "_law_cell"] (spRoom) := by
  refine F.ok (k := 0) sc_law_room (fun vs H Q E h => ?_) (fun f cdv A outer s H vs Q E hr h => ?_)
  · obtain ⟨lz, ss, c, rfl, hz, hne, hsp, k⟩ := h
    rfl
  · obtain ⟨lz, ss, c, rfl, hz, hne, hsp, k⟩ := h
    have hu := hu16 hr
    have nd := sc_law_room.nd
    refine ⟨_, (pss_cons (ps_set (i := 2) nd rfl (by first | exact Or.inl rfl | exact Or.inr rfl) (pe_callB (call_minL rfl) (by rfl) T.b_min PyProof.Rows.boot_min (pa_cons (pv 0) pa_nil)))
      (pss_cons (ps_if (pt_cmpR op_eq (pe_op op_mod (pv 1) pe_int) pe_int (nomark _)) (pss_one (ps_ret (pe_op op_sub (pe_op op_sub (pv 2) pe_int) (pe_op op_mod (pe_op op_fdiv (pv 1) pe_int) pe_int)))) pss_nil)
      (pss_cons (ps_if (pt_cmpR op_eq (pe_op op_mod (pv 1) pe_int) pe_int (nomark _)) (pss_one (ps_ret (pe_op op_add (pv 2) (pe_op op_mod (pe_op op_fdiv (pv 1) pe_int) (pe_op op_add (pe_op op_sub (pe_callB (call_sumL rfl) (by rfl) T.b_sum PyProof.Rows.boot_sum (pa_cons (pv 0) pa_nil)) (pv 2)) pe_int))))) pss_nil)
      (pss_one (ps_ret (pe_op op_add (pv 2) (pe_op op_mod (pe_op op_fdiv (pv 1) pe_int) (pe_op op_add (pe_op op_mul pe_int (pv 2)) pe_int)))))))), ?_⟩
    have est : start ["_law_sizes", "_law_cell", "_law_least"] [.ref lz, .int c] = [some (.ref lz), some (.int c), none] := rfl
    rw [est]
    clear est
    repeat' (first | walk_at "st")
    refine wp_minL (ns := ss) hne (sq_of hz) fun m hm hml => ?_
    have h1 := hsp m hm
    have h2 := sum_ge hsp hm
    repeat' (first | walk_at "st")
    · exact k _
    · refine wp_sumL (ns := ss) (sq_of hz) ?_
      repeat' (first | walk_at "st")
      exact k _
    · exact k _
theorem sc_law_covers : FnScope ["_law_span", "_law_stands", "_law_far", "_law_k", "_law_stand", "_law_mine"] ["_law_span", "_law_stands", "_law_far"] (defScope s_law_covers) := ⟨rfl, rfl, rfl, by decide +kernel, rfl, by decide +kernel, by decide +kernel⟩
theorem ok_law_covers (F : Fn K mg "_law_covers" s_law_covers ["_law_span", "_law_stands", "_law_far"]) (T : Txt mg) (F_law_is : FnAll P w K mg base "_law_is" 1 ["_law_found", "_law_low"] (spIs)) : FnAll P w K mg base "_law_covers" 2 ["_law_span", "_law_stands", "_law_far"] (spCovers) := by
  refine F.ok (k := 1) sc_law_covers (fun vs H Q E h => ?_) (fun f cdv A outer s H vs Q E hr h => ?_)
  · obtain ⟨r, st, far, rows, D, n, cs, rfl, hr0, hrl, hn, hrow, hst, hri, hcn, hcl, hcov, k⟩ := h
    rfl
  · obtain ⟨r, st, far, rows, D, n, cs, rfl, hr0, hrl, hn, hrow, hst, hri, hcn, hcl, hcov, k⟩ := h
    have hu := hu16 hr
    have nd := sc_law_covers.nd
    refine ⟨_, (pss_cons (ps_if (pt_not (pt_val (pe_callB call_isinst (by rfl) T.b_isinstance boot_isinstance (pa_cons (pv 1) (pa_cons (pe_bltn (v := .ty "list") rfl T.b_list PyProof.Rows.boot_list rfl) pa_nil))))) (pss_one (ps_ret pe_bl)) pss_nil)
      (pss_cons (ps_for PassesOwn.never rfl (pi_enum rfl T.b_enumerate (pa_cons (pv 1) pa_nil) PyProof.Rows.boot_enumerate) (pg_tup rfl (pgs_cons (pg_name (i := 3) nd rfl (by first | exact Or.inl rfl | exact Or.inr rfl)) (pgs_cons (pg_name (i := 4) nd rfl (by first | exact Or.inl rfl | exact Or.inr rfl)) pgs_nil))) (pss_one (ps_if (PW.pt (pw_or (pt_not (pt_val (pe_callF F_law_is hr (pa_cons (pv 4) (pa_cons pe_int pa_nil))))) (pw_or (pt_cmpR op_ge (pv 4) (pe_callB call_lenQ (by rfl) T.b_len PySem.boot_len (pa_cons (pv 0) pa_nil)) (nomark _)) (pw_or1 (PW.pt (pw_and (pt_cmpR op_gt (pv 3) pe_int (nomark _)) (pw_and1 (pt_cmpR op_le (pv 4) (pe_ix (r := rIxL K) ix_list (pv 1) (pe_op op_sub (pv 3) pe_int) (fun _ _ => rfl)) (nomark _))))))))) (pss_one (ps_ret pe_bl)) pss_nil)))
      (pss_cons (ps_for PassesOwn.never rfl (pi_list (pv 0)) (pg_name (i := 5) nd rfl (by first | exact Or.inl rfl | exact Or.inr rfl)) (pss_one (ps_if (pt_cmpR (op_eqG hu) (pe_comp (compScopeC (caps := [("_law_far", 2), ("_law_mine", 5)]) rfl rfl (by decide +kernel) (by decide +kernel) rfl (sub2 rfl rfl) rfl (fun k y j h => match k, h with | 0, h => by cases h; exact ⟨rfl, by first | exact Or.inl rfl | exact Or.inr (by first | exact Or.inl rfl | exact Or.inr rfl) | exact Or.inr (Or.inr rfl), by first | exact .inl rfl | exact .inr rfl, by first | exact .inl rfl | exact .inr rfl⟩ | 1, h => by cases h; exact ⟨rfl, by first | exact Or.inl rfl | exact Or.inr (by first | exact Or.inl rfl | exact Or.inr rfl) | exact Or.inr (Or.inr rfl), by first | exact .inl rfl | exact .inr rfl, by first | exact .inl rfl | exact .inr rfl⟩ | k + 2, h => by cases h) (by decide +kernel)) rfl (pi_list (pv 1)) (fun _ _ _ _ => (pif_one (pt_cmpR op_le (pe_ix (r := rIxL K) ix_list (pv 2) (pv 0) (fun _ _ => rfl)) (pv 1) (nomark _)))) (fun _ _ _ _ => (pv 0))) (pe_lst pa_nil) (nomark _)) (pss_one (ps_ret pe_bl)) pss_nil)))
      (pss_one (ps_ret pe_bl))))), ?_⟩
    have est : start ["_law_span", "_law_stands", "_law_far", "_law_k", "_law_stand", "_law_mine"] [.ref r, .ref st, .int far] = [some (.ref r), some (.ref st), some (.int far), none, none, none] := rfl
    rw [est]
    clear est
    repeat' (first | ((with_reducible refine' wp_isiL ?ha ?hk ?_); (case ha => walk_at "ats"); (case hk => rfl)) | (with_reducible refine wp_enum ?_) | walk_at "st")
    refine ⟨st, rfl, ⟨_, sq_of hst⟩, ?_⟩
    refine loop_enum (xs := nV cs) (fun i σ' H' => Same H H' ∧ ∃ o3 o4 o5, σ' = [some (.ref r), some (.ref st), some (.int far), o3, o4, o5]) ⟨Same.refl _, _, _, _, rfl⟩ (fun i σ' H' _ h => sq_of (h.1 _ _ hst)) ?_ ?_
    · rintro i x _ H1 p0 hi ⟨s1, o3, o4, o5, rfl⟩ hp0
      obtain ⟨u, hu', rfl⟩ := nV_at hi
      have huc := hcn u (List.mem_of_getElem? hu')
      have s2 : Same H1 (upd H1 p0 (.tup [.int i, .int u])) := Same.upd hp0
      have h2 : upd H1 p0 (HO.tup [.int i, .int u]) p0 = some (.tup [.int i, .int u]) := upd_same
      generalize upd H1 p0 (HO.tup [.int i, .int u]) = H2 at *
      have s02 := s1.trans s2
      have h2r := s02 _ _ hr0
      have h2s := s02 _ _ hst
      refine ⟨p0, _, rfl, .inl (.inl h2), rfl, _, _, rfl, ?_⟩
      repeat' (first | walk_at "st")
      refine ⟨_, _, rfl, ?_⟩
      repeat' (first | walk_at "st")
      refine ⟨rfl, ?_⟩
      have hln : (rows.length : Int) = (n : Int) := by omega
      by_cases hi0 : i = 0
      · subst hi0
        repeat' (first | ((with_reducible refine' wp_lenL ?ha ?_); (case ha => exact sq_of (by walk_at "ats"))) | (with_reducible refine use_is ?_) | walk_at "st")
        all_goals exact ⟨s02, _, _, _, rfl⟩
      · have hl := (List.getElem?_eq_some_iff.mp hu').1
        have hpv : cs[i - 1]? = some (cs[i - 1]'(by omega)) := List.getElem?_eq_getElem _
        have hlt2 := hri (i - 1) i _ _ (by omega) hpv hu'
        have tp : atI (nV cs) ((i : Int) - 1) = some (.int ((cs[i - 1]'(by omega) : Nat) : Int)) := by
          have e : ((i : Int) - 1) = ((i - 1 : Nat) : Int) := by omega
          rw [e]
          exact atI_nat (by unfold nV; rw [List.getElem?_map, hpv]; rfl)
        repeat' (first | ((with_reducible refine' wp_lenL ?ha ?_); (case ha => exact sq_of (by walk_at "ats"))) | (with_reducible refine use_is ?_) | ((with_reducible refine' wp_ixL ?ha ?hv ?_); (case ha => exact sq_of (by walk_at "ats")); (case hv => first | assumption | exact rfl)) | walk_at "st")
        all_goals exact ⟨s02, _, _, _, rfl⟩
    · rintro _ H1 ⟨s1, o3, o4, o5, rfl⟩
      repeat' (first | walk_at "st")
      refine ⟨r, rfl, ⟨_, sq_of (s1 _ _ hr0)⟩, ?_⟩
      refine loop_list (xs := rows) (fun i σ' H' => Same H1 H' ∧ ∃ o5, σ' = [some (.ref r), some (.ref st), some (.int far), o3, o4, o5]) ⟨Same.refl _, _, rfl⟩ (fun i σ' H' _ h => sq_of (h.1 _ _ (s1 _ _ hr0))) ?_ ?_
      · rintro v x _ H2 hi ⟨s2, o5', rfl⟩
        have hvn : v < n := by have := (List.getElem?_eq_some_iff.mp hi).1; omega
        obtain ⟨av, ev, hav⟩ := hrow v hvn
        rw [ev] at hi
        cases hi
        have s02 := s1.trans s2
        have hav2 := s02 _ _ hav
        have hst2 := s02 _ _ hst
        repeat' (first | walk_at "st")
        refine ⟨[.int far, .ref av], rfl, fun k y j h => ?_, ?_⟩
        · match k, h with
          | 0, h => cases h; exact ⟨_, rfl, rfl⟩
          | 1, h => cases h; exact ⟨_, rfl, rfl⟩
          | k + 2, h => cases h
        repeat' (first | walk_at "st")
        refine ⟨st, rfl, ⟨_, sq_of hst2⟩, ?_⟩
        refine comp_list (xs := nV cs) (by rw [nV_len]; omega) (fun Dd j acc H' => Same H2 H' ∧ H' Dd = some (.lst acc) ∧ acc.length ≤ j ∧ acc = nV ((cs.take j).filter fun u => decide (D v u ≤ far))) (fun Dd hD => ⟨Same.upd hD, upd_same, Nat.le_refl _, rfl⟩)
          (fun Dd j acc H' hD hj h => ⟨h.2.1, h.2.2.1, sq_of (h.1 _ _ hst2)⟩) ?_ ?_
        · intro Dd j x acc H' NN hD hx hlt hN hP
          obtain ⟨hs, hd, hal, eacc⟩ := hP
          obtain ⟨u, hu', rfl⟩ := nV_at hx
          have hun := hcn u (List.mem_of_getElem? hu')
          have hav5 := hs _ _ hav2
          have tu : atI (rowV D n v) (u : Int) = some (.int (D v u)) := rowV_at hun
          have etk : cs.take (j + 1) = cs.take j ++ [u] := by rw [List.take_add_one, hu']; rfl
          repeat' (first | ((with_reducible refine' wp_ixL ?ha ?hv ?_); (case ha => exact sq_of (by walk_at "ats")); (case hv => first | assumption | exact rfl)) | walk_at "st")
          · rename_i hle
            refine ⟨hd, hlt, hN _ _ ⟨fun b' o' e' => ?_, upd_same, (by rw [List.length_append]; show acc.length + 1 ≤ _; omega), ?_⟩⟩
            · rw [upd_ne (ne_of_none e' hD)]; exact hs b' o' e'
            · rw [etk, List.filter_append, List.filter_cons, if_pos (decide_eq_true hle), List.filter_nil, eacc]
              unfold nV
              rw [List.map_append]; rfl
          · rename_i hle
            refine hN _ _ ⟨hs, hd, by omega, ?_⟩
            rw [etk, List.filter_append, List.filter_cons, if_neg (fun z => hle (of_decide_eq_true z)), List.filter_nil, List.append_nil, eacc]
        intro am acc H3 fam hP
        obtain ⟨s3, h3, _, eacc⟩ := hP
        rw [nV_len, List.take_length] at eacc
        repeat' (first | walk_at "st")
        refine wp_lstF (by show 0 ≤ 1000; decide) fun q4 H4 s4 h4 _ => ?_
        refine wp_eqNil (sq_of (s4 _ _ h3)) (sq_of h4) ?_
        refine ⟨_, rfl, ?_⟩
        have hne : ¬ acc = [] := fun e => by
          obtain ⟨u, hu1, hu2⟩ := hcov v hvn
          have hm : u ∈ cs.filter fun u => decide (D v u ≤ far) := List.mem_filter.mpr ⟨hu1, decide_eq_true hu2⟩
          have := congrArg List.length eacc
          rw [e, nV_len] at this
          have h0 := List.length_pos_of_mem hm
          simp at this
          omega
        rw [decide_eq_false hne, if_neg (by decide)]
        repeat' (first | walk_at "st")
        exact ⟨(s2.trans s3).trans s4, _, rfl⟩
      · rintro _ H2 ⟨s2, o5', rfl⟩
        repeat' (first | walk_at "st")
        exact k _ (s1.trans s2)
theorem sc_law_shares : FnScope ["_law_span", "_law_sizes", "_law_given", "_law_far", "_law_share", "_law_stand", "_law_mine"] ["_law_span", "_law_sizes", "_law_given", "_law_far"] (defScope s_law_shares) := ⟨rfl, rfl, rfl, by decide +kernel, rfl, by decide +kernel, by decide +kernel⟩
theorem ok_law_shares (F : Fn K mg "_law_shares" s_law_shares ["_law_span", "_law_sizes", "_law_given", "_law_far"]) (T : Txt mg) (F_law_is : FnAll P w K mg base "_law_is" 1 ["_law_found", "_law_low"] (spIs)) : FnAll P w K mg base "_law_shares" 2 ["_law_span", "_law_sizes", "_law_given", "_law_far"] (spSharesL) := by
  refine F.ok (k := 1) sc_law_shares (fun vs H Q E h => ?_) (fun f cdv A outer s H vs Q E hr h => ?_)
  · obtain ⟨r, lz, sh, far, rows, D, n, ss, ys, rfl, hr0, hrl, hn, hrow, hz, hzl, hsh, hyl, hyn, hfe, k⟩ := h
    rfl
  · obtain ⟨r, lz, sh, far, rows, D, n, ss, ys, rfl, hr0, hrl, hn, hrow, hz, hzl, hsh, hyl, hyn, hfe, k⟩ := h
    have hu := hu16 hr
    have nd := sc_law_shares.nd
    refine ⟨_, (pss_cons (ps_if (PW.pt (pw_or (pt_not (pt_val (pe_callB call_isinst (by rfl) T.b_isinstance boot_isinstance (pa_cons (pv 2) (pa_cons (pe_bltn (v := .ty "list") rfl T.b_list PyProof.Rows.boot_list rfl) pa_nil))))) (pw_or1 (pt_cmpR op_ne (pe_callB call_lenQ (by rfl) T.b_len PySem.boot_len (pa_cons (pv 2) pa_nil)) (pe_callB call_lenQ (by rfl) T.b_len PySem.boot_len (pa_cons (pv 0) pa_nil)) (nomark _))))) (pss_one (ps_ret pe_bl)) pss_nil)
      (pss_cons (ps_for PassesOwn.never rfl (pi_list (pv 2)) (pg_name (i := 4) nd rfl (by first | exact Or.inl rfl | exact Or.inr rfl)) (pss_one (ps_if (pt_not (pt_val (pe_callF F_law_is hr (pa_cons (pv 4) (pa_cons pe_int pa_nil))))) (pss_one (ps_ret pe_bl)) pss_nil)))
      (pss_cons (ps_for PassesOwn.never rfl (pi_enum rfl T.b_enumerate (pa_cons (pv 0) pa_nil) PyProof.Rows.boot_enumerate) (pg_tup rfl (pgs_cons (pg_name (i := 5) nd rfl (by first | exact Or.inl rfl | exact Or.inr rfl)) (pgs_cons (pg_name (i := 6) nd rfl (by first | exact Or.inl rfl | exact Or.inr rfl)) pgs_nil))) (pss_one (ps_if (pt_cmpR op_gt (pe_callB (call_sumL rfl) (by rfl) T.b_sum PyProof.Rows.boot_sum (pa_cons (pe_comp2 (compScopeC2 (caps := [("_law_far", 3)]) rfl rfl (by decide +kernel) (by decide +kernel) rfl rfl (sub1 rfl) rfl (fun k y j h => match k, h with | 0, h => by cases h; exact ⟨rfl, by first | exact Or.inl rfl | exact Or.inr (by first | exact Or.inl rfl | exact Or.inr rfl) | exact Or.inr (Or.inr rfl), by first | exact .inl rfl | exact .inr rfl, by first | exact .inl rfl | exact .inr rfl⟩ | k + 1, h => by cases h) (by decide +kernel)) rfl (pi_zip rfl T.b_zip (pa_cons (pv 2) (pa_cons (pv 6) pa_nil)) PyProof.Rows.boot_zip) (fun _ _ _ _ => (pif_one (pt_cmpR op_lt (pv 1) (pv 2) (nomark _)))) (fun _ _ _ _ => (pv 0))) pa_nil)) (pe_ix (r := rIxL K) ix_list (pv 1) (pv 5) (fun _ _ => rfl)) (nomark _)) (pss_one (ps_ret pe_bl)) pss_nil)))
      (pss_one (ps_ret pe_bl))))), ?_⟩
    have est : start ["_law_span", "_law_sizes", "_law_given", "_law_far", "_law_share", "_law_stand", "_law_mine"] [.ref r, .ref lz, .ref sh, .int far] = [some (.ref r), some (.ref lz), some (.ref sh), some (.int far), none, none, none] := rfl
    rw [est]
    clear est
    have hlv : (ys.map V.int).length = ys.length := List.length_map ..
    have hln : ((ys.map V.int).length : Int) = (rows.length : Int) := by omega
    repeat' (first | ((with_reducible refine' wp_isiL ?ha ?hk ?_); (case ha => walk_at "ats"); (case hk => rfl)) | ((with_reducible refine' wp_lenL ?ha ?_); (case ha => exact sq_of (by walk_at "ats"))) | walk_at "st")
    refine ⟨sh, rfl, ⟨_, sq_of hsh⟩, ?_⟩
    refine loop_list (xs := ys.map V.int) (fun i σ' H' => H' = H ∧ ∃ o4, σ' = [some (.ref r), some (.ref lz), some (.ref sh), some (.int far), o4, none, none]) ⟨rfl, _, rfl⟩ (fun i σ' H' _ h => by rw [h.1]; exact sq_of hsh) ?_ ?_
    · rintro i x _ _ hi ⟨rfl, o4, rfl⟩
      rw [List.getElem?_map] at hi
      obtain ⟨y, hyi, rfl⟩ := Option.map_eq_some_iff.mp hi
      have hyy := hyn y (List.mem_of_getElem? hyi)
      repeat' (first | (with_reducible refine use_is ?_) | walk_at "st")
      exact ⟨rfl, _, rfl⟩
    · rintro _ H0 ⟨e0, o4, rfl⟩
      rw [e0]
      clear e0
      repeat' (first | (with_reducible refine wp_enum ?_) | walk_at "st")
      refine ⟨r, rfl, ⟨_, sq_of hr0⟩, ?_⟩
      refine loop_enum (xs := rows) (fun i σ' H' => Same H H' ∧ ∃ o5 o6, σ' = [some (.ref r), some (.ref lz), some (.ref sh), some (.int far), o4, o5, o6]) ⟨Same.refl _, _, _, rfl⟩ (fun i σ' H' _ h => sq_of (h.1 _ _ hr0)) ?_ ?_
      · rintro i x _ H1 p0 hi ⟨s1, o5, o6, rfl⟩ hp0
        have hin : i < n := by have := (List.getElem?_eq_some_iff.mp hi).1; omega
        obtain ⟨ai, ei, hai⟩ := hrow i hin
        rw [ei] at hi
        cases hi
        have s12 : Same H1 (upd H1 p0 (.tup [.int i, .ref ai])) := Same.upd hp0
        have h12 : upd H1 p0 (HO.tup [.int i, .ref ai]) p0 = some (.tup [.int i, .ref ai]) := upd_same
        generalize upd H1 p0 (HO.tup [.int i, .ref ai]) = H12 at *
        have s02 := s1.trans s12
        have hq12 := s02 _ _ hsh
        have hz12 := s02 _ _ hz
        have hai12 := s02 _ _ hai
        refine ⟨p0, _, rfl, .inl (.inl h12), rfl, _, _, rfl, ?_⟩
        repeat' (first | walk_at "st")
        refine ⟨_, _, rfl, ?_⟩
        repeat' (first | walk_at "st")
        refine ⟨rfl, ?_⟩
        repeat' (first | walk_at "st")
        refine ⟨[.int far], rfl, fun k y j h => ?_, ?_⟩
        · match k, h with
          | 0, h => cases h; exact ⟨_, rfl, rfl⟩
          | k + 1, h => cases h
        repeat' (first | (with_reducible refine wp_zip ?_) | walk_at "st")
        refine ⟨sh, ai, rfl, ⟨_, _, sq_of hq12, sq_of hai12⟩, ?_⟩
        refine comp_zip (xs := ys.map V.int) (ys := rowV D n i) (by rw [List.length_map, rowV_len, hyl]) (by rw [List.length_map]; omega) (fun Dd j acc H' => Same H12 H' ∧ H' Dd = some (.lst acc) ∧ ∃ as : List Int, acc = as.map V.int ∧ as.length ≤ j ∧ as.sum = Mm.sm (fun v => if D i v ≤ far - 1 then ys.getD v 0 else 0) j)
          (fun Dd hD => ⟨Same.upd hD, upd_same, [], rfl, Nat.le_refl _, rfl⟩) (fun Dd j acc H' hD hj h => ⟨h.2.1, (by obtain ⟨_, _, as, rfl, h2, _⟩ := h; rw [List.length_map]; exact h2), sq_of (h.1 _ _ hq12), sq_of (h.1 _ _ hai12)⟩) ?_ ?_
        · intro Dd j x y acc H' pp NN hD hx hy hlt hpn hN hP
          obtain ⟨hs, hd, as, rfl, hal, hsum⟩ := hP
          rw [List.getElem?_map] at hx
          obtain ⟨yj, hyj, rfl⟩ := Option.map_eq_some_iff.mp hx
          have ey := rowV_item hy
          subst ey
          have eyj : ys.getD j 0 = yj := by rw [List.getD_eq_getElem?_getD, hyj]; rfl
          have s' : Same H' (upd H' pp (.tup [.int yj, .int (D i j)])) := Same.upd hpn
          generalize upd H' pp (.tup [.int yj, .int (D i j)]) = H2' at *
          have hd2 := s' _ _ hd
          repeat' (first | walk_at "st")
          · rename_i hle
            refine ⟨hd2, hlt, hN _ _ ⟨fun b' o' e' => ?_, upd_same, as ++ [yj], (by rw [List.map_append]; rfl), (by rw [List.length_append]; show as.length + 1 ≤ _; omega), ?_⟩⟩
            · rw [upd_ne (ne_of_none e' hD)]; exact s' _ _ (hs b' o' e')
            · show (as ++ [yj]).sum = Mm.sm _ j + (if D i j ≤ far - 1 then ys.getD j 0 else 0)
              rw [List.sum_append, hsum, if_pos (show D i j ≤ far - 1 by omega), eyj]
              simp
          · rename_i hle
            refine hN _ _ ⟨hs.trans s', hd2, as, rfl, by omega, ?_⟩
            show as.sum = Mm.sm _ j + (if D i j ≤ far - 1 then ys.getD j 0 else 0)
            rw [if_neg (show ¬ D i j ≤ far - 1 by omega), hsum]
            omega
        intro am acc H13 fam hP
        obtain ⟨s13, h13, as, rfl, _, hsum⟩ := hP
        rw [List.length_map, hyl] at hsum
        repeat' (first | walk_at "st")
        refine wp_sumL (sq_of h13) ?_
        have hz13 := s13 _ _ hz12
        have tz : atI (ss.map V.int) (i : Int) = some (.int (ss.getD i 0)) := ints_at (by rw [List.getD_eq_getElem?_getD, List.getElem?_eq_getElem (by omega)]; rfl)
        have hpd : as.sum = paid D (far - 1) ys n i := hsum
        have hfe' := hfe i hin
        repeat' (first | ((with_reducible refine' wp_ixL ?ha ?hv ?_); (case ha => exact sq_of (by walk_at "ats")); (case hv => first | assumption | exact rfl)) | walk_at "st")
        exact ⟨s02.trans s13, _, _, rfl⟩
      · rintro _ H1 ⟨s1, o5, o6, rfl⟩
        repeat' (first | walk_at "st")
        exact k _ s1
end
section
variable {P : Program} {w : World} {K : PySem.W.Frag} {mg : Str → Option Value} {base : Heap} {e : Ek}
theorem sc_law_no_room : FnScope ["_law_parents", "_law_lengths", "_law_sizes", "_law_room_here", "e", "_law_some"] ["_law_parents", "_law_lengths", "_law_sizes", "_law_room_here"] (defScope s_law_no_room) := ⟨rfl, rfl, rfl, by decide +kernel, rfl, by decide +kernel, by decide +kernel⟩
theorem ok_law_no_room (F : Fn K mg "_law_no_room" s_law_no_room ["_law_parents", "_law_lengths", "_law_sizes", "_law_room_here"]) (T : Txt mg) (TE : TxE K mg e) (Fplan : FnAllE P w K mg base "plan" 5 ["parents", "lengths", "sizes", "room"] (spPlan e)) : FnAll P w K mg base "_law_no_room" 6 ["_law_parents", "_law_lengths", "_law_sizes", "_law_room_here"] (spNoRoom) := by
  refine F.ok (k := 5) sc_law_no_room (fun vs H Q E h => ?_) (fun f cdv A outer s H vs Q E hr h => ?_)
  · obtain ⟨a, b, c, room, ps, ls, ss, n, rfl, ha, hb, hc, hT, hn0, hn, hTB, hbad, k⟩ := h
    rfl
  · obtain ⟨a, b, c, room, ps, ls, ss, n, rfl, ha, hb, hc, hT, hn0, hn, hTB, hbad, k⟩ := h
    have hu := hu16 hr
    have nd := sc_law_no_room.nd
    refine ⟨_, (pss_cons (ps_try (i := 4) TE.mBoughError nd rfl rfl (fun _ _ _ hx => (pss_one (ps_expr (pe_callE Fplan hr hx (pa_cons (pv 0) (pa_cons (pv 1) (pa_cons (pv 2) (pa_cons (pv 3) pa_nil)))))))) (fun _ => (pss_cons (ps_set (i := 5) nd rfl (by first | exact Or.inl rfl | exact Or.inr rfl) (pe_callB (r := rIsiET K) call_isinstET (by rfl) T.b_isinstance boot_isinstance (pa_cons (pv 4) (pa_cons (pe_tup (pa_cons (pe_glob (v := .ref e.xClash) rfl TE.mClash rfl) (pa_cons (pe_glob (v := .ref e.xEmpty) rfl TE.mEmpty rfl) (pa_cons (pe_glob (v := .ref e.xHangs) rfl TE.mHangs rfl) (pa_cons (pe_glob (v := .ref e.xNoDeed) rfl TE.mNoDeed rfl) (pa_cons (pe_glob (v := .ref e.xNoStand) rfl TE.mNoStand rfl) (pa_cons (pe_glob (v := .ref e.xNoText) rfl TE.mNoText rfl) (pa_cons (pe_glob (v := .ref e.xNoWord) rfl TE.mNoWord rfl) (pa_cons (pe_glob (v := .ref e.xTwice) rfl TE.mTwice rfl) (pa_cons (pe_glob (v := .ref e.xUnfit) rfl TE.mUnfit rfl) pa_nil)))))))))) pa_nil))))
      (pss_one (ps_ret (pe_and (pe_callB (r := rIsiE K) call_isinstE (by rfl) T.b_isinstance boot_isinstance (pa_cons (pv 4) (pa_cons (pe_glob (v := .ref e.xNoRoom) rfl TE.mNoRoom rfl) pa_nil))) (pe_and (pe_callB (r := rIsiE K) call_isinstE (by rfl) T.b_isinstance boot_isinstance (pa_cons (pv 4) (pa_cons (pe_bltn (v := .ty "ValueError") rfl T.b_ValueError (by decide +kernel) rfl) pa_nil))) (pe_one (pe_not (pv 5))))))))))
      (pss_one (ps_ret pe_bl))), ?_⟩
    have est : start ["_law_parents", "_law_lengths", "_law_sizes", "_law_room_here", "e", "_law_some"] [.ref a, .ref b, .ref c, .int room] = [some (.ref a), some (.ref b), some (.ref c), some (.int room), none, none] := rfl
    rw [est]
    clear est
    repeat' (first | walk_at "st")
    refine wp_try' fun HE hE => ?_
    have hN : HE (.ref e.xNoRoom) none H := by
      rw [hE]
      refine ⟨e.xNoRoom, rfl, TE.exNoRoom, fun q hq => ?_⟩
      have s1 : Same H (upd H q (excHO q e.xNoRoom)) := Same.upd hq
      have h1 : upd H q (excHO q e.xNoRoom) q = some (excHO q e.xNoRoom) := upd_same
      generalize upd H q (excHO q e.xNoRoom) = H1 at *
      repeat' (first | walk_at "st")
      refine tupK_new (by show 9 ≤ 1000; decide) fun tp H2 s2 h2 => ?_
      have h2q := s2 _ _ h1
      repeat' (first | walk_at "st")
      refine wp_isiET (Ds := [e.xClash, e.xEmpty, e.xHangs, e.xNoDeed, e.xNoStand, e.xNoText, e.xNoWord, e.xTwice, e.xUnfit]) h2q TE.xfNoRoom h2 TE.knNoRoom ?_
      repeat' (first | ((with_reducible refine' wp_isiE (t := .none) ?ha ?hf ?hc ?hk ?_); (case ha => walk_at "ats"); (case hf => exact TE.xfNoRoom); (case hc => exact rfl); (case hk => first | exact TE.kkNoRoom | exact TE.kvNoRoom)) | walk_at "st")
      exact k _ (s1.trans s2)
    clear hE
    repeat' (first | (with_reducible refine wp_callE ?_) | walk_at "st")
    exact ⟨a, b, c, room, ps, ls, ss, n, rfl, ha, hb, hc, hT, hn0, hn, hTB, fun _ => hN, fun t far st sh cs ys H' hm => absurd hm (fun ⟨m, hm1, hm2⟩ => by have := hbad m hm1; omega)⟩
end
theorem cut39 (xs : List V) : (cutV xs (some 2) (some 41)).length ≤ 39 := by
  unfold cutV
  rw [List.length_take, List.length_drop]
  unfold HT.sIx
  simp
  omega
theorem wp_eq3 {X : Cx} {H : Hp} {Q : VK} {o q a b c a' b' c' : Addr} {ps : List (Option Nat)} {ls ss : List Int} (ho : H o = some (.lst [.ref a, .ref b, .ref c])) (hq : H q = some (.lst [.ref a', .ref b', .ref c']))
    (h1 : H a = some (.lst (ps.map optV))) (h1' : H a' = some (.lst (ps.map optV))) (h2 : H b = some (.lst (ls.map V.int))) (h2' : H b' = some (.lst (ls.map V.int))) (h3 : H c = some (.lst (ss.map V.int))) (h3' : H c' = some (.lst (ss.map V.int))) (k : Q (.bl true) H) : rEqG X false (.ref o) (.ref q) H Q := by
  have fl : ∀ {xs : List V} {c d : Addr}, (∀ x ∈ xs, flatV x = true ∧ eqV x x = true) → H c = some (.lst xs) → H d = some (.lst xs) → EqV X 1 H (.ref c) (.ref d) true := fun hf h1 h2 => EqV.lstT (k := 0) h1 h2 rfl fun j x y hx hy => by
    rw [hx] at hy
    cases hy
    exact EqV.flatT (hf x (List.mem_of_getElem? hx)).1 (hf x (List.mem_of_getElem? hx)).2
  have fi : ∀ (l : List Int), ∀ x ∈ l.map V.int, flatV x = true ∧ eqV x x = true := fun l x hx => by
    obtain ⟨z, _, rfl⟩ := List.mem_map.mp hx
    exact ⟨rfl, beq_self_eq_true z⟩
  refine ⟨o, q, [.ref a, .ref b, .ref c], [.ref a', .ref b', .ref c'], fun _ => true, rfl, rfl, sq_of ho, sq_of hq, fun _ j x y hx hy => ?_, k⟩
  match j, hx, hy with
  | 0, hx, hy =>
    cases hx
    cases hy
    refine (fl (fun x hx => ?_) h1 h1').mono (by decide)
    obtain ⟨st, _, rfl⟩ := List.mem_map.mp hx
    exact opt_flat st
  | 1, hx, hy =>
    cases hx
    cases hy
    exact (fl (fi ls) h2 h2').mono (by decide)
  | 2, hx, hy =>
    cases hx
    cases hy
    exact (fl (fi ss) h3 h3').mono (by decide)
  | j + 3, hx, _ => cases hx
theorem proj_nx {nx bk ct : L2.St → Hp → Prop} {rt : VK} {σ : L2.St} {H : Hp} (h : nx σ H) : (Ends.mk nx rt bk ct).nx σ H := h
theorem cutS {t : TS} {D : Ends} {σ : L2.St} {H : Hp} (P : L2.St → Hp → Prop) (h : ∀ NX : L2.St → Hp → Prop, (∀ σ' H', P σ' H' → NX σ' H') → t { D with nx := NX } σ H) (h2 : ∀ σ' H', P σ' H' → D.nx σ' H') : t D σ H := h D.nx h2
section
variable {P : Program} {w : World} {K : PySem.W.Frag} {mg : Str → Option Value} {base : Heap} {e : Ek}
theorem sclaw : FnScope ["_law_script", "_law_head", "_law_parents", "_law_lengths", "_law_sizes", "_law_room_here", "_law_handed", "_law_found", "_law_span"] ["_law_script"] (defScope slaw) := ⟨rfl, rfl, rfl, by decide +kernel, rfl, by decide +kernel, by decide +kernel⟩
theorem oklaw {f : Addr} {fd : FuncData} (F : Fun K "law" "law" slaw f fd) (T : Txt mg) (F_law_at : FnAll P w K mg base "_law_at" 1 ["_law_script", "_law_k"] (spAt K)) (F_law_is : FnAll P w K mg base "_law_is" 1 ["_law_found", "_law_low"] (spIs)) (F_law_tree : FnAll P w K mg base "_law_tree" 2 ["_law_cells", "_law_head"] (spTree K)) (F_law_any_tree : FnAll P w K mg base "_law_any_tree" 2 ["_law_root", "_law_cells"] (spAny K)) (F_law_room : FnAll P w K mg base "_law_room" 1 ["_law_sizes", "_law_cell"] (spRoom)) (F_law_no_room : FnAll P w K mg base "_law_no_room" 6 ["_law_parents", "_law_lengths", "_law_sizes", "_law_room_here"] (spNoRoom)) (F_law_covers : FnAll P w K mg base "_law_covers" 2 ["_law_span", "_law_stands", "_law_far"] (spCovers)) (F_law_shares : FnAll P w K mg base "_law_shares" 2 ["_law_span", "_law_sizes", "_law_given", "_law_far"] (spSharesL)) (F_law_spans : FnAll P w K mg base "_law_spans" 1 ["_law_parents", "_law_lengths"] (spSpans)) (Fplan : FnAllE P w K mg base "plan" 5 ["parents", "lengths", "sizes", "room"] (spPlan e)) : FnOk P w K mg base CX0 7 f fd ["_law_script"] (spLawT K) := by
  refine F.ok (k := 6) sclaw (fun vs H Q E h => ?_) (fun cdv A outer s H vs Q E hr h => ?_)
  · obtain ⟨a, ns, rfl, _⟩ := h
    rfl
  · obtain ⟨a, ns, rfl, hS, hlen, hTB, k⟩ := h
    have hu := hu16 hr
    have nd := sclaw.nd
    refine ⟨_, (pss_cons (ps_set (i := 1) nd rfl (by first | exact Or.inl rfl | exact Or.inr rfl) (pe_callF F_law_at hr (pa_cons (pv 0) (pa_cons pe_int pa_nil))))
      (pss_cons (ps_asg (pe_callF F_law_tree hr (pa_cons (pe_slice sl_list (pv 0) (po_some pe_int) (po_some pe_int)) (pa_cons (pv 1) pa_nil))) (pg_tup rfl (pgs_cons (pg_name (i := 2) nd rfl (by first | exact Or.inl rfl | exact Or.inr rfl)) (pgs_cons (pg_name (i := 3) nd rfl (by first | exact Or.inl rfl | exact Or.inr rfl)) (pgs_cons (pg_name (i := 4) nd rfl (by first | exact Or.inl rfl | exact Or.inr rfl)) pgs_nil)))))
      (pss_cons (ps_if (pt_cmpR op_eq (pe_op op_mod (pe_op op_fdiv (pv 1) pe_int) pe_int) pe_int (nomark _)) (pss_one (ps_asg (pe_callF F_law_any_tree hr (pa_cons (pe_op op_fdiv (pv 1) pe_int) (pa_cons (pe_slice sl_list (pv 0) (po_some pe_int) (po_some pe_int)) pa_nil))) (pg_tup rfl (pgs_cons (pg_name (i := 2) nd rfl (by first | exact Or.inl rfl | exact Or.inr rfl)) (pgs_cons (pg_name (i := 3) nd rfl (by first | exact Or.inl rfl | exact Or.inr rfl)) (pgs_cons (pg_name (i := 4) nd rfl (by first | exact Or.inl rfl | exact Or.inr rfl)) pgs_nil)))))) pss_nil)
      (pss_cons (ps_set (i := 5) nd rfl (by first | exact Or.inl rfl | exact Or.inr rfl) (pe_callF F_law_room hr (pa_cons (pv 4) (pa_cons (pe_callF F_law_at hr (pa_cons (pv 0) (pa_cons pe_int pa_nil))) pa_nil))))
      (pss_cons (ps_set (i := 6) nd rfl (by first | exact Or.inl rfl | exact Or.inr rfl) (pe_lst (pa_cons (pe_callTy call_listOf (by rfl) T.b_list PyProof.Rows.boot_list (pa_cons (pv 2) pa_nil)) (pa_cons (pe_callTy call_listOf (by rfl) T.b_list PyProof.Rows.boot_list (pa_cons (pv 3) pa_nil)) (pa_cons (pe_callTy call_listOf (by rfl) T.b_list PyProof.Rows.boot_list (pa_cons (pv 4) pa_nil)) pa_nil)))))
      (pss_cons (ps_if (pt_cmpR op_lt (pv 5) (pe_callB (call_minL rfl) (by rfl) T.b_min PyProof.Rows.boot_min (pa_cons (pv 4) pa_nil)) (nomark _)) (pss_one (ps_ret (pe_and (pe_callF F_law_no_room hr (pa_cons (pe_ix (r := rIxL K) ix_list (pv 6) pe_int (fun _ _ => rfl)) (pa_cons (pe_ix (r := rIxL K) ix_list (pv 6) pe_int (fun _ _ => rfl)) (pa_cons (pe_ix (r := rIxL K) ix_list (pv 6) pe_int (fun _ _ => rfl)) (pa_cons (pv 5) pa_nil))))) (pe_one (pe_cmpR (op_eqG hu) (pv 6) (pe_lst (pa_cons (pv 2) (pa_cons (pv 3) (pa_cons (pv 4) pa_nil)))) (nomark _)))))) pss_nil)
      (pss_cons (ps_set (i := 7) nd rfl (by first | exact Or.inl rfl | exact Or.inr rfl) (pe_callE Fplan hr passN (pa_cons (pe_ix (r := rIxL K) ix_list (pv 6) pe_int (fun _ _ => rfl)) (pa_cons (pe_ix (r := rIxL K) ix_list (pv 6) pe_int (fun _ _ => rfl)) (pa_cons (pe_ix (r := rIxL K) ix_list (pv 6) pe_int (fun _ _ => rfl)) (pa_cons (pv 5) pa_nil))))))
      (pss_cons (ps_if (PW.pt (pw_or (pt_not (pt_val (pe_callB call_isinst (by rfl) T.b_isinstance boot_isinstance (pa_cons (pv 7) (pa_cons (pe_bltn (v := .ty "tuple") rfl T.b_tuple boot_tuple rfl) pa_nil))))) (pw_or (pt_cmpR op_ne (pe_callB call_lenQ (by rfl) T.b_len PySem.boot_len (pa_cons (pv 7) pa_nil)) pe_int (nomark _)) (pw_or1 (pt_not (pt_val (pe_callF F_law_is hr (pa_cons (pe_ix ix_tup (pv 7) pe_int (fun _ _ => rfl)) (pa_cons pe_int pa_nil))))))))) (pss_one (ps_ret pe_bl)) pss_nil)
      (pss_cons (ps_set (i := 8) nd rfl (by first | exact Or.inl rfl | exact Or.inr rfl) (pe_callF F_law_spans hr (pa_cons (pv 2) (pa_cons (pv 3) pa_nil))))
      (pss_cons (ps_if (PW.pt (pw_or (pt_not (pt_val (pe_callF F_law_covers hr (pa_cons (pv 8) (pa_cons (pe_ix ix_tup (pv 7) pe_int (fun _ _ => rfl)) (pa_cons (pe_ix ix_tup (pv 7) pe_int (fun _ _ => rfl)) pa_nil)))))) (pw_or1 (pt_cmpR op_gt (pe_callB (call_sumL rfl) (by rfl) T.b_sum PyProof.Rows.boot_sum (pa_cons (pe_comp (compScopeC (caps := [("_law_sizes", 4)]) rfl rfl (by decide +kernel) (by decide +kernel) rfl (sub1 rfl) rfl (fun k y j h => match k, h with | 0, h => by cases h; exact ⟨rfl, by first | exact Or.inl rfl | exact Or.inr (by first | exact Or.inl rfl | exact Or.inr rfl) | exact Or.inr (Or.inr rfl), by first | exact .inl rfl | exact .inr rfl, by first | exact .inl rfl | exact .inr rfl⟩ | k + 1, h => by cases h) (by decide +kernel)) rfl (pi_list (pe_ix ix_tup (pv 7) pe_int (fun _ _ => rfl))) (fun _ _ _ _ => pif_nil) (fun _ _ _ _ => (pe_ix (r := rIxL K) ix_list (pv 1) (pv 0) (fun _ _ => rfl)))) pa_nil)) (pv 5) (nomark _))))) (pss_one (ps_ret pe_bl)) pss_nil)
      (pss_cons (ps_if (pt_cmpR op_eq (pe_ix ix_tup (pv 7) pe_int (fun _ _ => rfl)) pe_int (nomark _)) (pss_one (ps_ret (pe_and (pe_cmpR (op_eqG hu) (pe_ix ix_tup (pv 7) pe_int (fun _ _ => rfl)) (pe_lst pa_nil) (nomark _)) (pe_one (pe_cmpR (op_eqG hu) (pv 6) (pe_lst (pa_cons (pv 2) (pa_cons (pv 3) (pa_cons (pv 4) pa_nil)))) (nomark _)))))) pss_nil)
      (pss_cons (ps_if (pt_not (pt_val (pe_callF F_law_shares hr (pa_cons (pv 8) (pa_cons (pv 4) (pa_cons (pe_ix ix_tup (pv 7) pe_int (fun _ _ => rfl)) (pa_cons (pe_ix ix_tup (pv 7) pe_int (fun _ _ => rfl)) pa_nil))))))) (pss_one (ps_ret pe_bl)) pss_nil)
      (pss_one (ps_ret (pe_and (pe_cmpR op_gt (pe_callB (call_sumL rfl) (by rfl) T.b_sum PyProof.Rows.boot_sum (pa_cons (pe_ix ix_tup (pv 7) pe_int (fun _ _ => rfl)) pa_nil)) (pv 5) (nomark _)) (pe_one (pe_cmpR (op_eqG hu) (pv 6) (pe_lst (pa_cons (pv 2) (pa_cons (pv 3) (pa_cons (pv 4) pa_nil)))) (nomark _)))))))))))))))))), ?_⟩
    have est : start ["_law_script", "_law_head", "_law_parents", "_law_lengths", "_law_sizes", "_law_room_here", "_law_handed", "_law_found", "_law_span"] [.ref a] = [some (.ref a), none, none, none, none, none, none, none, none] := rfl
    rw [est]
    clear est
    repeat' (first | walk_at "st")
    refine ⟨a, ns, 0, rfl, by decide, hS, fun m0 => ?_⟩
    repeat' (first | walk_at "st")
    refine wp_slL hS fun m1 H1 s1 h1 fm1 => ?_
    have hcl0 := cutV_length (ns.map V.int) (some 2) (some 119)
    rw [List.length_map] at hcl0
    have hints : ∀ v ∈ cutV (ns.map V.int) (some 2) (some 119), ∃ z, v = V.int z := fun v hv => cut_ints hv
    repeat' (first | walk_at "st")
    refine ⟨m1, _, _, rfl, sq_of h1, hints, by omega, fun t lp ll lz ps ls ss H2 s2 h2t h2p h2l h2z hT => ?_⟩
    generalize hn : (cutV (ns.map V.int) (some 2) (some 119)).length / 3 + 1 = n at *
    have s02 := s1.trans s2
    refine ⟨t, _, rfl, .inl (.inl h2t), rfl, _, _, rfl, ?_⟩
    repeat' (first | walk_at "st")
    refine ⟨_, _, rfl, ?_⟩
    repeat' (first | walk_at "st")
    refine ⟨_, _, rfl, ?_⟩
    repeat' (first | walk_at "st")
    refine ⟨rfl, ?_⟩
    refine proj_nx ?_
    refine wp_seq ?_
    refine cutS (fun σ' H' => ∃ (lp ll lz : Addr) (ps : List (Option Nat)) (ls ss : List Int) (n : Nat), Same H H' ∧ H' lp = some (.lst (ps.map optV)) ∧ H' ll = some (.lst (ls.map V.int)) ∧ H' lz = some (.lst (ss.map V.int)) ∧ TreeS ps ls ss n ∧ 0 < n ∧ n < 64 ∧ σ' = [some (.ref a), some (.int m0), some (.ref lp), some (.ref ll), some (.ref lz), none, none, none, none]) (fun NX hN => ?_) ?_
    · repeat' (first | walk_at "st")
      · refine wp_slL (s02.seq hS) fun m3 H13 s13 h13 fm3 => ?_
        have hcl3 := cutV_length (ns.map V.int) (some 2) (some 41)
        rw [List.length_map] at hcl3
        have hcl4 := cut39 (ns.map V.int)
        repeat' (first | walk_at "st")
        refine ⟨_, m3, _, rfl, sq_of h13, fun v hv => cut_ints hv, by omega, fun t2 lp ll lz ps ls ss HX s2b h2t h2p h2l h2z hT => ?_⟩
        refine ⟨t2, _, rfl, .inl (.inl h2t), rfl, _, _, rfl, ?_⟩
        repeat' (first | walk_at "st")
        refine ⟨_, _, rfl, ?_⟩
        repeat' (first | walk_at "st")
        refine ⟨_, _, rfl, ?_⟩
        repeat' (first | walk_at "st")
        refine ⟨rfl, ?_⟩
        exact hN _ _ ⟨lp, ll, lz, ps, ls, ss, _, (s02.trans s13).trans s2b, h2p, h2l, h2z, hT, by omega, by omega, rfl⟩
      · exact hN _ _ ⟨lp, ll, lz, ps, ls, ss, n, s02, h2p, h2l, h2z, hT, by omega, by omega, rfl⟩
    clear hT hn h2t h2p h2l h2z s02 s2 h1 fm1 s1 hints hcl0
    rintro _ H3 ⟨lp, ll, lz, ps, ls, ss, n, s03, h3p, h3l, h3z, hT, hn0, hn, rfl⟩
    have hssl := hT.sl
    have hsne : ss ≠ [] := fun e => by rw [e] at hssl; simp at hssl; omega
    repeat' (first | walk_at "st")
    refine ⟨a, ns, 1, rfl, by decide, s03.seq hS, fun m1' => ?_⟩
    repeat' (first | walk_at "st")
    refine ⟨lz, ss, m1', rfl, h3z, hsne, hT.sp, fun room => ?_⟩
    repeat' (first | walk_at "st")
    refine wp_listOf (sq_of h3p) fun hp H4 s4 h4 _ => ?_
    repeat' (first | walk_at "st")
    refine wp_listOf (sq_of (s4 _ _ h3l)) fun hl H5 s5 h5 _ => ?_
    repeat' (first | walk_at "st")
    refine wp_listOf (sq_of (s5 _ _ (s4 _ _ h3z))) fun hz' H6 s6 h6 _ => ?_
    repeat' (first | walk_at "st")
    refine wp_lstF (by show 3 ≤ 1000; decide) fun ho H7 s7 h7 _ => ?_
    have s67 := s6.trans s7
    have s57 := s5.trans s67
    have s37 := s4.trans s57
    have h7hp := s57 _ _ h4
    have h7hl := s67 _ _ h5
    have h7hz := s7 _ _ h6
    have h7p := s37 _ _ h3p
    have h7l := s37 _ _ h3l
    have h7z := s37 _ _ h3z
    have s07 := s03.trans s37
    clear h3p h3l h3z h4 h5 h6 s4 s5 s6 s7 s67 s57 s37
    repeat' (first | walk_at "st")
    refine wp_minL (ns := ss) hsne (sq_of h7z) fun m hm hml => ?_
    repeat' (first | ((with_reducible refine' wp_ixL ?ha ?hv ?_); (case ha => exact sq_of (by walk_at "ats")); (case hv => first | assumption | exact rfl)) | walk_at "st")
    · rename_i hlt
      refine ⟨hp, hl, hz', room, ps, ls, ss, n, rfl, h7hp, h7hl, h7hz, hT, hn0, hn, hTB.same s07, fun x hx => by have := hml x hx; omega, fun H8 s8 => ?_⟩
      repeat' (first | walk_at "st")
      refine wp_lstF (by show 3 ≤ 1000; decide) fun q9 H9 s9 h9 _ => ?_
      have s79 := s8.trans s9
      refine wp_eq3 (s79 _ _ h7) h9 (s79 _ _ h7hp) (s79 _ _ h7p) (s79 _ _ h7hl) (s79 _ _ h7l) (s79 _ _ h7hz) (s79 _ _ h7z) ?_
      exact k _
    rename_i hlt
    repeat' (first | ((with_reducible refine' wp_ixL ?ha ?hv ?_); (case ha => exact sq_of (by walk_at "ats")); (case hv => first | assumption | exact rfl)) | (with_reducible refine wp_callE ?_) | walk_at "st")
    refine ⟨hp, hl, hz', room, ps, ls, ss, n, rfl, h7hp, h7hl, h7hz, hT, hn0, hn, hTB.same s07, fun hb => absurd (hb m hm) (by omega), fun t8 far st sh cs ys H8 _ s8 h8t h8s h8h hf hri hcn hcl hcost hy0 hy1 hF => ?_⟩
    have h8 := s8 _ _ h7
    have h8p := s8 _ _ h7p
    have h8l := s8 _ _ h7l
    have h8z := s8 _ _ h7z
    have h8hp := s8 _ _ h7hp
    have h8hl := s8 _ _ h7hl
    have h8hz := s8 _ _ h7hz
    clear h7 h7p h7l h7z h7hp h7hl h7hz
    repeat' (first | ((with_reducible refine' wp_isiTu ?ha ?hk ?_); (case ha => walk_at "ats"); (case hk => rfl)) | ((with_reducible refine' wp_lenTu ?ha ?_); (case ha => exact .inl (.inl (by walk_at "ats")))) | (with_reducible refine use_is ?_) | walk_at "st")
    refine ⟨lp, ll, ps, ls, n, rfl, h8p, h8l, hT.t, hn0, by omega, fun D r rows H9 s9 h9 hrl hrow hD => ?_⟩
    have hTr := hD.tr hT.t (fun j z h0 h => by have := hT.lp j z h0 h; omega)
    obtain ⟨hcov, hfe⟩ := hF D hD
    have h9t := s9 _ _ h8t
    have h9s := s9 _ _ h8s
    have h9h := s9 _ _ h8h
    repeat' (first | walk_at "st")
    refine ⟨r, st, far, rows, D, n, cs, rfl, h9, hrl, by omega, hrow, h9s, hri, hcn, hcl, fun v hv => ?_, fun H10 s10 => ?_⟩
    · obtain ⟨u, hu1, hu2⟩ := hcov v hv
      exact ⟨u, hu1, by rw [hTr.sym hv (hcn u hu1)]; exact hu2⟩
    have h10t := s10 _ _ h9t
    have h10s := s10 _ _ h9s
    have h10h := s10 _ _ h9h
    have h10r := s10 _ _ h9
    have hrow10 : ∀ i : Nat, i < n → ∃ ai, rows[i]? = some (.ref ai) ∧ H10 ai = some (.lst (rowV D n i)) := fun i hi => let ⟨ai, e1, e2⟩ := hrow i hi; ⟨ai, e1, s10 _ _ e2⟩
    have s810 := s9.trans s10
    have h10 := s810 _ _ h8
    have h10p := s810 _ _ h8p
    have h10l := s810 _ _ h8l
    have h10z := s810 _ _ h8z
    have h10hp := s810 _ _ h8hp
    have h10hl := s810 _ _ h8hl
    have h10hz := s810 _ _ h8hz
    clear h8 h8p h8l h8z h8hp h8hl h8hz h8t h8s h8h h9t h9s h9h h9 hrow
    repeat' (first | walk_at "st")
    refine ⟨[.ref lz], rfl, fun k y j h => ?_, ?_⟩
    · match k, h with
      | 0, h => cases h; exact ⟨_, rfl, rfl⟩
      | k + 1, h => cases h
    repeat' (first | walk_at "st")
    refine ⟨st, rfl, ⟨_, sq_of h10s⟩, ?_⟩
    refine comp_list (xs := nV cs) (by rw [nV_len]; omega) (fun Dd j acc H' => Same H10 H' ∧ H' Dd = some (.lst acc) ∧ acc.length ≤ j ∧ acc = ((cs.take j).map fun u => ss.getD u 0).map V.int) (fun Dd hD => ⟨Same.upd hD, upd_same, Nat.le_refl _, rfl⟩)
      (fun Dd j acc H' hD hj h => ⟨h.2.1, h.2.2.1, sq_of (h.1 _ _ h10s)⟩) ?_ ?_
    · intro Dd j x acc H' NN hD hx hlt hN hP
      obtain ⟨hs, hd, hal, eacc⟩ := hP
      obtain ⟨u, hu', rfl⟩ := nV_at hx
      have hun := hcn u (List.mem_of_getElem? hu')
      have hzz := hs _ _ h10z
      have tu : atI (ss.map V.int) (u : Int) = some (.int (ss.getD u 0)) := ints_at (by rw [List.getD_eq_getElem?_getD, List.getElem?_eq_getElem (by omega)]; rfl)
      have etk : cs.take (j + 1) = cs.take j ++ [u] := by rw [List.take_add_one, hu']; rfl
      show tYes _ _ _
      unfold tYes
      dsimp only
      rw [if_pos rfl]
      repeat' (first | ((with_reducible refine' wp_ixL ?ha ?hv ?_); (case ha => exact sq_of (by walk_at "ats")); (case hv => first | assumption | exact rfl)) | walk_at "st")
      refine ⟨hd, hlt, hN _ _ ⟨fun b' o' e' => ?_, upd_same, (by rw [List.length_append]; show acc.length + 1 ≤ _; omega), ?_⟩⟩
      · rw [upd_ne (ne_of_none e' hD)]; exact hs b' o' e'
      · rw [etk, List.map_append, List.map_append, ← eacc]; rfl
    intro am acc H11 fam hP
    obtain ⟨s11, h11, _, eacc⟩ := hP
    rw [nV_len, List.take_length] at eacc
    repeat' (first | walk_at "st")
    refine wp_sumL (ns := cs.map fun u => ss.getD u 0) (by rw [← eacc]; exact sq_of h11) ?_
    have hcost' : (cs.map fun u => ss.getD u 0).sum ≤ room := hcost
    have h11t := s11 _ _ h10t
    have h11h := s11 _ _ h10h
    repeat' (first | walk_at "st")
    · rename_i hf0
      have ey := hy0 hf0
      subst ey
      refine wp_lstF (by show 0 ≤ 1000; decide) fun q12 H12 s12 h12 _ => ?_
      refine wp_eqNil (xs := []) (sq_of (s12 _ _ h11h)) (sq_of h12) ?_
      rw [decide_eq_true rfl]
      repeat' (first | walk_at "st")
      refine wp_lstF (by show 3 ≤ 1000; decide) fun q13 H13 s13 h13 _ => ?_
      have sA := (s11.trans s12).trans s13
      refine wp_eq3 (sA _ _ h10) h13 (sA _ _ h10hp) (sA _ _ h10p) (sA _ _ h10hl) (sA _ _ h10l) (sA _ _ h10hz) (sA _ _ h10z) ?_
      exact k _
    · rename_i hf0
      obtain ⟨hyl, hyn, hys⟩ := hy1 hf0
      have hrow11 : ∀ i : Nat, i < n → ∃ ai, rows[i]? = some (.ref ai) ∧ H11 ai = some (.lst (rowV D n i)) := fun i hi => let ⟨ai, e1, e2⟩ := hrow10 i hi; ⟨ai, e1, s11 _ _ e2⟩
      refine ⟨r, lz, sh, far, rows, D, n, ss, ys, rfl, s11 _ _ h10r, hrl, by omega, hrow11, s11 _ _ h10z, hssl, h11h, hyl, hyn, hfe hf0, fun H12 s12 => ?_⟩
      have h12t := s12 _ _ h11t
      repeat' (first | walk_at "st")
      refine wp_sumL (ns := ys) (sq_of (s12 _ _ h11h)) ?_
      repeat' (first | walk_at "st")
      refine wp_lstF (by show 3 ≤ 1000; decide) fun q13 H13 s13 h13 _ => ?_
      have sA := (s11.trans s12).trans s13
      refine wp_eq3 (sA _ _ h10) h13 (sA _ _ h10hp) (sA _ _ h10p) (sA _ _ h10hl) (sA _ _ h10l) (sA _ _ h10hz) (sA _ _ h10z) ?_
      exact k _
end
theorem all_mk {l : PySem.W.OpenLaw} {w : World} {K : PySem.W.Frag} {h : Heap} {mg : Str → Option Value} {cxNoRoom : ClassData} {CBoughError CClash CEmpty CHangs CNoDeed CNoRoom CNoStand CNoText CNoWord CTwice CUnfit : Addr} {fa f0 f1 f2 f3 f4 f5 f6 f7 f8 f9 f10 f11 f12 f13 f14 f15 f16 f17 f18 f19 f20 : Addr} (X : K.In h) (G : h.Ns mainGlobals mg) (hfa : mg "law" = some (.ref fa))
    {od0 an0 od1 an1 od2 an2 od3 an3 od4 an4 od5 an5 od6 an6 od7 an7 od8 an8 od9 an9 od10 an10 od11 an11 od12 an12 od13 an13 od14 an14 od15 an15 od16 an16 od17 an17 od18 an18 od19 an19 od20 an20 : Option Addr} {sl0 sl1 sl2 sl3 sl4 sl5 sl6 sl7 sl8 sl9 sl10 sl11 sl12 sl13 sl14 sl15 sl16 sl17 sl18 sl19 sl20 : Array (Option Value)} {oc0 kV0 dc0 pm0 cd0 ct0 oc1 kV1 dc1 pm1 cd1 ct1 oc2 kV2 dc2 pm2 cd2 ct2 oc3 kV3 dc3 pm3 cd3 ct3 oc4 kV4 dc4 pm4 cd4 ct4 oc5 kV5 dc5 pm5 cd5 ct5 oc6 kV6 dc6 pm6 cd6 ct6 oc7 kV7 dc7 pm7 cd7 ct7 oc8 kV8 dc8 pm8 cd8 ct8 oc9 kV9 dc9 pm9 cd9 ct9 oc10 kV10 dc10 pm10 cd10 ct10 oc11 kV11 dc11 pm11 cd11 ct11 oc12 kV12 dc12 pm12 cd12 ct12 oc13 kV13 dc13 pm13 cd13 ct13 oc14 kV14 dc14 pm14 cd14 ct14 oc15 kV15 dc15 pm15 cd15 ct15 oc16 kV16 dc16 pm16 cd16 ct16 oc17 kV17 dc17 pm17 cd17 ct17 oc18 kV18 dc18 pm18 cd18 ct18 oc19 kV19 dc19 pm19 cd19 ct19 oc20 kV20 dc20 pm20 cd20 ct20 : Value}
    (a0 : PySem.W.nsIn K mainGlobals "spans" = some (some (.ref f0))) (l0 : K.lookup f0 = some ⟨oc0, od0, .func (PySem.W.fnOf "spans" "spans" (defArgs sspans) (defBody sspans) (defScope sspans) .none kV0 dc0 pm0 an0 cd0 ct0), sl0⟩) (c0 : PySem.W.codeIn K cd0 "spans" = true) (k0 : PySem.W.keepIn K (.ref f0) = true)
    (a1 : PySem.W.nsIn K mainGlobals "near_stands" = some (some (.ref f1))) (l1 : K.lookup f1 = some ⟨oc1, od1, .func (PySem.W.fnOf "near_stands" "near_stands" (defArgs snear_stands) (defBody snear_stands) (defScope snear_stands) .none kV1 dc1 pm1 an1 cd1 ct1), sl1⟩) (c1 : PySem.W.codeIn K cd1 "near_stands" = true) (k1 : PySem.W.keepIn K (.ref f1) = true)
    (a2 : PySem.W.nsIn K mainGlobals "outward" = some (some (.ref f2))) (l2 : K.lookup f2 = some ⟨oc2, od2, .func (PySem.W.fnOf "outward" "outward" (defArgs soutward) (defBody soutward) (defScope soutward) .none kV2 dc2 pm2 an2 cd2 ct2), sl2⟩) (c2 : PySem.W.codeIn K cd2 "outward" = true) (k2 : PySem.W.keepIn K (.ref f2) = true)
    (a3 : PySem.W.nsIn K mainGlobals "shares" = some (some (.ref f3))) (l3 : K.lookup f3 = some ⟨oc3, od3, .func (PySem.W.fnOf "shares" "shares" (defArgs sshares) (defBody sshares) (defScope sshares) .none kV3 dc3 pm3 an3 cd3 ct3), sl3⟩) (c3 : PySem.W.codeIn K cd3 "shares" = true) (k3 : PySem.W.keepIn K (.ref f3) = true)
    (a4 : PySem.W.nsIn K mainGlobals "cover" = some (some (.ref f4))) (l4 : K.lookup f4 = some ⟨oc4, od4, .func (PySem.W.fnOf "cover" "cover" (defArgs scover) (defBody scover) (defScope scover) .none kV4 dc4 pm4 an4 cd4 ct4), sl4⟩) (c4 : PySem.W.codeIn K cd4 "cover" = true) (k4 : PySem.W.keepIn K (.ref f4) = true)
    (a5 : PySem.W.nsIn K mainGlobals "all_spans" = some (some (.ref f5))) (l5 : K.lookup f5 = some ⟨oc5, od5, .func (PySem.W.fnOf "all_spans" "all_spans" (defArgs sall_spans) (defBody sall_spans) (defScope sall_spans) .none kV5 dc5 pm5 an5 cd5 ct5), sl5⟩) (c5 : PySem.W.codeIn K cd5 "all_spans" = true) (k5 : PySem.W.keepIn K (.ref f5) = true)
    (a6 : PySem.W.nsIn K mainGlobals "least_far" = some (some (.ref f6))) (l6 : K.lookup f6 = some ⟨oc6, od6, .func (PySem.W.fnOf "least_far" "least_far" (defArgs sleast_far) (defBody sleast_far) (defScope sleast_far) .none kV6 dc6 pm6 an6 cd6 ct6), sl6⟩) (c6 : PySem.W.codeIn K cd6 "least_far" = true) (k6 : PySem.W.keepIn K (.ref f6) = true)
    (a7 : PySem.W.nsIn K mainGlobals "plan" = some (some (.ref f7))) (l7 : K.lookup f7 = some ⟨oc7, od7, .func (PySem.W.fnOf "plan" "plan" (defArgs splan) (defBody splan) (defScope splan) .none kV7 dc7 pm7 an7 cd7 ct7), sl7⟩) (c7 : PySem.W.codeIn K cd7 "plan" = true) (k7 : PySem.W.keepIn K (.ref f7) = true)
    (a8 : PySem.W.nsIn K mainGlobals "_law_at" = some (some (.ref f8))) (l8 : K.lookup f8 = some ⟨oc8, od8, .func (PySem.W.fnOf "_law_at" "_law_at" (defArgs s_law_at) (defBody s_law_at) (defScope s_law_at) .none kV8 dc8 pm8 an8 cd8 ct8), sl8⟩) (c8 : PySem.W.codeIn K cd8 "_law_at" = true) (k8 : PySem.W.keepIn K (.ref f8) = true)
    (a9 : PySem.W.nsIn K mainGlobals "_law_is" = some (some (.ref f9))) (l9 : K.lookup f9 = some ⟨oc9, od9, .func (PySem.W.fnOf "_law_is" "_law_is" (defArgs s_law_is) (defBody s_law_is) (defScope s_law_is) .none kV9 dc9 pm9 an9 cd9 ct9), sl9⟩) (c9 : PySem.W.codeIn K cd9 "_law_is" = true) (k9 : PySem.W.keepIn K (.ref f9) = true)
    (a10 : PySem.W.nsIn K mainGlobals "_law_size" = some (some (.ref f10))) (l10 : K.lookup f10 = some ⟨oc10, od10, .func (PySem.W.fnOf "_law_size" "_law_size" (defArgs s_law_size) (defBody s_law_size) (defScope s_law_size) .none kV10 dc10 pm10 an10 cd10 ct10), sl10⟩) (c10 : PySem.W.codeIn K cd10 "_law_size" = true) (k10 : PySem.W.keepIn K (.ref f10) = true)
    (a11 : PySem.W.nsIn K mainGlobals "_law_tree" = some (some (.ref f11))) (l11 : K.lookup f11 = some ⟨oc11, od11, .func (PySem.W.fnOf "_law_tree" "_law_tree" (defArgs s_law_tree) (defBody s_law_tree) (defScope s_law_tree) .none kV11 dc11 pm11 an11 cd11 ct11), sl11⟩) (c11 : PySem.W.codeIn K cd11 "_law_tree" = true) (k11 : PySem.W.keepIn K (.ref f11) = true)
    (a12 : PySem.W.nsIn K mainGlobals "_law_pot" = some (some (.ref f12))) (l12 : K.lookup f12 = some ⟨oc12, od12, .func (PySem.W.fnOf "_law_pot" "_law_pot" (defArgs s_law_pot) (defBody s_law_pot) (defScope s_law_pot) .none kV12 dc12 pm12 an12 cd12 ct12), sl12⟩) (c12 : PySem.W.codeIn K cd12 "_law_pot" = true) (k12 : PySem.W.keepIn K (.ref f12) = true)
    (a13 : PySem.W.nsIn K mainGlobals "_law_digit" = some (some (.ref f13))) (l13 : K.lookup f13 = some ⟨oc13, od13, .func (PySem.W.fnOf "_law_digit" "_law_digit" (defArgs s_law_digit) (defBody s_law_digit) (defScope s_law_digit) .none kV13 dc13 pm13 an13 cd13 ct13), sl13⟩) (c13 : PySem.W.codeIn K cd13 "_law_digit" = true) (k13 : PySem.W.keepIn K (.ref f13) = true)
    (a14 : PySem.W.nsIn K mainGlobals "_law_any_tree" = some (some (.ref f14))) (l14 : K.lookup f14 = some ⟨oc14, od14, .func (PySem.W.fnOf "_law_any_tree" "_law_any_tree" (defArgs s_law_any_tree) (defBody s_law_any_tree) (defScope s_law_any_tree) .none kV14 dc14 pm14 an14 cd14 ct14), sl14⟩) (c14 : PySem.W.codeIn K cd14 "_law_any_tree" = true) (k14 : PySem.W.keepIn K (.ref f14) = true)
    (a15 : PySem.W.nsIn K mainGlobals "_law_spans" = some (some (.ref f15))) (l15 : K.lookup f15 = some ⟨oc15, od15, .func (PySem.W.fnOf "_law_spans" "_law_spans" (defArgs s_law_spans) (defBody s_law_spans) (defScope s_law_spans) .none kV15 dc15 pm15 an15 cd15 ct15), sl15⟩) (c15 : PySem.W.codeIn K cd15 "_law_spans" = true) (k15 : PySem.W.keepIn K (.ref f15) = true)
    (a16 : PySem.W.nsIn K mainGlobals "_law_room" = some (some (.ref f16))) (l16 : K.lookup f16 = some ⟨oc16, od16, .func (PySem.W.fnOf "_law_room" "_law_room" (defArgs s_law_room) (defBody s_law_room) (defScope s_law_room) .none kV16 dc16 pm16 an16 cd16 ct16), sl16⟩) (c16 : PySem.W.codeIn K cd16 "_law_room" = true) (k16 : PySem.W.keepIn K (.ref f16) = true)
    (a17 : PySem.W.nsIn K mainGlobals "_law_no_room" = some (some (.ref f17))) (l17 : K.lookup f17 = some ⟨oc17, od17, .func (PySem.W.fnOf "_law_no_room" "_law_no_room" (defArgs s_law_no_room) (defBody s_law_no_room) (defScope s_law_no_room) .none kV17 dc17 pm17 an17 cd17 ct17), sl17⟩) (c17 : PySem.W.codeIn K cd17 "_law_no_room" = true) (k17 : PySem.W.keepIn K (.ref f17) = true)
    (a18 : PySem.W.nsIn K mainGlobals "_law_covers" = some (some (.ref f18))) (l18 : K.lookup f18 = some ⟨oc18, od18, .func (PySem.W.fnOf "_law_covers" "_law_covers" (defArgs s_law_covers) (defBody s_law_covers) (defScope s_law_covers) .none kV18 dc18 pm18 an18 cd18 ct18), sl18⟩) (c18 : PySem.W.codeIn K cd18 "_law_covers" = true) (k18 : PySem.W.keepIn K (.ref f18) = true)
    (a19 : PySem.W.nsIn K mainGlobals "_law_shares" = some (some (.ref f19))) (l19 : K.lookup f19 = some ⟨oc19, od19, .func (PySem.W.fnOf "_law_shares" "_law_shares" (defArgs s_law_shares) (defBody s_law_shares) (defScope s_law_shares) .none kV19 dc19 pm19 an19 cd19 ct19), sl19⟩) (c19 : PySem.W.codeIn K cd19 "_law_shares" = true) (k19 : PySem.W.keepIn K (.ref f19) = true)
    (a20 : PySem.W.nsIn K mainGlobals "law" = some (some (.ref f20))) (l20 : K.lookup f20 = some ⟨oc20, od20, .func (PySem.W.fnOf "law" "law" (defArgs slaw) (defBody slaw) (defScope slaw) .none kV20 dc20 pm20 an20 cd20 ct20), sl20⟩) (c20 : PySem.W.codeIn K cd20 "law" = true) (k20 : PySem.W.keepIn K (.ref f20) = true)
    (z_len : PySem.W.nsIn K mainGlobals "len" = some none)
    (z_range : PySem.W.nsIn K mainGlobals "range" = some none)
    (z_list : PySem.W.nsIn K mainGlobals "list" = some none)
    (z_enumerate : PySem.W.nsIn K mainGlobals "enumerate" = some none)
    (z_sum : PySem.W.nsIn K mainGlobals "sum" = some none)
    (z_min : PySem.W.nsIn K mainGlobals "min" = some none)
    (z_sorted : PySem.W.nsIn K mainGlobals "sorted" = some none)
    (z_reversed : PySem.W.nsIn K mainGlobals "reversed" = some none)
    (z_any : PySem.W.nsIn K mainGlobals "any" = some none)
    (z_zip : PySem.W.nsIn K mainGlobals "zip" = some none)
    (z_isinstance : PySem.W.nsIn K mainGlobals "isinstance" = some none)
    (z_int : PySem.W.nsIn K mainGlobals "int" = some none)
    (z_bool : PySem.W.nsIn K mainGlobals "bool" = some none)
    (z_tuple : PySem.W.nsIn K mainGlobals "tuple" = some none)
    (z_ValueError : PySem.W.nsIn K mainGlobals "ValueError" = some none)
    (hcc : cd2 = .ref tbC) (hch : PySem.W.codeHdIn K tbC tbA = true)
    (aCBoughError : PySem.W.nsIn K mainGlobals "BoughError" = some (some (.ref CBoughError)))
    (aCClash : PySem.W.nsIn K mainGlobals "Clash" = some (some (.ref CClash)))
    (aCEmpty : PySem.W.nsIn K mainGlobals "Empty" = some (some (.ref CEmpty)))
    (aCHangs : PySem.W.nsIn K mainGlobals "Hangs" = some (some (.ref CHangs)))
    (aCNoDeed : PySem.W.nsIn K mainGlobals "NoDeed" = some (some (.ref CNoDeed)))
    (aCNoRoom : PySem.W.nsIn K mainGlobals "NoRoom" = some (some (.ref CNoRoom)))
    (aCNoStand : PySem.W.nsIn K mainGlobals "NoStand" = some (some (.ref CNoStand)))
    (aCNoText : PySem.W.nsIn K mainGlobals "NoText" = some (some (.ref CNoText)))
    (aCNoWord : PySem.W.nsIn K mainGlobals "NoWord" = some (some (.ref CNoWord)))
    (aCTwice : PySem.W.nsIn K mainGlobals "Twice" = some (some (.ref CTwice)))
    (aCUnfit : PySem.W.nsIn K mainGlobals "Unfit" = some (some (.ref CUnfit)))
    (xcNoRoom : PySem.W.excIn K CNoRoom bmV "ValueError.__new__" = true)
    (xgaNoRoom : PySem.W.findIn K (.ref CNoRoom) "__getattribute__" = some (some (.builtin "BaseException.__getattribute__")))
    (xgtNoRoom : PySem.W.findIn K (.ref CNoRoom) "__getattr__" = some none)
    (xclNoRoom : PySem.W.findIn K (.ref CNoRoom) "__class__" = some (some (.builtin "object.__class__")))
    (xobNoRoom : PySem.W.mroIn K CNoRoom (.type "object") = some true)
    (xbeNoRoom : PySem.W.mroIn K CNoRoom (.type "BaseException") = some true)
    (xciNoRoom : PySem.W.clsIn K CNoRoom = some cxNoRoom)
    (exNoRoom : PySem.W.exmOne K (.ref CNoRoom) (.ref CBoughError) = some true)
    (kvNoRoom : PySem.W.kitOne K (.ref CNoRoom) (.type "ValueError") = some true)
    (qNoRoom_Clash : PySem.W.kitOne K (.ref CNoRoom) (.ref CClash) = some false)
    (qNoRoom_Empty : PySem.W.kitOne K (.ref CNoRoom) (.ref CEmpty) = some false)
    (qNoRoom_Hangs : PySem.W.kitOne K (.ref CNoRoom) (.ref CHangs) = some false)
    (qNoRoom_NoDeed : PySem.W.kitOne K (.ref CNoRoom) (.ref CNoDeed) = some false)
    (qNoRoom_NoRoom : PySem.W.kitOne K (.ref CNoRoom) (.ref CNoRoom) = some true)
    (qNoRoom_NoStand : PySem.W.kitOne K (.ref CNoRoom) (.ref CNoStand) = some false)
    (qNoRoom_NoText : PySem.W.kitOne K (.ref CNoRoom) (.ref CNoText) = some false)
    (qNoRoom_NoWord : PySem.W.kitOne K (.ref CNoRoom) (.ref CNoWord) = some false)
    (qNoRoom_Twice : PySem.W.kitOne K (.ref CNoRoom) (.ref CTwice) = some false)
    (qNoRoom_Unfit : PySem.W.kitOne K (.ref CNoRoom) (.ref CUnfit) = some false)
    : ∃ fd : FuncData, (∀ (s : Shared) (v : Value), BindsTo s fd ⟨[v], []⟩ [("_law_script", v)]) ∧ ∀ base : Heap, K.In base → base.Ns mainGlobals mg → BMain mg base → FnOk l.prog w K mg base CX0 7 fa fd ["_law_script"] (spLawT K) := by
  have e := hfa.symm.trans (PySem.W.mg_of X G a20)
  cases e
  let e : Ek := ⟨CBoughError, CClash, CEmpty, CHangs, CNoDeed, CNoRoom, CNoStand, CNoText, CNoWord, CTwice, CUnfit⟩
  have kn : PySem.W.kitAny K (.ref CNoRoom) ([CClash, CEmpty, CHangs, CNoDeed, CNoStand, CNoText, CNoWord, CTwice, CUnfit].map Value.ref) = some false := by simp only [List.map_cons, List.map_nil, PySem.W.kitAny, qNoRoom_Clash, qNoRoom_Empty, qNoRoom_Hangs, qNoRoom_NoDeed, qNoRoom_NoStand, qNoRoom_NoText, qNoRoom_NoWord, qNoRoom_Twice, qNoRoom_Unfit]
  have TE : TxE K mg e := {mBoughError := PySem.W.mg_of X G aCBoughError, mClash := PySem.W.mg_of X G aCClash, mEmpty := PySem.W.mg_of X G aCEmpty, mHangs := PySem.W.mg_of X G aCHangs, mNoDeed := PySem.W.mg_of X G aCNoDeed, mNoRoom := PySem.W.mg_of X G aCNoRoom, mNoStand := PySem.W.mg_of X G aCNoStand, mNoText := PySem.W.mg_of X G aCNoText, mNoWord := PySem.W.mg_of X G aCNoWord, mTwice := PySem.W.mg_of X G aCTwice, mUnfit := PySem.W.mg_of X G aCUnfit, xcNoRoom := xcNoRoom, xfNoRoom := ⟨xgaNoRoom, xgtNoRoom, xclNoRoom, xobNoRoom, xbeNoRoom, by show (PySem.W.clsIn K CNoRoom).isSome = true; rw [xciNoRoom]; rfl⟩, exNoRoom := exNoRoom, kvNoRoom := kvNoRoom, kkNoRoom := qNoRoom_NoRoom, knNoRoom := kn}
  have T : Txt mg := ⟨PySem.W.mg_none_of X G z_len, PySem.W.mg_none_of X G z_range, PySem.W.mg_none_of X G z_list, PySem.W.mg_none_of X G z_enumerate, PySem.W.mg_none_of X G z_sum, PySem.W.mg_none_of X G z_min, PySem.W.mg_none_of X G z_sorted, PySem.W.mg_none_of X G z_reversed, PySem.W.mg_none_of X G z_any, PySem.W.mg_none_of X G z_zip, PySem.W.mg_none_of X G z_isinstance, PySem.W.mg_none_of X G z_int, PySem.W.mg_none_of X G z_bool, PySem.W.mg_none_of X G z_tuple, PySem.W.mg_none_of X G z_ValueError⟩
  have U0 := fun_mk (st := sspans) l0 c0 k0
  have B0 := U0.binds (ps := ["parents", "lengths"]) fun _ _ _ _ _ _ => len2 (fun _ _ => rfl)
  have Nspans : Fn K mg "spans" sspans ["parents", "lengths"] := ⟨_, _, U0, PySem.W.mg_of X G a0, B0⟩
  have U1 := fun_mk (st := snear_stands) l1 c1 k1
  have B1 := U1.binds (ps := ["table", "far"]) fun _ _ _ _ _ _ => len2 (fun _ _ => rfl)
  have Nnear_stands : Fn K mg "near_stands" snear_stands ["table", "far"] := ⟨_, _, U1, PySem.W.mg_of X G a1, B1⟩
  have U2 := fun_mk (st := soutward) l2 c2 k2
  have B2 := U2.binds (ps := ["table"]) fun _ _ _ _ _ _ => len1 (fun _ => rfl)
  have Noutward : FnC K mg "outward" soutward ["table"] tbC := ⟨_, _, U2, PySem.W.mg_of X G a2, B2, hcc⟩
  have U3 := fun_mk (st := sshares) l3 c3 k3
  have B3 := U3.binds (ps := ["parents", "lengths", "sizes", "far"]) fun _ _ _ _ _ _ => len4 (fun _ _ _ _ => rfl)
  have Nshares : Fn K mg "shares" sshares ["parents", "lengths", "sizes", "far"] := ⟨_, _, U3, PySem.W.mg_of X G a3, B3⟩
  have U4 := fun_mk (st := scover) l4 c4 k4
  have B4 := U4.binds (ps := ["parents", "lengths", "sizes", "far"]) fun _ _ _ _ _ _ => len4 (fun _ _ _ _ => rfl)
  have Ncover : Fn K mg "cover" scover ["parents", "lengths", "sizes", "far"] := ⟨_, _, U4, PySem.W.mg_of X G a4, B4⟩
  have U5 := fun_mk (st := sall_spans) l5 c5 k5
  have B5 := U5.binds (ps := ["parents", "lengths"]) fun _ _ _ _ _ _ => len2 (fun _ _ => rfl)
  have Nall_spans : Fn K mg "all_spans" sall_spans ["parents", "lengths"] := ⟨_, _, U5, PySem.W.mg_of X G a5, B5⟩
  have U6 := fun_mk (st := sleast_far) l6 c6 k6
  have B6 := U6.binds (ps := ["parents", "lengths", "sizes", "room"]) fun _ _ _ _ _ _ => len4 (fun _ _ _ _ => rfl)
  have Nleast_far : Fn K mg "least_far" sleast_far ["parents", "lengths", "sizes", "room"] := ⟨_, _, U6, PySem.W.mg_of X G a6, B6⟩
  have U7 := fun_mk (st := splan) l7 c7 k7
  have B7 := U7.binds (ps := ["parents", "lengths", "sizes", "room"]) fun _ _ _ _ _ _ => len4 (fun _ _ _ _ => rfl)
  have Nplan : Fn K mg "plan" splan ["parents", "lengths", "sizes", "room"] := ⟨_, _, U7, PySem.W.mg_of X G a7, B7⟩
  have U8 := fun_mk (st := s_law_at) l8 c8 k8
  have B8 := U8.binds (ps := ["_law_script", "_law_k"]) fun _ _ _ _ _ _ => len2 (fun _ _ => rfl)
  have N_law_at : Fn K mg "_law_at" s_law_at ["_law_script", "_law_k"] := ⟨_, _, U8, PySem.W.mg_of X G a8, B8⟩
  have U9 := fun_mk (st := s_law_is) l9 c9 k9
  have B9 := U9.binds (ps := ["_law_found", "_law_low"]) fun _ _ _ _ _ _ => len2 (fun _ _ => rfl)
  have N_law_is : Fn K mg "_law_is" s_law_is ["_law_found", "_law_low"] := ⟨_, _, U9, PySem.W.mg_of X G a9, B9⟩
  have U10 := fun_mk (st := s_law_size) l10 c10 k10
  have B10 := U10.binds (ps := ["_law_load", "_law_kind"]) fun _ _ _ _ _ _ => len2 (fun _ _ => rfl)
  have N_law_size : Fn K mg "_law_size" s_law_size ["_law_load", "_law_kind"] := ⟨_, _, U10, PySem.W.mg_of X G a10, B10⟩
  have U11 := fun_mk (st := s_law_tree) l11 c11 k11
  have B11 := U11.binds (ps := ["_law_cells", "_law_head"]) fun _ _ _ _ _ _ => len2 (fun _ _ => rfl)
  have N_law_tree : Fn K mg "_law_tree" s_law_tree ["_law_cells", "_law_head"] := ⟨_, _, U11, PySem.W.mg_of X G a11, B11⟩
  have U12 := fun_mk (st := s_law_pot) l12 c12 k12
  have B12 := U12.binds (ps := ["_law_cell"]) fun _ _ _ _ _ _ => len1 (fun _ => rfl)
  have N_law_pot : Fn K mg "_law_pot" s_law_pot ["_law_cell"] := ⟨_, _, U12, PySem.W.mg_of X G a12, B12⟩
  have U13 := fun_mk (st := s_law_digit) l13 c13 k13
  have B13 := U13.binds (ps := ["_law_pot_here", "_law_many"]) fun _ _ _ _ _ _ => len2 (fun _ _ => rfl)
  have N_law_digit : Fn K mg "_law_digit" s_law_digit ["_law_pot_here", "_law_many"] := ⟨_, _, U13, PySem.W.mg_of X G a13, B13⟩
  have U14 := fun_mk (st := s_law_any_tree) l14 c14 k14
  have B14 := U14.binds (ps := ["_law_root", "_law_cells"]) fun _ _ _ _ _ _ => len2 (fun _ _ => rfl)
  have N_law_any_tree : Fn K mg "_law_any_tree" s_law_any_tree ["_law_root", "_law_cells"] := ⟨_, _, U14, PySem.W.mg_of X G a14, B14⟩
  have U15 := fun_mk (st := s_law_spans) l15 c15 k15
  have B15 := U15.binds (ps := ["_law_parents", "_law_lengths"]) fun _ _ _ _ _ _ => len2 (fun _ _ => rfl)
  have N_law_spans : Fn K mg "_law_spans" s_law_spans ["_law_parents", "_law_lengths"] := ⟨_, _, U15, PySem.W.mg_of X G a15, B15⟩
  have U16 := fun_mk (st := s_law_room) l16 c16 k16
  have B16 := U16.binds (ps := ["_law_sizes", "_law_cell"]) fun _ _ _ _ _ _ => len2 (fun _ _ => rfl)
  have N_law_room : Fn K mg "_law_room" s_law_room ["_law_sizes", "_law_cell"] := ⟨_, _, U16, PySem.W.mg_of X G a16, B16⟩
  have U17 := fun_mk (st := s_law_no_room) l17 c17 k17
  have B17 := U17.binds (ps := ["_law_parents", "_law_lengths", "_law_sizes", "_law_room_here"]) fun _ _ _ _ _ _ => len4 (fun _ _ _ _ => rfl)
  have N_law_no_room : Fn K mg "_law_no_room" s_law_no_room ["_law_parents", "_law_lengths", "_law_sizes", "_law_room_here"] := ⟨_, _, U17, PySem.W.mg_of X G a17, B17⟩
  have U18 := fun_mk (st := s_law_covers) l18 c18 k18
  have B18 := U18.binds (ps := ["_law_span", "_law_stands", "_law_far"]) fun _ _ _ _ _ _ => len3 (fun _ _ _ => rfl)
  have N_law_covers : Fn K mg "_law_covers" s_law_covers ["_law_span", "_law_stands", "_law_far"] := ⟨_, _, U18, PySem.W.mg_of X G a18, B18⟩
  have U19 := fun_mk (st := s_law_shares) l19 c19 k19
  have B19 := U19.binds (ps := ["_law_span", "_law_sizes", "_law_given", "_law_far"]) fun _ _ _ _ _ _ => len4 (fun _ _ _ _ => rfl)
  have N_law_shares : Fn K mg "_law_shares" s_law_shares ["_law_span", "_law_sizes", "_law_given", "_law_far"] := ⟨_, _, U19, PySem.W.mg_of X G a19, B19⟩
  have U20 := fun_mk (st := slaw) l20 c20 k20
  have B20 := U20.binds (ps := ["_law_script"]) fun _ _ _ _ _ _ => len1 (fun _ => rfl)
  have Nlaw : Fn K mg "law" slaw ["_law_script"] := ⟨_, _, U20, PySem.W.mg_of X G a20, B20⟩
  refine ⟨PySem.W.fnOf "law" "law" (defArgs slaw) (defBody slaw) (defScope slaw) .none kV20 dc20 pm20 an20 cd20 ct20, fun s v => .of_eq rfl, fun base kb _ bm => ?_⟩
  have C : PySem.W.CodeHd base tbC tbA := PySem.W.codeHd_of_K kb hch
  have o_at := ok_law_at (P := l.prog) (w := w) (base := base) N_law_at T
  have o_is := ok_law_is (P := l.prog) (w := w) (base := base) N_law_is T
  have o_size := ok_law_size (P := l.prog) (w := w) (base := base) N_law_size T
  have o_tree := ok_law_tree (P := l.prog) (w := w) (base := base) N_law_tree T o_size
  have o_lspans := ok_law_spans (P := l.prog) (w := w) (base := base) N_law_spans T
  have o_pot := ok_law_pot (P := l.prog) (w := w) (base := base) N_law_pot T
  have o_dig := ok_law_digit (P := l.prog) (w := w) (base := base) N_law_digit T
  have o_any := ok_law_any_tree (P := l.prog) (w := w) (base := base) N_law_any_tree T o_pot o_dig
  have o_room := ok_law_room (P := l.prog) (w := w) (base := base) N_law_room T
  have o_cov := ok_law_covers (P := l.prog) (w := w) (base := base) N_law_covers T o_is
  have o_shl := ok_law_shares (P := l.prog) (w := w) (base := base) N_law_shares T o_is
  have o_spans := okspans (P := l.prog) (w := w) (base := base) Nspans T
  have o_near := oknear_stands (P := l.prog) (w := w) (base := base) Nnear_stands T
  have o_out := okoutward (P := l.prog) (w := w) (base := base) Noutward C bm T
  have o_sh := okshares (P := l.prog) (w := w) (base := base) Nshares T o_spans o_near o_out
  have o_shO := oksharesO o_sh
  have o_cv := okcover (P := l.prog) (w := w) (base := base) Ncover T o_spans o_near o_sh o_out
  have o_alls := okall_spans (P := l.prog) (w := w) (base := base) Nall_spans T o_spans
  have o_least := okleast_far (P := l.prog) (w := w) (base := base) Nleast_far T o_alls o_shO
  have o_plan := okplan (P := l.prog) (w := w) (base := base) (e := e) Nplan T TE o_least o_cv o_shO
  have o_no := ok_law_no_room (P := l.prog) (w := w) (base := base) (e := e) N_law_no_room T TE o_plan
  exact oklaw (e := e) U20 T o_at o_is o_tree o_any o_room o_no o_cov o_shl o_lspans o_plan
theorem walk {l : PySem.W.OpenLaw} {q : Program} {loose : List Str} {XP : (Str → Option Value) → Heap → Prop} {YP : World → Heap → Prop} {d : DefRec} {K : Params → PySem.W.Frag} (hn : l.most = some 63) (hdf : d.params.defaults = [])
    (hY : ∀ (w : World) (h : Heap), YP w h → (K w.params).In h) (hYT : ∀ (w : World) (h : Heap), YP w h → h.get? tbA = some (PySem.W.tabObj #[])) (hKC : ∀ w : World, PySem.W.codeHdIn (K w.params) tbC tbA = true) (hKT : ∀ w : World, (K w.params).lookup tbA = none)
    (F : ∀ (w : World) (mg : Str → Option Value) (fa : Addr) (h : Heap), (K w.params).In h → h.Ns mainGlobals mg → mg d.name = some (.ref fa) →
      ∃ fd : FuncData, (∀ (s : Shared) (u : Value), BindsTo s fd ⟨[u], []⟩ [("_law_script", u)]) ∧ ∀ base : Heap, (K w.params).In base → base.Ns mainGlobals mg → BMain mg base → FnOk l.prog w (K w.params) mg base CX0 7 fa fd ["_law_script"] (spLawT (K w.params))) :
    PySem.W.WalkO q loose XP YP l.row.toRowW d [] (fun f vs => PySem.call f vs) :=
  L2.walk_ofT (n := 63) (k := 7) (x := "_law_script") (tb := tbA) (c := tbC) (td := tbD) (CX := fun _ => CX0) (sp := fun w => spLawT (K w.params)) hn (by decide) hdf ⟨rfl, by decide, by decide⟩ hY hYT (fun w _ X => PySem.W.codeHd_of_K X (hKC w)) hKT F (fun _ _ a ns hl hT hS => ⟨a, ns, rfl, hS, hl, hT, fun _ => rfl⟩) fun _ _ _ _ _ z => z
end My
namespace PySem.W.Fast
noncomputable def tw1465523269044490610 : Program := PySem.Challenge.pw_boughback_k65_whole_plan_and_its_witness
theorem te1465523269044490610 : PySem.Challenge.pw_boughback_k65_whole_plan_and_its_witness = tw1465523269044490610 := rfl
noncomputable def vw (p : Program) : Program := { p with main := { p.main with body := [1, 2, 3, 4, 5, 6, 7, 8, 9, 10, 11, 13, 15, 16, 17, 18, 20, 21, 22, 24, 25, 26, 27, 28, 29, 30, 31, 32, 33, 34, 35, 36].map fun i => p.main.body.getD i (.Pass ⟨0, 0, 0, 0⟩) } }
noncomputable def tw18112363007378056061 : Program := vw PySem.Challenge.pw_boughback_k65_whole_plan_and_its_witness
theorem te18112363007378056061 : vw PySem.Challenge.pw_boughback_k65_whole_plan_and_its_witness = tw18112363007378056061 := rfl
end PySem.W.Fast
namespace PySem.W.Fast
noncomputable def st (a n : Nat) : List Stmt := (List.range n).map fun i => PySem.Challenge.pw_boughback_k65_whole_plan_and_its_witness.main.body.getD (a + i) (.Pass ⟨0, 0, 0, 0⟩)
noncomputable def tw2945193321073259523 : List Stmt := st 0 2
theorem te2945193321073259523 : st 0 2 = tw2945193321073259523 := rfl
noncomputable def tw3847785995337922227 : List Stmt := st 2 1
theorem te3847785995337922227 : st 2 1 = tw3847785995337922227 := rfl
noncomputable def tw5873288337162733213 : List Stmt := st 3 1
theorem te5873288337162733213 : st 3 1 = tw5873288337162733213 := rfl
noncomputable def tw18122826241035374689 : List Stmt := st 4 1
theorem te18122826241035374689 : st 4 1 = tw18122826241035374689 := rfl
noncomputable def tw4924857985403297555 : List Stmt := st 5 1
theorem te4924857985403297555 : st 5 1 = tw4924857985403297555 := rfl
noncomputable def tw11006906586657108181 : List Stmt := st 6 1
theorem te11006906586657108181 : st 6 1 = tw11006906586657108181 := rfl
noncomputable def tw813028440249030866 : List Stmt := st 7 1
theorem te813028440249030866 : st 7 1 = tw813028440249030866 := rfl
noncomputable def tw12247817120030805190 : List Stmt := st 8 1
theorem te12247817120030805190 : st 8 1 = tw12247817120030805190 := rfl
noncomputable def tw7422469866510890977 : List Stmt := st 9 1
theorem te7422469866510890977 : st 9 1 = tw7422469866510890977 := rfl
noncomputable def tw11510935971277503947 : List Stmt := st 10 1
theorem te11510935971277503947 : st 10 1 = tw11510935971277503947 := rfl
noncomputable def tw10332229390110895318 : List Stmt := st 11 9
theorem te10332229390110895318 : st 11 9 = tw10332229390110895318 := rfl
noncomputable def tw10073303992609287446 : List Stmt := st 20 12
theorem te10073303992609287446 : st 20 12 = tw10073303992609287446 := rfl
noncomputable def tw17046443502316746999 : List Stmt := st 32 5
theorem te17046443502316746999 : st 32 5 = tw17046443502316746999 := rfl
end PySem.W.Fast
set_option maxHeartbeats 0
namespace Sh
open PySem PySem.W PyProof.Rows
open_shared T for PySem.Challenge.pw_boughback_k65_whole_plan_and_its_witness leaving 0
end Sh
theorem Sh.hc {P : PySem.Params} {a b : PySem.Params → PySem.Obj} {l m : List PySem.Obj} (h : a = b) (k : l = m) : a P :: l = b P :: m := by rw [h, k]
namespace PySem
noncomputable def W.Fast.hp : Params → Heap := fun P => ⟨⟨[W.boot_o_0 P, W.boot_o_1 P, W.boot_o_2 P, Sh.T.o_316 P, W.boot_o_4 P, W.boot_o_5 P, W.boot_o_6 P, W.boot_o_7 P, W.boot_o_8 P, W.boot_o_9 P, W.boot_o_10 P, Sh.T.o_1 P, Sh.T.o_317 P, Sh.T.o_3 P, Sh.T.o_4 P, Sh.T.o_7 P, Sh.T.o_8 P, Sh.T.o_9 P, Sh.T.o_10 P, Sh.T.o_11 P, Sh.T.o_12 P, Sh.T.o_13 P, Sh.T.o_14 P, Sh.T.o_15 P, Sh.T.o_195 P, Sh.T.o_17 P, Sh.T.o_18 P, Sh.T.o_19 P, Sh.T.o_24 P, Sh.T.o_25 P, Sh.T.o_26 P, Sh.T.o_27 P, Sh.T.o_28 P, Sh.T.o_29 P, Sh.T.o_30 P, Sh.T.o_31 P, Sh.T.o_32 P, Sh.T.o_33 P, Sh.T.o_34 P, Sh.T.o_35 P, Sh.T.o_36 P, Sh.T.o_37 P, Sh.T.o_38 P, Sh.T.o_39 P, Sh.T.o_40 P, Sh.T.o_41 P, Sh.T.o_42 P, Sh.T.o_47 P, Sh.T.o_48 P, Sh.T.o_49 P, Sh.T.o_50 P, Sh.T.o_51 P, Sh.T.o_52 P, Sh.T.o_53 P, Sh.T.o_54 P, Sh.T.o_55 P, Sh.T.o_56 P, Sh.T.o_57 P, Sh.T.o_58 P, Sh.T.o_59 P, Sh.T.o_60 P, Sh.T.o_61 P, Sh.T.o_62 P, Sh.T.o_63 P, Sh.T.o_64 P, Sh.T.o_65 P, Sh.T.o_70 P, Sh.T.o_71 P, Sh.T.o_72 P, Sh.T.o_73 P, Sh.T.o_74 P, Sh.T.o_75 P, Sh.T.o_76 P, Sh.T.o_77 P, Sh.T.o_78 P, Sh.T.o_79 P, Sh.T.o_80 P, Sh.T.o_81 P, Sh.T.o_82 P, Sh.T.o_83 P, Sh.T.o_84 P, Sh.T.o_85 P, Sh.T.o_86 P, Sh.T.o_87 P, Sh.T.o_88 P, Sh.T.o_93 P, Sh.T.o_94 P, Sh.T.o_95 P, Sh.T.o_96 P, Sh.T.o_97 P, Sh.T.o_98 P, Sh.T.o_99 P, Sh.T.o_100 P, Sh.T.o_101 P, Sh.T.o_102 P, Sh.T.o_103 P, Sh.T.o_104 P, Sh.T.o_105 P, Sh.T.o_106 P, Sh.T.o_107 P, Sh.T.o_108 P, Sh.T.o_109 P, Sh.T.o_110 P, Sh.T.o_111 P, Sh.T.o_116 P, Sh.T.o_117 P, Sh.T.o_118 P, Sh.T.o_119 P, Sh.T.o_120 P, Sh.T.o_121 P, Sh.T.o_122 P, Sh.T.o_123 P, Sh.T.o_124 P, Sh.T.o_125 P, Sh.T.o_126 P, Sh.T.o_127 P, Sh.T.o_132 P, Sh.T.o_133 P, Sh.T.o_134 P, Sh.T.o_135 P, Sh.T.o_136 P, Sh.T.o_137 P, Sh.T.o_138 P, Sh.T.o_139 P, Sh.T.o_140 P, Sh.T.o_141 P, Sh.T.o_142 P, Sh.T.o_143 P, Sh.T.o_148 P, Sh.T.o_149 P, Sh.T.o_150 P, Sh.T.o_151 P, Sh.T.o_152 P, Sh.T.o_153 P, Sh.T.o_154 P, Sh.T.o_155 P, Sh.T.o_156 P, Sh.T.o_157 P, Sh.T.o_158 P, Sh.T.o_159 P, Sh.T.o_164 P, Sh.T.o_165 P, Sh.T.o_166 P, Sh.T.o_167 P, Sh.T.o_168 P, Sh.T.o_169 P, Sh.T.o_170 P, Sh.T.o_171 P, Sh.T.o_172 P, Sh.T.o_173 P, Sh.T.o_174 P, Sh.T.o_175 P, Sh.T.o_180 P, Sh.T.o_181 P, Sh.T.o_182 P, Sh.T.o_183 P, Sh.T.o_184 P, Sh.T.o_185 P, Sh.T.o_186 P, Sh.T.o_187 P, Sh.T.o_188 P, Sh.T.o_189 P, Sh.T.o_190 P, Sh.T.o_191 P, Sh.T.o_196 P, Sh.T.o_197 P, Sh.T.o_198 P, Sh.T.o_199 P, Sh.T.o_200 P, Sh.T.o_201 P, Sh.T.o_202 P, Sh.T.o_203 P, Sh.T.o_204 P, Sh.T.o_205 P, Sh.T.o_206 P, Sh.T.o_207 P, Sh.T.o_208 P, Sh.T.o_209 P, Sh.T.o_210 P, Sh.T.o_211 P, Sh.T.o_212 P, Sh.T.o_213 P, Sh.T.o_214 P, Sh.T.o_215 P, Sh.T.o_216 P, Sh.T.o_217 P, Sh.T.o_218 P, Sh.T.o_219 P, Sh.T.o_220 P, Sh.T.o_221 P, Sh.T.o_222 P, Sh.T.o_223 P, Sh.T.o_224 P, Sh.T.o_225 P, Sh.T.o_226 P, Sh.T.o_227 P, Sh.T.o_228 P, Sh.T.o_229 P, Sh.T.o_230 P, Sh.T.o_231 P, Sh.T.o_232 P, Sh.T.o_233 P, Sh.T.o_234 P, Sh.T.o_238 P, Sh.T.o_239 P, Sh.T.o_240 P, Sh.T.o_241 P, Sh.T.o_242 P, Sh.T.o_243 P, Sh.T.o_244 P, Sh.T.o_245 P, Sh.T.o_246 P, Sh.T.o_247 P, Sh.T.o_248 P, Sh.T.o_249 P, Sh.T.o_250 P, Sh.T.o_251 P, Sh.T.o_252 P, Sh.T.o_253 P, Sh.T.o_254 P, Sh.T.o_255 P, Sh.T.o_256 P, Sh.T.o_257 P, Sh.T.o_258 P, Sh.T.o_259 P, Sh.T.o_260 P, Sh.T.o_261 P, Sh.T.o_262 P, Sh.T.o_263 P, Sh.T.o_264 P, Sh.T.o_265 P, Sh.T.o_266 P, Sh.T.o_267 P, Sh.T.o_268 P, Sh.T.o_269 P, Sh.T.o_270 P, Sh.T.o_271 P, Sh.T.o_272 P, Sh.T.o_273 P, Sh.T.o_274 P, Sh.T.o_275 P, Sh.T.o_276 P, Sh.T.o_277 P, Sh.T.o_278 P, Sh.T.o_279 P, Sh.T.o_280 P, Sh.T.o_281 P, Sh.T.o_282 P, Sh.T.o_283 P, Sh.T.o_284 P, Sh.T.o_285 P, Sh.T.o_286 P, Sh.T.o_287 P, Sh.T.o_288 P, Sh.T.o_289 P, Sh.T.o_290 P, Sh.T.o_291 P, Sh.T.o_292 P, Sh.T.o_293 P, Sh.T.o_294 P, Sh.T.o_295 P, Sh.T.o_296 P, Sh.T.o_297 P, Sh.T.o_298 P, Sh.T.o_299 P, Sh.T.o_300 P, Sh.T.o_301 P, Sh.T.o_302 P, Sh.T.o_303 P, Sh.T.o_304 P, Sh.T.o_305 P, Sh.T.o_306 P, Sh.T.o_307 P, Sh.T.o_308 P, Sh.T.o_309 P, Sh.T.o_310 P, Sh.T.o_311 P, Sh.T.o_312 P, Sh.T.o_313 P, Sh.T.o_314 P, Sh.T.o_318 P, Sh.T.o_319 P, Sh.T.o_320 P, Sh.T.o_321 P, Sh.T.o_322 P, Sh.T.o_323 P, Sh.T.o_324 P, Sh.T.o_325 P, Sh.T.o_326 P, Sh.T.o_327 P, Sh.T.o_328 P, Sh.T.o_329 P, Sh.T.o_330 P, Sh.T.o_331 P, Sh.T.o_332 P, Sh.T.o_333 P, Sh.T.o_334 P, Sh.T.o_335 P, Sh.T.o_336 P, Sh.T.o_337 P, Sh.T.o_338 P, Sh.T.o_339 P, Sh.T.o_340 P, Sh.T.o_341 P, Sh.T.o_342 P, Sh.T.o_343 P, Sh.T.o_344 P, Sh.T.o_345 P, Sh.T.o_346 P]⟩, {}⟩
namespace W.Fast
open Sh
noncomputable def tw14018582270685769126 : Params → Heap := fun P => ⟨⟨[W.boot_o_0 P, W.boot_o_1 P, W.boot_o_2 P, tw8767833281909128591 P, W.boot_o_4 P, W.boot_o_5 P, W.boot_o_6 P, W.boot_o_7 P, W.boot_o_8 P, W.boot_o_9 P, W.boot_o_10 P, tw3676578616533728092 P, Sh.T.o_317 P, tw17633199693415792588 P, tw12432220343148976017 P, tw11052394710854079219 P, tw3005040163972047132 P, tw15148068734836946304 P, tw2657696349467217392 P, Sh.T.o_11 P, tw4990257721782403080 P, tw12684364458278248100 P, tw3206212082808472805 P, tw6230867454021558045 P, tw18063462924462398971 P, tw10151882783476440694 P, tw13175770890081746665 P, tw15214621839445661637 P, tw7262661338910125694 P, tw769123703465562021 P, tw16811030816697120213 P, tw9385370859680163978 P, Sh.T.o_28 P, tw16604351953932914692 P, tw7954700601647643300 P, tw11308974283428753297 P, Sh.T.o_32 P, tw16753567770570834576 P, tw2583560690835200242 P, tw10183881313363183785 P, tw17686835455357484382 P, tw6029820556553867850 P, tw17852738036455594961 P, tw8489238128837162477 P, tw17796465208892718101 P, tw149869151409614585 P, tw17944690192942593896 P, tw682516176882901357 P, tw11452131723470765598 P, tw6003624903938541960 P, tw816093751286895730 P, Sh.T.o_51 P, tw8600622302992476273 P, tw5368399802432885976 P, tw6622364135346862855 P, Sh.T.o_55 P, tw8020677772493839443 P, tw11196882631643975305 P, tw14718606698613303596 P, tw1497899720702419673 P, tw14538602181727248087 P, tw3062040935004890092 P, tw11700072521349165390 P, tw4926298863513744070 P, tw10719610888566529287 P, tw8114579102479029301 P, tw5409590658282283232 P, tw13612554292599401793 P, tw6930627484810614371 P, tw2626913937216831726 P, Sh.T.o_74 P, tw17499274663665429383 P, tw17364734317866403741 P, tw6961160965133725138 P, Sh.T.o_78 P, tw15020433519405067399 P, tw9474224734043250416 P, tw13686015387514386869 P, tw2978970685359635831 P, tw5858500136001192658 P, tw13642991554608816964 P, tw1385638142939884189 P, tw17823836547970837144 P, tw18107353753865785385 P, tw11593417574684268033 P, tw17645677254554687096 P, tw18165121343610256921 P, tw10685371719821283271 P, tw1675419266266964677 P, Sh.T.o_97 P, tw15658301561318932344 P, tw12110741261275704956 P, tw16222170030324358797 P, Sh.T.o_101 P, tw10888323238356652688 P, tw1888324560864718111 P, tw17839002238691780670 P, tw7039648992537974855 P, tw9170245454291582940 P, tw11310603561473438528 P, tw1424885274655602977 P, tw5876805506368758899 P, tw16544286091103005728 P, tw12558606106271265890 P, tw10273615350273305107 P, tw2846065559901158778 P, tw2358719156210810820 P, tw16824128101691602425 P, Sh.T.o_120 P, tw8672976419392349089 P, tw14562601897380330729 P, tw7107270900418126903 P, tw18033181922276026697 P, tw544827506760742036 P, tw4808705207750573703 P, tw2873569239417967449 P, tw12229894625455759452 P, tw1802350222560282074 P, tw11525146900656241177 P, tw14442934989527743420 P, Sh.T.o_136 P, tw6915794438850055746 P, tw9828844671322720702 P, tw6449729241245725006 P, tw14969754862214369081 P, tw11920533944909848859 P, tw10970702932503508228 P, tw7538105188730817467 P, tw10000088372809941088 P, tw17979043652028748276 P, tw7080199781933832801 P, tw3559998823712034641 P, Sh.T.o_152 P, tw7197869224877347545 P, tw8691701139916914414 P, tw11726221141887570434 P, tw9356914858858519465 P, tw1050829041583654469 P, tw11203477687872424626 P, tw936767010676014313 P, tw11104339915682785157 P, tw13347733510042212326 P, tw3813212039153666193 P, tw11902873425492616751 P, Sh.T.o_168 P, tw3780208112946250995 P, tw9047383325413874494 P, tw6086189231151817367 P, tw12290537695069596634 P, tw17391931822514980639 P, tw2083262809754312539 P, tw12941122440940889191 P, tw13906960098184420222 P, tw17527899928347560602 P, tw2664882568305696926 P, tw3663419905130731517 P, Sh.T.o_184 P, tw12898352737872524736 P, tw4038197080105065238 P, tw803619665029810093 P, tw11361347074819914512 P, tw9923053296114917367 P, tw6417223369851049835 P, tw15307008146641462082 P, tw13890678939625739383 P, tw3544833760547084084 P, tw17834210344731653919 P, tw18001786708518064420 P, Sh.T.o_200 P, tw15386172769119431241 P, tw11861201276868520333 P, tw11794134687744712843 P, tw17921155027113478851 P, tw11120519071954449058 P, tw18091848132004642330 P, tw16836743166603773794 P, tw9021441169907919119 P, Sh.T.o_209 P, tw8072148975369583545 P, tw5232786790300503052 P, tw16800110170966731125 P, tw3546323349323014947 P, Sh.T.o_214 P, tw1856608326534171742 P, tw11210456305251722262 P, tw1435337156218506863 P, tw11040044090829736337 P, Sh.T.o_219 P, tw13939665366015407411 P, tw9391109047251724902 P, tw10943247424149273657 P, tw8158598749242557062 P, Sh.T.o_224 P, tw290284111613521078 P, tw16158488506048861101 P, tw14645996751643331931 P, tw8916979779194414387 P, Sh.T.o_229 P, tw18409862869528413244 P, tw59946006722677922 P, tw4751231641852854152 P, tw10368519808431140699 P, tw13537760946815899130 P, tw834346815729116609 P, Sh.T.o_239 P, tw3732747377050520126 P, tw6455511947383144768 P, tw6838259060165043635 P, tw1036405202060090691 P, tw14705661308031035192 P, tw17704866664694859808 P, Sh.T.o_246 P, tw16377567373858588030 P, tw8827377564911240513 P, tw7855138464363391526 P, tw119525401005569002 P, tw3471869596570508608 P, tw1640537896669225354 P, Sh.T.o_253 P, tw8723336477120503140 P, tw6022313135758984097 P, tw904666988350954343 P, tw9061591839377850957 P, tw10500956335919021633 P, tw14217681536112596942 P, Sh.T.o_260 P, tw5926403087107995425 P, tw9845865802636661930 P, tw13614785414846404022 P, tw14840747347377098054 P, tw9915559651779262913 P, tw9083238815822707354 P, Sh.T.o_267 P, tw813845883324947462 P, tw14584649530709580704 P, tw11178959860212994360 P, tw10879354692081225100 P, tw14831065422997183894 P, tw1842132627333139792 P, Sh.T.o_274 P, tw7320082122780210064 P, tw7020507199261973475 P, tw6834105101884022945 P, tw14189626945926339723 P, tw17728388389453609703 P, tw12562121482434310192 P, Sh.T.o_281 P, tw8427435215197088045 P, tw897386854742929095 P, tw5380412150714177224 P, tw15864449455720276455 P, tw12656094819909766083 P, tw1626920784238618349 P, Sh.T.o_288 P, tw13494795023556576332 P, tw8418530472170572818 P, tw14155101503219493941 P, tw18169884796847069343 P, tw14482594875075947952 P, tw2052526392457024097 P, Sh.T.o_295 P, tw2822300047179393791 P, tw16600139718314622846 P, tw12142407376624377494 P, tw12229693747975360488 P, tw11827512970755103526 P, tw9621325730727100987 P, Sh.T.o_302 P, tw5375776504745181357 P, tw6261521842214984122 P, tw12371259351283475314 P, tw14373268150941762100 P, tw13449363333316082496 P, tw4676525322127708505 P, Sh.T.o_309 P, tw8916982774804957761 P, tw17053750253658301403 P, tw2278064764195801055 P, tw42681862302554783 P, tw16239969760735061601 P, tw17313088083988966370 P, Sh.T.o_319 P, tw11634553730372250168 P, tw14864386740985924056 P, tw11696883652200176775 P, tw7437090193976964584 P, tw1915064533653618503 P, tw11190594799713432907 P, Sh.T.o_326 P, tw7709565527427675198 P, tw12615776196852021673 P, tw4098021801940294666 P, tw11229180827662072092 P, tw14171895714671942573 P, tw2550681646303817667 P, Sh.T.o_333 P, tw6551124319144041346 P, tw7979174416411911597 P, tw15825671936468652643 P, tw8826228761773167189 P, Sh.T.o_338 P, tw1051560918764250156 P, tw2176461200044494321 P, tw2848800628441198272 P, tw15349514958811838483 P, Sh.T.o_343 P, tw9242046907765767367 P, tw8089941955320868528 P, tw422024408115073480 P]⟩, {}⟩
theorem te14018582270685769126 : hp = tw14018582270685769126 := funext fun P => congrArg (fun l => Heap.mk (Array.mk l) {}) (hc rfl (hc rfl (hc rfl (hc te8767833281909128591 (hc rfl (hc rfl (hc rfl (hc rfl (hc rfl (hc rfl (hc rfl (hc te3676578616533728092 (hc rfl (hc te17633199693415792588 (hc te12432220343148976017 (hc te11052394710854079219 (hc te3005040163972047132 (hc te15148068734836946304 (hc te2657696349467217392 (hc rfl (hc te4990257721782403080 (hc te12684364458278248100 (hc te3206212082808472805 (hc te6230867454021558045 (hc te18063462924462398971 (hc te10151882783476440694 (hc te13175770890081746665 (hc te15214621839445661637 (hc te7262661338910125694 (hc te769123703465562021 (hc te16811030816697120213 (hc te9385370859680163978 (hc rfl (hc te16604351953932914692 (hc te7954700601647643300 (hc te11308974283428753297 (hc rfl (hc te16753567770570834576 (hc te2583560690835200242 (hc te10183881313363183785 (hc te17686835455357484382 (hc te6029820556553867850 (hc te17852738036455594961 (hc te8489238128837162477 (hc te17796465208892718101 (hc te149869151409614585 (hc te17944690192942593896 (hc te682516176882901357 (hc te11452131723470765598 (hc te6003624903938541960 (hc te816093751286895730 (hc rfl (hc te8600622302992476273 (hc te5368399802432885976 (hc te6622364135346862855 (hc rfl (hc te8020677772493839443 (hc te11196882631643975305 (hc te14718606698613303596 (hc te1497899720702419673 (hc te14538602181727248087 (hc te3062040935004890092 (hc te11700072521349165390 (hc te4926298863513744070 (hc te10719610888566529287 (hc te8114579102479029301 (hc te5409590658282283232 (hc te13612554292599401793 (hc te6930627484810614371 (hc te2626913937216831726 (hc rfl (hc te17499274663665429383 (hc te17364734317866403741 (hc te6961160965133725138 (hc rfl (hc te15020433519405067399 (hc te9474224734043250416 (hc te13686015387514386869 (hc te2978970685359635831 (hc te5858500136001192658 (hc te13642991554608816964 (hc te1385638142939884189 (hc te17823836547970837144 (hc te18107353753865785385 (hc te11593417574684268033 (hc te17645677254554687096 (hc te18165121343610256921 (hc te10685371719821283271 (hc te1675419266266964677 (hc rfl (hc te15658301561318932344 (hc te12110741261275704956 (hc te16222170030324358797 (hc rfl (hc te10888323238356652688 (hc te1888324560864718111 (hc te17839002238691780670 (hc te7039648992537974855 (hc te9170245454291582940 (hc te11310603561473438528 (hc te1424885274655602977 (hc te5876805506368758899 (hc te16544286091103005728 (hc te12558606106271265890 (hc te10273615350273305107 (hc te2846065559901158778 (hc te2358719156210810820 (hc te16824128101691602425 (hc rfl (hc te8672976419392349089 (hc te14562601897380330729 (hc te7107270900418126903 (hc te18033181922276026697 (hc te544827506760742036 (hc te4808705207750573703 (hc te2873569239417967449 (hc te12229894625455759452 (hc te1802350222560282074 (hc te11525146900656241177 (hc te14442934989527743420 (hc rfl (hc te6915794438850055746 (hc te9828844671322720702 (hc te6449729241245725006 (hc te14969754862214369081 (hc te11920533944909848859 (hc te10970702932503508228 (hc te7538105188730817467 (hc te10000088372809941088 (hc te17979043652028748276 (hc te7080199781933832801 (hc te3559998823712034641 (hc rfl (hc te7197869224877347545 (hc te8691701139916914414 (hc te11726221141887570434 (hc te9356914858858519465 (hc te1050829041583654469 (hc te11203477687872424626 (hc te936767010676014313 (hc te11104339915682785157 (hc te13347733510042212326 (hc te3813212039153666193 (hc te11902873425492616751 (hc rfl (hc te3780208112946250995 (hc te9047383325413874494 (hc te6086189231151817367 (hc te12290537695069596634 (hc te17391931822514980639 (hc te2083262809754312539 (hc te12941122440940889191 (hc te13906960098184420222 (hc te17527899928347560602 (hc te2664882568305696926 (hc te3663419905130731517 (hc rfl (hc te12898352737872524736 (hc te4038197080105065238 (hc te803619665029810093 (hc te11361347074819914512 (hc te9923053296114917367 (hc te6417223369851049835 (hc te15307008146641462082 (hc te13890678939625739383 (hc te3544833760547084084 (hc te17834210344731653919 (hc te18001786708518064420 (hc rfl (hc te15386172769119431241 (hc te11861201276868520333 (hc te11794134687744712843 (hc te17921155027113478851 (hc te11120519071954449058 (hc te18091848132004642330 (hc te16836743166603773794 (hc te9021441169907919119 (hc rfl (hc te8072148975369583545 (hc te5232786790300503052 (hc te16800110170966731125 (hc te3546323349323014947 (hc rfl (hc te1856608326534171742 (hc te11210456305251722262 (hc te1435337156218506863 (hc te11040044090829736337 (hc rfl (hc te13939665366015407411 (hc te9391109047251724902 (hc te10943247424149273657 (hc te8158598749242557062 (hc rfl (hc te290284111613521078 (hc te16158488506048861101 (hc te14645996751643331931 (hc te8916979779194414387 (hc rfl (hc te18409862869528413244 (hc te59946006722677922 (hc te4751231641852854152 (hc te10368519808431140699 (hc te13537760946815899130 (hc te834346815729116609 (hc rfl (hc te3732747377050520126 (hc te6455511947383144768 (hc te6838259060165043635 (hc te1036405202060090691 (hc te14705661308031035192 (hc te17704866664694859808 (hc rfl (hc te16377567373858588030 (hc te8827377564911240513 (hc te7855138464363391526 (hc te119525401005569002 (hc te3471869596570508608 (hc te1640537896669225354 (hc rfl (hc te8723336477120503140 (hc te6022313135758984097 (hc te904666988350954343 (hc te9061591839377850957 (hc te10500956335919021633 (hc te14217681536112596942 (hc rfl (hc te5926403087107995425 (hc te9845865802636661930 (hc te13614785414846404022 (hc te14840747347377098054 (hc te9915559651779262913 (hc te9083238815822707354 (hc rfl (hc te813845883324947462 (hc te14584649530709580704 (hc te11178959860212994360 (hc te10879354692081225100 (hc te14831065422997183894 (hc te1842132627333139792 (hc rfl (hc te7320082122780210064 (hc te7020507199261973475 (hc te6834105101884022945 (hc te14189626945926339723 (hc te17728388389453609703 (hc te12562121482434310192 (hc rfl (hc te8427435215197088045 (hc te897386854742929095 (hc te5380412150714177224 (hc te15864449455720276455 (hc te12656094819909766083 (hc te1626920784238618349 (hc rfl (hc te13494795023556576332 (hc te8418530472170572818 (hc te14155101503219493941 (hc te18169884796847069343 (hc te14482594875075947952 (hc te2052526392457024097 (hc rfl (hc te2822300047179393791 (hc te16600139718314622846 (hc te12142407376624377494 (hc te12229693747975360488 (hc te11827512970755103526 (hc te9621325730727100987 (hc rfl (hc te5375776504745181357 (hc te6261521842214984122 (hc te12371259351283475314 (hc te14373268150941762100 (hc te13449363333316082496 (hc te4676525322127708505 (hc rfl (hc te8916982774804957761 (hc te17053750253658301403 (hc te2278064764195801055 (hc te42681862302554783 (hc te16239969760735061601 (hc te17313088083988966370 (hc rfl (hc te11634553730372250168 (hc te14864386740985924056 (hc te11696883652200176775 (hc te7437090193976964584 (hc te1915064533653618503 (hc te11190594799713432907 (hc rfl (hc te7709565527427675198 (hc te12615776196852021673 (hc te4098021801940294666 (hc te11229180827662072092 (hc te14171895714671942573 (hc te2550681646303817667 (hc rfl (hc te6551124319144041346 (hc te7979174416411911597 (hc te15825671936468652643 (hc te8826228761773167189 (hc rfl (hc te1051560918764250156 (hc te2176461200044494321 (hc te2848800628441198272 (hc te15349514958811838483 (hc rfl (hc te9242046907765767367 (hc te8089941955320868528 (hc te422024408115073480 rfl)))))))))))))))))))))))))))))))))))))))))))))))))))))))))))))))))))))))))))))))))))))))))))))))))))))))))))))))))))))))))))))))))))))))))))))))))))))))))))))))))))))))))))))))))))))))))))))))))))))))))))))))))))))))))))))))))))))))))))))))))))))))))))))))))))))))))))))))))))))))))))))))))))))))))))))))))))))
noncomputable def tw2688406353271634136 : Params → W.Frag := fun _ => []
theorem te2688406353271634136 : tw2688406353271634136 = tw2688406353271634136 := rfl
end W.Fast
end PySem
open PySem PySem.W PyProof.Rows
set_option maxRecDepth 100000 in
set_option maxHeartbeats 0 in
theorem PySem.Challenge.cw_boughback_k65_whole_plan_and_its_witness_holds : PySem.Challenge.rw_boughback_k65_whole_plan_and_its_witness.Holds := by
  w_on; o_law; k_head; (case hw => w_witness2)
  k_fill
  refine My.walk (l := PySem.Challenge.rw_boughback_k65_whole_plan_and_its_witness) rfl rfl (fun w h Y => PySem.W.km_in_of Y) (fun w h Y => PySem.W.km_tabs_of Y _ (List.mem_singleton.mpr rfl)) (fun w => ?KC) (fun w => ?KT) ?F
  case KC => kernel_rfl
  case KT => kernel_rfl
  case F =>
    intro w mg fa h KX G hmg
    refine' My.all_mk KX G hmg ?a0 ?l0 ?c0 ?k0 ?a1 ?l1 ?c1 ?k1 ?a2 ?l2 ?c2 ?k2 ?a3 ?l3 ?c3 ?k3 ?a4 ?l4 ?c4 ?k4 ?a5 ?l5 ?c5 ?k5 ?a6 ?l6 ?c6 ?k6 ?a7 ?l7 ?c7 ?k7 ?a8 ?l8 ?c8 ?k8 ?a9 ?l9 ?c9 ?k9 ?a10 ?l10 ?c10 ?k10 ?a11 ?l11 ?c11 ?k11 ?a12 ?l12 ?c12 ?k12 ?a13 ?l13 ?c13 ?k13 ?a14 ?l14 ?c14 ?k14 ?a15 ?l15 ?c15 ?k15 ?a16 ?l16 ?c16 ?k16 ?a17 ?l17 ?c17 ?k17 ?a18 ?l18 ?c18 ?k18 ?a19 ?l19 ?c19 ?k19 ?a20 ?l20 ?c20 ?k20 ?z_len ?z_range ?z_list ?z_enumerate ?z_sum ?z_min ?z_sorted ?z_reversed ?z_any ?z_zip ?z_isinstance ?z_int ?z_bool ?z_tuple ?z_ValueError ?hcc ?hch ?aCBoughError ?aCClash ?aCEmpty ?aCHangs ?aCNoDeed ?aCNoRoom ?aCNoStand ?aCNoText ?aCNoWord ?aCTwice ?aCUnfit ?xcNoRoom ?xgaNoRoom ?xgtNoRoom ?xclNoRoom ?xobNoRoom ?xbeNoRoom ?xciNoRoom ?exNoRoom ?kvNoRoom ?qNoRoom_Clash ?qNoRoom_Empty ?qNoRoom_Hangs ?qNoRoom_NoDeed ?qNoRoom_NoRoom ?qNoRoom_NoStand ?qNoRoom_NoText ?qNoRoom_NoWord ?qNoRoom_Twice ?qNoRoom_Unfit
    (case a0 => k_is)
    (case l0 => k_is)
    (case c0 => k_is)
    (case k0 => k_is)
    (case a1 => k_is)
    (case l1 => k_is)
    (case c1 => k_is)
    (case k1 => k_is)
    (case a2 => k_is)
    (case l2 => k_is)
    (case c2 => k_is)
    (case k2 => k_is)
    (case a3 => k_is)
    (case l3 => k_is)
    (case c3 => k_is)
    (case k3 => k_is)
    (case a4 => k_is)
    (case l4 => k_is)
    (case c4 => k_is)
    (case k4 => k_is)
    (case a5 => k_is)
    (case l5 => k_is)
    (case c5 => k_is)
    (case k5 => k_is)
    (case a6 => k_is)
    (case l6 => k_is)
    (case c6 => k_is)
    (case k6 => k_is)
    (case a7 => k_is)
    (case l7 => k_is)
    (case c7 => k_is)
    (case k7 => k_is)
    (case a8 => k_is)
    (case l8 => k_is)
    (case c8 => k_is)
    (case k8 => k_is)
    (case a9 => k_is)
    (case l9 => k_is)
    (case c9 => k_is)
    (case k9 => k_is)
    (case a10 => k_is)
    (case l10 => k_is)
    (case c10 => k_is)
    (case k10 => k_is)
    (case a11 => k_is)
    (case l11 => k_is)
    (case c11 => k_is)
    (case k11 => k_is)
    (case a12 => k_is)
    (case l12 => k_is)
    (case c12 => k_is)
    (case k12 => k_is)
    (case a13 => k_is)
    (case l13 => k_is)
    (case c13 => k_is)
    (case k13 => k_is)
    (case a14 => k_is)
    (case l14 => k_is)
    (case c14 => k_is)
    (case k14 => k_is)
    (case a15 => k_is)
    (case l15 => k_is)
    (case c15 => k_is)
    (case k15 => k_is)
    (case a16 => k_is)
    (case l16 => k_is)
    (case c16 => k_is)
    (case k16 => k_is)
    (case a17 => k_is)
    (case l17 => k_is)
    (case c17 => k_is)
    (case k17 => k_is)
    (case a18 => k_is)
    (case l18 => k_is)
    (case c18 => k_is)
    (case k18 => k_is)
    (case a19 => k_is)
    (case l19 => k_is)
    (case c19 => k_is)
    (case k19 => k_is)
    (case a20 => k_is)
    (case l20 => k_is)
    (case c20 => k_is)
    (case k20 => k_is)
    (case z_len => k_is)
    (case z_range => k_is)
    (case z_list => k_is)
    (case z_enumerate => k_is)
    (case z_sum => k_is)
    (case z_min => k_is)
    (case z_sorted => k_is)
    (case z_reversed => k_is)
    (case z_any => k_is)
    (case z_zip => k_is)
    (case z_isinstance => k_is)
    (case z_int => k_is)
    (case z_bool => k_is)
    (case z_tuple => k_is)
    (case z_ValueError => k_is)
    (case hcc => exact rfl)
    (case hch => kernel_rfl)
    (case aCBoughError => k_is)
    (case aCClash => k_is)
    (case aCEmpty => k_is)
    (case aCHangs => k_is)
    (case aCNoDeed => k_is)
    (case aCNoRoom => k_is)
    (case aCNoStand => k_is)
    (case aCNoText => k_is)
    (case aCNoWord => k_is)
    (case aCTwice => k_is)
    (case aCUnfit => k_is)
    (case xcNoRoom => k_exc)
    (case xgaNoRoom => k_is)
    (case xgtNoRoom => k_is)
    (case xclNoRoom => k_is)
    (case xobNoRoom => k_is)
    (case xbeNoRoom => k_is)
    (case xciNoRoom => k_is)
    (case exNoRoom => kts_exm)
    (case kvNoRoom => kit_is)
    (case qNoRoom_Clash => kit_is)
    (case qNoRoom_Empty => kit_is)
    (case qNoRoom_Hangs => kit_is)
    (case qNoRoom_NoDeed => kit_is)
    (case qNoRoom_NoRoom => kit_is)
    (case qNoRoom_NoStand => kit_is)
    (case qNoRoom_NoText => kit_is)
    (case qNoRoom_NoWord => kit_is)
    (case qNoRoom_Twice => kit_is)
    (case qNoRoom_Unfit => kit_is)

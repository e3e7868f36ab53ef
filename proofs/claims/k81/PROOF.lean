import PyProof.Rows.All
import Wide.All
import OpenK.AllK
import Wide.FinOn
import Lean
import PyProof.EqAt
import PyProof.EqKinds
import PyProof.TupleCall
import PyProof.NeKinds
import PyProof.CompFree
import PyProof.CompMap
import PyProof.StrWalks
import PyProof.ConsumeWalk
import PyProof.ExcBaseAll.ValueError
import PyProof.RulesAs
import PyProof.RulesDel
import PyProof.ExcAttrAll.ValueError
import KE.KEqDict
import KE.KDictOf
import PyProof.Rows.TupDisplay
import PyProof.EnumMake
import KE.KRevIter
import KE.KDictList
import PyProof.Rows.CountFlat
import PyProof.Rows.SeqMore2
import PyProof.StrCalls2
import PyProof.StrCalls3
import PyProof.StrLawsTight
import PyProof.StrLawsJoin
import PyProof.StrLawsOcc
import PyProof.MeetsStr2
import PyProof.Rows.StrJoin2
import PyProof.Rows.StrReprJoin
import PyProof.StrLawsIdx
import KE.KIntText
import KE.RegKTryMore
import PySem.Challenge.RW_boughback_k81_numbers_written
set_option Elab.async false
set_option linter.all false
set_option maxRecDepth 100000
namespace L2
open PySem PySem.Spec PyProof.Rows
abbrev Key := Sum Int Str
def keyIs : Key → Value → Bool
  | .inl k, v => Value.isInt k v
  | .inr x, v => Value.isStrOf x v
def keyH (w : World) : Key → Int
  | .inl k => hashInt k
  | .inr x => hashStr w x
theorem keyIs_shape : ∀ {k : Key} {v : Value}, keyIs k v = true → (∃ i t, k = Sum.inl i ∧ v = Value.int i t) ∨ (∃ x t, k = Sum.inr x ∧ v = Value.str x t)
  | .inl i, v, h => by
    obtain ⟨t, e⟩ := Value.isInt_shape (k := i) (v := v) h
    exact .inl ⟨i, t, rfl, e⟩
  | .inr x, v, h => by
    obtain ⟨t, e⟩ := Value.isStrOf_shape (x := x) (v := v) h
    exact .inr ⟨x, t, rfl, e⟩
theorem key_ll (a b : Int) : decide ((Sum.inl a : Key) = Sum.inl b) = (a == b) := by
  by_cases e : a = b
  · subst e; simp
  · have h : ¬ (Sum.inl a : Key) = Sum.inl b := fun q => e (Sum.inl.inj q)
    rw [decide_eq_false h]
    exact (beq_eq_false_iff_ne.mpr e).symm
theorem key_rr (a b : Str) : decide ((Sum.inr a : Key) = Sum.inr b) = decide (a = b) := by
  by_cases e : a = b
  · subst e; simp
  · have h : ¬ (Sum.inr a : Key) = Sum.inr b := fun q => e (Sum.inr.inj q)
    rw [decide_eq_false h, decide_eq_false e]
theorem key_lr (a : Int) (b : Str) : decide ((Sum.inl a : Key) = Sum.inr b) = false := decide_eq_false (fun q => nomatch q)
theorem key_rl (a : Str) (b : Int) : decide ((Sum.inr a : Key) = Sum.inl b) = false := decide_eq_false (fun q => nomatch q)
def mixKind (prog : Program) (w : World) : PySem.KeyKind prog w Key where
  is := keyIs
  hash := keyH w
  inj := fun v a b ha hb => by
    rcases keyIs_shape ha with ⟨i, t, rfl, rfl⟩ | ⟨x, t, rfl, rfl⟩
    · rcases keyIs_shape hb with ⟨j, u, rfl, e⟩ | ⟨y, u, rfl, e⟩
      · injection e with e1 _; rw [e1]
      · exact nomatch e
    · rcases keyIs_shape hb with ⟨j, u, rfl, e⟩ | ⟨y, u, rfl, e⟩
      · exact nomatch e
      · injection e with e1 _; rw [e1]
  byValue := fun k v h => by
    rcases keyIs_shape h with ⟨i, t, rfl, rfl⟩ | ⟨x, t, rfl, rfl⟩ <;> rfl
  pyHash := fun hv h => by
    rcases keyIs_shape hv with ⟨i, t, rfl, rfl⟩ | ⟨x, t, rfl, rfl⟩
    · exact wpAny_pyHash_int h
    · exact wpAny_pyHash_str h
  eqBool := fun hu hv h => by
    rcases keyIs_shape hu with ⟨i, t, rfl, rfl⟩ | ⟨x, t, rfl, rfl⟩
    · rcases keyIs_shape hv with ⟨j, u, rfl, rfl⟩ | ⟨y, u, rfl, rfl⟩
      · rw [key_ll] at h; exact wpAny_eqBool_int h
      · rw [key_lr] at h; exact SeqAt.EqAt.int_str i t y u _ _ _ _ h
    · rcases keyIs_shape hv with ⟨j, u, rfl, rfl⟩ | ⟨y, u, rfl, rfl⟩
      · rw [key_rl] at h; exact SeqAt.EqAt.str_int x t j u _ _ _ _ h
      · rw [key_rr] at h; exact wpAny_eqBool_str h
  «strs» := fun k x t v h => by
    rcases keyIs_shape h with ⟨i, u, rfl, e⟩ | ⟨y, u, rfl, e⟩
    · exact nomatch e
    · injection e with e1 _
      subst e1
      cases v <;> rfl
end L2
namespace L2
open PySem PySem.Spec PyProof.Rows
inductive V where
  | non | bl (b : Bool) | int (i : Int) | str (x : Str) | byt (b : Array UInt8) | flt (b : UInt64) | ref (a : Addr) | ty (n : String)
  deriving DecidableEq
def RelV : V → Value → Prop
  | .non, u => u = Value.none
  | .bl b, u => u = Value.bool b
  | .int i, u => ∃ t, u = Value.int i t
  | .str x, u => ∃ t, u = Value.str x t
  | .byt b, u => ∃ t, u = Value.bytes b t
  | .flt b, u => ∃ t, u = Value.float b t
  | .ref a, u => u = Value.ref a
  | .ty n, u => u = Value.type n
abbrev Vals : List V → List Value → Prop := Paired RelV
theorem Vals.length {xs : List V} {us : List Value} (r : Vals xs us) : xs.length = us.length := Paired.length r
theorem Vals.get : ∀ {xs : List V} {us : List Value} {i : Nat} {x : V}, Vals xs us → xs[i]? = some x → ∃ u, us[i]? = some u ∧ RelV x u
  | _, _, _, _, .nil, e => by simp at e
  | _, _, 0, _, .cons r _, e => by simp at e; subst e; exact ⟨_, rfl, r⟩
  | _, _, i + 1, x, .cons _ t, e => by
    obtain ⟨u, h1, h2⟩ := Vals.get (i := i) (x := x) t (by simpa using e)
    exact ⟨u, by simpa using h1, h2⟩
theorem Vals.append : ∀ {xs ys : List V} {us ws : List Value}, Vals xs us → Vals ys ws → Vals (xs ++ ys) (us ++ ws)
  | _, _, _, _, .nil, s => s
  | _, _, _, _, .cons r t, s => .cons r (Vals.append t s)
def RelO : Option V → Option Value → Prop
  | some v, some u => RelV v u
  | none, none => True
  | _, _ => False
def KV {κ : Type} : List (κ × V) → List (κ × Value) → Prop := Paired fun (p : κ × V) (q : κ × Value) => p.1 = q.1 ∧ RelV p.2 q.2
def kV : Key → V
  | .inl i => .int i
  | .inr x => .str x
inductive HO where
  /-- a list -/
  | lst (xs : List V)
  /-- a tuple (never changes) -/
  | tup (xs : List V)
  /-- a dict whose keys are ints and texts; one whose keys are tuples of ints and texts (the empty one is both) -/
  | dK (kvs : List (Key × V)) | dT (kvs : List (List Key × V))
  /-- a set of ints: its members, its size -/
  | set (S : Int → Bool) (n : Nat)
  /-- an instance of the class at C, its dict at dx, its attributes -/
  | ins (C dx : Addr) (fs : List (Str × V))
  /-- the dict of the instance at x -/
  | own (x : Addr)
  /-- the dict of an exception -/
  | xd (fs : List (Str × V))
  /-- a bound method, f of x -/
  | met (f x : Addr)
  /-- a range object lo, lo + 1, .. below hi -/
  | rng (lo hi : Int)
  /-- a thing that is known to the object (the script; a dict while a loop walks it): read, never written while it is so -/
  | frz (o : Obj) (u : HO)
  /-- a code object's table -/
  | tbl (ps : Array Value)
  /-- any other thing, by what is true of its one object (a def of one's own: SetO a S n := HO.ext fun h => ..) -/
  | ext (φ : Heap → Prop)
abbrev Hp := Addr → Option HO
def upd (H : Hp) (a : Addr) (o : HO) : Hp := fun b => if b = a then some o else H b
theorem upd_same {H : Hp} {a : Addr} {o : HO} : upd H a o a = some o := by unfold upd; rw [if_pos rfl]
theorem upd_ne {H : Hp} {a b : Addr} {o : HO} (h : b ≠ a) : upd H a o b = H b := by unfold upd; rw [if_neg h]
theorem ne_of_none {H : Hp} {a b : Addr} {o : HO} (h : H a = some o) (h' : H b = none) : a ≠ b := by
  intro e; subst e; rw [h] at h'; cases h'
section
variable (P : Program) (w : World)
def ObjOk (H : Hp) (h : Heap) (a : Addr) : HO → Prop
  | .lst xs => xs.length ≤ sizeLine ∧ ∃ (its : List Value) (n : Nat), Vals xs its ∧ h.get? a = some { cls := .type "list", data := .seq its.toArray n }
  | .tup xs => xs.length ≤ sizeLine ∧ ∃ its : List Value, Vals xs its ∧ IsTup h a its.toArray
  | .dK kvs => kvs.length ≤ sizeLine ∧ (a == sysModules) = false ∧ ∃ vs, KV kvs vs ∧ h.DictOf (mixKind P w) a vs
  | .dT kvs => kvs.length ≤ sizeLine ∧ (a == sysModules) = false ∧ ∃ xs : List (List Key × Addr × Value),
      Paired (fun (p : List Key × V) (q : List Key × Addr × Value) => p.1 = q.1 ∧ H q.2.1 = some (.tup (p.1.map kV)) ∧ RelV p.2 q.2.2) kvs xs ∧
      ∃ o es ep, h.get? a = some o ∧ o.ExactDict ∧ o.data = .dict es ep ∧ es.toList = xs.map (entryOfKey (tupleKind (mixKind P w))) ∧ (xs.map (·.1)).Nodup
  | .set S n => h.SetOf (intKind P w) a S n
  | .ins C dx fs => H dx = some (.own a) ∧ fs.length ≤ 1000 ∧ dx ≠ a ∧ h.get? a = some (PySem.W.instObj C dx) ∧
      ∃ mA, h.Ns1 dx mA ∧ (∀ f, RelO (fs.lookup f) (mA f)) ∧ PySem.Within mA (fs.map (·.1))
  | .own _ => ∃ o, h.get? a = some o
  | .xd fs => ∃ mA, h.Ns1 a mA ∧ ∀ f, RelO (fs.lookup f) (mA f)
  | .rng lo hi => ∃ t u v, h.get? a = some { cls := .type "range", data := .fields #[.int lo t, .int hi u, .int 1 v] }
  | .frz o u => h.get? a = some o ∧ ObjOk H h a u
  | .tbl d => ∃ ps, h.get? a = some { cls := .none, data := .fields ps } ∧ (ps = #[] ∨ ∃ (l k : Value) (q : Str) (t : Tok) (c : Addr), d = #[l, k, .str q t] ∧ ps = #[l, k, .ref c] ∧ H c = some (.own a) ∧ h.CodeRec (.ref c) q)
  | .met f x => h.get? a = some (PySem.W.methodObj (.ref f) (.ref x))
  | .ext φ => φ h ∧ (∃ o, h.get? a = some o) ∧ ∀ h1 h2 : Heap, φ h1 → (∀ o, h1.get? a = some o → h2.get? a = some o) → φ h2
def HOk (H : Hp) (h : Heap) : Prop := ∀ a o, H a = some o → ObjOk P w H h a o
end
section
variable {P : Program} {w : World} {H H' : Hp} {h h' : Heap} {a : Addr} {o : HO}
theorem ObjOk.lt (x : ObjOk P w H h a o) : a < h.objs.size := by
  cases o with
  | lst xs => obtain ⟨_, _, _, _, e⟩ := x; exact Heap.lt_size e
  | tup xs => obtain ⟨_, _, _, p⟩ := x; exact p.lt
  | dK kvs => obtain ⟨_, _, _, _, o, _, _, e, _⟩ := x; exact Heap.lt_size e
  | dT kvs => obtain ⟨_, _, _, _, o, _, _, e, _⟩ := x; exact Heap.lt_size e
  | set S n => obtain ⟨o, _, _, _, e, _⟩ := x; exact Heap.lt_size e
  | ins C dx fs => obtain ⟨_, _, _, e, _⟩ := x; exact Heap.lt_size e
  | own y => obtain ⟨_, e⟩ := x; exact Heap.lt_size e
  | xd fs => obtain ⟨_, ⟨_, _, _, e, _⟩, _⟩ := x; exact Heap.lt_size e
  | rng lo hi => obtain ⟨_, _, _, e⟩ := x; exact Heap.lt_size e
  | frz ob u => obtain ⟨e, _⟩ := x; exact Heap.lt_size e
  | tbl ps => obtain ⟨_, e, _⟩ := x; exact Heap.lt_size e
  | met f y => exact Heap.lt_size (show h.get? a = some _ from x)
  | ext φ => obtain ⟨_, ⟨_, e⟩, _⟩ := x; exact Heap.lt_size e
theorem Paired.mapP {α β : Type} {F G : α → β → Prop} : ∀ {l₁ : List α} {l₂ : List β}, Paired F l₁ l₂ → (∀ a b, F a b → G a b) → Paired G l₁ l₂
  | _, _, .nil, _ => .nil
  | _, _, .cons r t, f => .cons (f _ _ r) (Paired.mapP t f)
theorem ObjOk.stay (x : ObjOk P w H h a o) (k : ∀ b u, (b = a ∨ H b = some (.own a)) → h.get? b = some u → h'.get? b = some u)
    (ho : ∀ b, H b = some (.own a) → H' b = some (.own a)) (ht : ∀ b xs, H b = some (.tup xs) → H' b = some (.tup xs)) : ObjOk P w H' h' a o := by
  induction o with
  | lst xs => obtain ⟨z, its, n, r, e⟩ := x; exact ⟨z, its, n, r, k _ _ (.inl rfl) e⟩
  | tup xs => obtain ⟨z, its, r, ob, e, c⟩ := x; exact ⟨z, its, r, ob, k _ _ (.inl rfl) e, c⟩
  | dK kvs => obtain ⟨z, y, vs, r, ob, es, ep, e, c⟩ := x; exact ⟨z, y, vs, r, ob, es, ep, k _ _ (.inl rfl) e, c⟩
  | dT kvs =>
    obtain ⟨z, y, xs, r, ob, es, ep, e, c⟩ := x
    exact ⟨z, y, xs, Paired.mapP r fun p q z => ⟨z.1, ht _ _ z.2.1, z.2.2⟩, ob, es, ep, k _ _ (.inl rfl) e, c⟩
  | set S n => obtain ⟨ob, es, ep, t, e, c⟩ := x; exact ⟨ob, es, ep, t, k _ _ (.inl rfl) e, c⟩
  | ins C dx fs =>
    obtain ⟨d, z, ne, e, mA, ⟨od, es, ep, e2, c⟩, r⟩ := x
    exact ⟨ho _ d, z, ne, k _ _ (.inl rfl) e, mA, ⟨od, es, ep, k _ _ (.inr d) e2, c⟩, r⟩
  | own y => obtain ⟨ob, e⟩ := x; exact ⟨ob, k _ _ (.inl rfl) e⟩
  | xd fs => obtain ⟨mA, ⟨od, es, ep, e, c⟩, r⟩ := x; exact ⟨mA, ⟨od, es, ep, k _ _ (.inl rfl) e, c⟩, r⟩
  | rng lo hi => obtain ⟨t, u, v, e⟩ := x; exact ⟨t, u, v, k _ _ (.inl rfl) e⟩
  | frz ob u ih => obtain ⟨e, q⟩ := x; exact ⟨k _ _ (.inl rfl) e, ih q⟩
  | tbl d =>
    obtain ⟨ps, e, r⟩ := x
    refine ⟨ps, k a _ (.inl rfl) e, ?_⟩
    rcases r with r | ⟨l, k', q, t, c, e1, e2, e3, c2, oc, vs, t2, f1, f2, f3, f4⟩
    · exact .inl r
    · cases f1
      exact .inr ⟨l, k', q, t, c, e1, e2, ho _ e3, c, oc, vs, t2, rfl, k c oc (.inr e3) f2, f3, f4⟩
  | met f y =>
    have e : h.get? a = some (PySem.W.methodObj (.ref f) (.ref y)) := x
    show h'.get? a = some (PySem.W.methodObj (.ref f) (.ref y))
    exact k a _ (.inl rfl) e
  | ext φ => obtain ⟨p, ⟨o, e⟩, st⟩ := x; exact ⟨st _ _ p fun o q => k _ _ (.inl rfl) q, ⟨o, k _ _ (.inl rfl) e⟩, st⟩
theorem HOk.lt (x : HOk P w H h) (e : H a = some o) : a < h.objs.size := (x a o e).lt
theorem HOk.fresh (x : HOk P w H h) (e : h.objs.size ≤ a) : H a = none := by
  cases q : H a with
  | none => rfl
  | some u => exact absurd (Nat.lt_of_lt_of_le (x.lt q) e) (Nat.lt_irrefl _)
theorem HOk.kept (x : HOk P w H h) (k : ∀ b u, h.get? b = some u → h'.get? b = some u) : HOk P w H h' := fun a o e =>
  (x a o e).stay (fun b u _ q => k b u q) (fun _ q => q) fun _ _ q => q
theorem HOk.laid (x : HOk P w H h) (k : ∀ b u, h.get? b = some u → h'.get? b = some u) (hp : h.objs.size ≤ a) (new : ObjOk P w (upd H a o) h' a o) : HOk P w (upd H a o) h' := fun b u e => by
  have hn := x.fresh hp
  by_cases hb : b = a
  · subst hb; rw [upd_same] at e; cases e; exact new
  · rw [upd_ne hb] at e
    exact (x b u e).stay (fun c v _ q => k c v q) (fun c q => by rw [upd_ne (ne_of_none q hn)]; exact q) fun c xs q => by rw [upd_ne (ne_of_none q hn)]; exact q
end
def Rd (H : Hp) (a : Addr) (u : HO) : Prop := H a = some u ∨ ∃ o, H a = some (.frz o u)
theorem Rd.ok {P : Program} {w : World} {H : Hp} {h : Heap} {a : Addr} {u : HO} (r : Rd H a u) (x : HOk P w H h) : ObjOk P w H h a u := by
  rcases r with r | ⟨o, r⟩
  · exact x a u r
  · obtain ⟨_, q⟩ := x a _ r
    exact q
def Mut : Option HO → Prop
  | some (.lst _) => True
  | some (.dK _) => True
  | some (.dT _) => True
  | some (.set _ _) => True
  | some (.ins _ _ _) => True
  | some (.ext _) => True
  | _ => False
section
variable {P : Program} {w : World} {H : Hp} {h h' : Heap} {x e : Addr} {o' : HO}
theorem HOk.write (ok : HOk P w H h) (mu : Mut (H x)) (he : e = x ∨ H e = some (.own x)) (k : ∀ b u, b ≠ e → h.get? b = some u → h'.get? b = some u) (heo : ∃ u, h'.get? e = some u)
    (new : ObjOk P w (upd H x o') h' x o') : HOk P w (upd H x o') h' := fun b u q => by
  have nown : ∀ c y, H c = some (.own y) → c ≠ x := fun c y r z => by subst z; rw [r] at mu; exact mu
  have ntup : ∀ c xs, H c = some (.tup xs) → c ≠ x := fun c xs r z => by subst z; rw [r] at mu; exact mu
  by_cases hb : b = x
  · subst hb; rw [upd_same] at q; cases q; exact new
  · rw [upd_ne hb] at q
    by_cases hbe : b = e
    · have q' : H b = some (.own x) := by
        rcases he with z | z
        · exact absurd (hbe.trans z) hb
        · rw [hbe]; exact z
      rw [q] at q'; cases q'
      obtain ⟨v, hv⟩ := heo
      exact ⟨v, by rw [hbe]; exact hv⟩
    · refine (ok b u q).stay (fun c v hc r => k c v ?_ r) (fun c r => by rw [upd_ne (nown c b r)]; exact r) fun c xs r => by rw [upd_ne (ntup c xs r)]; exact r
      rcases hc with rfl | hc
      · exact hbe
      · rintro rfl
        rcases he with z | z
        · exact nown c b hc z
        · rw [hc] at z; cases z; exact hb rfl
end
structure Un (fs ex : List Addr) (H H' : Hp) (h h' : Heap) : Prop where
  keep : ∀ b o, h.get? b = some o → H b = none → b ∉ fs → b ∉ ex → h'.get? b = some o
  slot : ∀ b o, h.get? b = some o → H b = none → b ∈ fs → b ∉ ex → ∃ sl, h'.get? b = some { o with slots := sl }
  free : ∀ b o, h.get? b = some o → H b = none → b ∉ ex → H' b = none
  there : ∀ b o, h.get? b = some o → b ∉ ex → ∃ o', h'.get? b = some o'
  tups : ∀ b xs, H b = some (.tup xs) → H' b = some (.tup xs)
  frzs : ∀ b o u, H b = some (.frz o u) → H' b = some (.frz o u)
  tbls : ∀ b ps, H b = some (.tbl ps) → ∃ more, H' b = some (.tbl (ps ++ more))
section
variable {fs fs' ex ex' : List Addr} {H H1 H2 : Hp} {h h1 h2 h' : Heap} {a x e : Addr} {o : HO}
theorem Un.any (u : Un fs ex H H1 h h1) {b : Addr} {ob : Obj} (q : h.get? b = some ob) (n : H b = none) (hx : b ∉ ex) : ∃ sl, h1.get? b = some { ob with slots := sl } := by
  by_cases hb : b ∈ fs
  · exact u.slot b ob q n hb hx
  · exact ⟨ob.slots, u.keep b ob q n hb hx⟩
theorem Un.kept (k : ∀ b u, h.get? b = some u → h'.get? b = some u) : Un fs ex H H h h' :=
  ⟨fun b ob q _ _ _ => k b ob q, fun b ob q _ _ _ => ⟨ob.slots, k b ob q⟩, fun _ _ _ n _ => n, fun b ob q _ => ⟨ob, k b ob q⟩, fun _ _ q => q, fun _ _ _ q => q, fun _ ps q => ⟨#[], by rw [q]; simp⟩⟩
theorem Un.refl : Un fs ex H H h h := Un.kept fun _ _ q => q
theorem Un.laid (k : ∀ b u, h.get? b = some u → h'.get? b = some u) (hp : h.objs.size ≤ a) (hn : H a = none) : Un fs ex H (upd H a o) h h' where
  keep := fun b u q _ _ _ => k b u q
  slot := fun b u q _ _ _ => ⟨u.slots, k b u q⟩
  free := fun b u q n _ => by rw [upd_ne (Nat.ne_of_lt (Nat.lt_of_lt_of_le (Heap.lt_size q) hp))]; exact n
  there := fun b u q _ => ⟨u, k b u q⟩
  tups := fun b xs q => by rw [upd_ne (ne_of_none q hn)]; exact q
  frzs := fun b u xs q => by rw [upd_ne (ne_of_none q hn)]; exact q
  tbls := fun b ps q => ⟨#[], by rw [upd_ne (ne_of_none q hn), q]; simp⟩
theorem Un.write (mu : Mut (H x)) (he : e = x ∨ H e = some (.own x)) (k : ∀ b u, b ≠ e → h.get? b = some u → h'.get? b = some u) (heo : ∃ u, h'.get? e = some u) : Un fs ex H (upd H x o) h h' := by
  have hx : ∀ b, H b = none → b ≠ x := fun b n z => by subst z; rw [n] at mu; exact mu
  have hb : ∀ b, H b = none → b ≠ e := fun b n z => by
    subst z
    rcases he with r | r
    · exact hx b n r
    · rw [n] at r; cases r
  have hm : ∀ b u, H b = some u → ¬ Mut (some u) → b ≠ x := fun b u q nm z => by subst z; rw [q] at mu; exact nm mu
  refine ⟨fun b u q n _ _ => k b u (hb b n) q, fun b u q n _ _ => ⟨u.slots, k b u (hb b n) q⟩, fun b u q n _ => by rw [upd_ne (hx b n)]; exact n, fun b u q _ => ?_,
    fun b xs q => by rw [upd_ne (hm b _ q fun z => z)]; exact q, fun b u xs q => by rw [upd_ne (hm b _ q fun z => z)]; exact q, fun b ps q => ⟨#[], by rw [upd_ne (hm b _ q fun z => z), q]; simp⟩⟩
  by_cases hbe : b = e
  · subst hbe; exact heo
  · exact ⟨u, k b u hbe q⟩
end
def trk (h : Heap) (H : Hp) : List Addr := (List.range h.objs.size).filter fun a => (H a).isSome
def hidT (h : Heap) (H : Hp) : Heap := PySem.W.hideAll h (trk h H)
theorem hidT_size (h : Heap) (H : Hp) : (hidT h H).objs.size = h.objs.size := PySem.W.hideAll_size _ _
theorem hidT_get {h : Heap} {H : Hp} {b : Addr} {o : Obj} (e : h.get? b = some o) (n : H b = none) : (hidT h H).get? b = some o :=
  PySem.W.hideAll_get _ e fun hm => by
    have q : (H b).isSome = true := (List.mem_filter.mp hm).2
    rw [n] at q; simp at q
theorem of_hidT {h : Heap} {H : Hp} {b : Addr} {o : Obj} (e : (hidT h H).get? b = some o) : h.get? b = some o ∧ H b = none := by
  have e' : h.get? b = some o := PySem.W.of_hideAll (trk h H) e
  refine ⟨e', ?_⟩
  cases q : H b with
  | none => rfl
  | some x =>
    have hm : b ∈ trk h H := List.mem_filter.mpr ⟨List.mem_range.mpr (Heap.lt_size e'), by simp [q]⟩
    have z : (hidT h H).get? b = none := PySem.W.hideAll_none (trk h H) hm
    rw [z] at e; cases e
end L2
namespace L2
open PySem PySem.Spec PyProof.Rows
structure Mod (K : PySem.W.Frag) (mg : Str → Option Value) (base : Heap) : Prop where
  kin : K.In base
  glob : base.Ns mainGlobals mg
  blt : ∃ mb, base.Ns builtinsNs mb ∧ ∀ x : Str, x ≠ "__name__" → mb x = bootBuiltins x
  nolimit : base.NoLimit
structure Cx where
  prog : Program
  w : World
  K : PySem.W.Frag
  mg : Str → Option Value
  base : Heap
  A : Around
  N : List Str
  s₀ : Shared
  H₀ : Hp
  env : Env
  outer : List Env
  stack : List Env
  ex : List Addr
  fn : Str → Bool
  calm : Bool
  pn : List (Addr × Obj)
  xe : Value → Shared → Prop
def frs (l : List Env) : List Addr := l.filterMap (·.frame)
abbrev Cx.fs (X : Cx) : List Addr := frs X.outer
def Vis (sc : Scope) (x : Str) : Prop := sc.names.lookup x = some .local ∨ sc.names.lookup x = some .cell ∨ sc.names.lookup x = some .free
def Loc (sc : Scope) (x : Str) : Prop := sc.names.lookup x = some .local ∨ sc.names.lookup x = some .cell
def Look (env : Env) (h : Heap) (m : Str → Option Value) (x : Str) (u : Value) : Prop :=
  (env.kindOf x = some .local ∧ m x = some u) ∨ ((env.kindOf x = some .cell ∨ env.kindOf x = some .free) ∧ ∃ c, env.cells.lookup x = some c ∧ h.IsCell c (some u))
structure Cx.Ok (X : Cx) : Prop where
  mod : Mod X.K X.mg X.base
  kind : X.env.scope.kind = .function
  glob : X.env.globals = mainGlobals
  blt : X.env.builtins = builtinsNs
  above : X.s₀.heap.objs.size ≤ X.env.locals
  inj : ∀ x y c, X.env.cells.lookup x = some c → X.env.cells.lookup y = some c → x = y
  has : ∀ x, (X.env.kindOf x = some .cell ∨ X.env.kindOf x = some .free) → ∃ c, X.env.cells.lookup x = some c
  cab : ∀ x c, X.fn x = true → X.env.cells.lookup x = some c → X.s₀.heap.objs.size ≤ c
  hd : X.calm = true → X.A.handled = none
  frames : X.A.frames = some X.stack
  stk : X.stack = X.outer ∨ (X.stack = X.env :: X.outer ∧ X.env.frame = some X.env.locals)
  exf : ∀ b ∈ X.ex, b ≠ X.env.locals ∧ ∀ x c, X.env.cells.lookup x = some c → c ≠ b
  bs : ∀ b o, X.base.get? b = some o → X.s₀.heap.get? b = some o ∧ X.H₀ b = none
  bsz : X.base.objs.size ≤ X.s₀.heap.objs.size
  noex : ∀ b o, X.base.get? b = some o → b ∉ X.ex
  exfs : ∀ b ∈ X.ex, b ∉ X.fs
  funs : X.s₀.heap.FunFrames X.base X.outer
  frf : ∀ b ∈ X.fs, X.H₀ b = none
structure Inv (X : Cx) (pins : List (Addr × Obj)) (σ : List (Option V)) (H : Hp) (s : Shared) : Prop where
  ok : X.Ok
  os : s.os = X.s₀.os
  bare : AllBare s.gens
  base : Un X.fs X.ex X.H₀ H X.s₀.heap s.heap
  loc : ∃ m, s.heap.Ns X.env.locals m ∧ ∀ (i : Nat) (x : Str) (v : V), X.N[i]? = some x → σ[i]? = some (some v) → Vis X.env.scope x → ∃ u, RelV v u ∧ Look X.env s.heap m x u
  cell : ∀ x c, X.env.cells.lookup x = some c → ∃ v, s.heap.IsCell c v
  free : H X.env.locals = none
  freeC : ∀ x c, X.env.cells.lookup x = some c → H c = none
  pin : ∀ p ∈ X.pn ++ pins, s.heap.get? p.1 = some p.2 ∧ H p.1 = none ∧ p.1 ≠ X.env.locals ∧ p.1 ∉ X.fs ∧ ∀ v, p.2.data ≠ .cell v
  hok : HOk X.prog X.w H s.heap
  len : σ.length = X.N.length
section
variable {X : Cx} {pins : List (Addr × Obj)} {σ : List (Option V)} {H H' : Hp} {s : Shared} {h' : Heap}
theorem Cx.Ok.nofr (ok : X.Ok) {b : Addr} {o : Obj} (e : X.base.get? b = some o) : b ∉ X.fs := fun hb => by
  have := (ok.funs.mem hb).1
  rw [e] at this; cases this
theorem Inv.bs (I : Inv X pins σ H s) : ∀ b o, X.base.get? b = some o → s.heap.get? b = some o ∧ H b = none := fun b o e =>
  ⟨I.base.keep b o (I.ok.bs b o e).1 (I.ok.bs b o e).2 (I.ok.nofr e) (I.ok.noex b o e), I.base.free b o (I.ok.bs b o e).1 (I.ok.bs b o e).2 (I.ok.noex b o e)⟩
theorem Inv.bk (I : Inv X pins σ H s) : ∀ b o, X.base.get? b = some o → s.heap.get? b = some o := fun b o e => (I.bs b o e).1
theorem Inv.mod (I : Inv X pins σ H s) : Mod X.K X.mg X.base := I.ok.mod
theorem Inv.kIn (I : Inv X pins σ H s) : X.K.In s.heap := I.ok.mod.kin.keeps I.bk
theorem Inv.lt (I : Inv X pins σ H s) : X.env.locals < s.heap.objs.size := let ⟨_, hn, _⟩ := I.loc; hn.lt
theorem Inv.sz (I : Inv X pins σ H s) : X.s₀.heap.objs.size ≤ s.heap.objs.size := Nat.le_trans I.ok.above (Nat.le_of_lt I.lt)
theorem Inv.nofs (I : Inv X pins σ H s) {a : Addr} (h : s.heap.objs.size ≤ a) : a ∉ X.fs := fun hb => by
  obtain ⟨_, o, ho, _⟩ := I.ok.funs.mem hb
  exact absurd (Nat.lt_of_lt_of_le (Heap.lt_size ho) (Nat.le_trans I.sz h)) (Nat.lt_irrefl _)
theorem Inv.cne (I : Inv X pins σ H s) : ∀ x c, X.env.cells.lookup x = some c → c ≠ X.env.locals := fun x c e z => by
  obtain ⟨v, o, ho, hd⟩ := I.cell x c e
  obtain ⟨m, ⟨o', es, ep, ho', hd', _⟩, _⟩ := I.loc
  rw [z, ho'] at ho; cases ho; rw [hd'] at hd; cases hd
theorem Inv.funs (I : Inv X pins σ H s) : s.heap.FunFrames X.base X.outer := by
  have all : ∀ (l : List Env), (∀ b ∈ frs l, b ∈ X.fs) → X.s₀.heap.FunFrames X.base l → s.heap.FunFrames X.base l := by
    intro l
    induction l with
    | nil => intro _ _; trivial
    | cons env r ih =>
      intro hs hl
      obtain ⟨hk, ⟨L, o, hf, hn, ho, hd⟩, hr⟩ := hl
      have hL : L ∈ X.fs := hs L (by unfold frs; rw [List.filterMap_cons, hf]; exact List.mem_cons_self)
      obtain ⟨sl, e⟩ := I.base.slot L o ho (I.ok.frf L hL) hL fun z => I.ok.exfs L z hL
      exact ⟨hk, ⟨L, _, hf, hn, e, hd⟩, ih (fun b hb => hs b (by unfold frs; rw [List.filterMap_cons, hf]; exact List.mem_cons_of_mem _ hb)) hr⟩
  exact all X.outer (fun _ hb => hb) I.ok.funs
theorem Inv.stack (I : Inv X pins σ H s) : s.heap.FunFrames X.base X.stack := by
  rcases I.ok.stk with e | ⟨e, hf⟩
  · rw [e]; exact I.funs
  · rw [e]
    obtain ⟨m, hn, _⟩ := I.loc
    refine .cons (by rw [I.ok.kind]; decide) hf hn ?_ I.funs
    exact Heap.get?_none_of_le (Nat.le_trans I.ok.bsz I.ok.above)
theorem Inv.stkSub (I : Inv X pins σ H s) : ∀ b ∈ frs X.stack, b ∈ X.env.locals :: X.fs := fun b hb => by
  rcases I.ok.stk with e | ⟨e, hf⟩
  · rw [e] at hb; exact List.mem_cons_of_mem _ hb
  · rw [e] at hb
    unfold frs at hb
    rw [List.filterMap_cons, hf] at hb
    exact hb
theorem Inv.stkFree (I : Inv X pins σ H s) : ∀ b ∈ frs X.stack, H b = none := fun b hb => by
  rcases List.mem_cons.mp (I.stkSub b hb) with e | hb
  · rw [e]; exact I.free
  · obtain ⟨_, o, ho, _⟩ := I.ok.funs.mem hb
    exact I.base.free b o ho (I.ok.frf b hb) fun z => I.ok.exfs b z hb
theorem Inv.step {g' : Array GenState} {t' : Nat} {d' : Drawn} {ch : List Addr} (I : Inv X pins σ H s)
    (hch : ∀ b ∈ ch, (b ∈ X.ex ∨ X.s₀.heap.objs.size ≤ b) ∧ b ≠ X.env.locals ∧ (∀ x c, X.env.cells.lookup x = some c → c ≠ b) ∧ ∀ p ∈ X.pn ++ pins, p.1 ≠ b)
    (keep : ∀ b o, b ≠ X.env.locals → b ∉ X.fs → b ∉ ch → s.heap.get? b = some o → H b = none → h'.get? b = some o)
    (slot : ∀ b o, b ≠ X.env.locals → b ∈ X.fs → b ∉ ch → s.heap.get? b = some o → H b = none → ∃ sl, h'.get? b = some { o with slots := sl }) (free : ∀ b o, b ∉ ch → s.heap.get? b = some o → H b = none → H' b = none)
    (there : ∀ b o, b ∉ ch → s.heap.get? b = some o → ∃ o', h'.get? b = some o')
    (tups : ∀ b xs, H b = some (.tup xs) → H' b = some (.tup xs)) (frzs : ∀ b o u, H b = some (.frz o u) → H' b = some (.frz o u)) (tbls : ∀ b ps, H b = some (.tbl ps) → ∃ more, H' b = some (.tbl (ps ++ more)))
    (ns : ∀ m, s.heap.Ns X.env.locals m → h'.Ns X.env.locals m) (hok : HOk X.prog X.w H' h') (hg : AllBare g') :
    Inv X pins σ H' { s with heap := h', gens := g', drawn := d', toks := t' } := by
  have neL : ∀ b o, X.s₀.heap.get? b = some o → b ≠ X.env.locals := fun b o e => Nat.ne_of_lt (Nat.lt_of_lt_of_le (Heap.lt_size e) I.ok.above)
  have neC : ∀ b o, X.s₀.heap.get? b = some o → b ∉ X.ex → b ∉ ch := fun b o e hx hb => by
    rcases (hch b hb).1 with z | z
    · exact hx z
    · exact absurd (Nat.lt_of_lt_of_le (Heap.lt_size e) z) (Nat.lt_irrefl _)
  have cellK : ∀ x c, X.env.cells.lookup x = some c → ∀ v, s.heap.IsCell c v → h'.IsCell c v := fun x c e v ⟨o, ho, hd⟩ => by
    have nch : c ∉ ch := fun z => (hch c z).2.2.1 x c e rfl
    by_cases hc : c ∈ X.fs
    · obtain ⟨sl, q⟩ := slot c o (I.cne x c e) hc nch ho (I.freeC x c e)
      exact ⟨_, q, hd⟩
    · exact ⟨o, keep c o (I.cne x c e) hc nch ho (I.freeC x c e), hd⟩
  refine ⟨I.ok, I.os, hg, ⟨fun b o e n hb hx => ?_, fun b o e n hb hx => ?_, fun b o e n hx => ?_, fun b o e hx => ?_, fun b xs e => tups b xs (I.base.tups b xs e), fun b o xs e => frzs b o xs (I.base.frzs b o xs e), fun b ps e => ?_⟩, ?_, fun x c e => ?_, ?_, fun x c e => ?_, fun p hp => ?_, hok, I.len⟩
  · exact keep b o (neL b o e) hb (neC b o e hx) (I.base.keep b o e n hb hx) (I.base.free b o e n hx)
  · obtain ⟨sl, e1⟩ := I.base.slot b o e n hb hx
    obtain ⟨sl', e2⟩ := slot b _ (neL b o e) hb (neC b o e hx) e1 (I.base.free b o e n hx)
    exact ⟨sl', e2⟩
  · obtain ⟨o', e1⟩ := I.base.there b o e hx
    exact free b o' (neC b o e hx) e1 (I.base.free b o e n hx)
  · obtain ⟨o', e1⟩ := I.base.there b o e hx
    exact there b o' (neC b o e hx) e1
  · obtain ⟨m1, e1⟩ := I.base.tbls b ps e
    obtain ⟨m2, e2⟩ := tbls b _ e1
    exact ⟨m1 ++ m2, by rw [e2, Array.append_assoc]⟩
  · obtain ⟨m, hn, hl⟩ := I.loc
    refine ⟨m, ns m hn, fun i x v e1 e2 e3 => ?_⟩
    obtain ⟨u, r, l⟩ := hl i x v e1 e2 e3
    refine ⟨u, r, ?_⟩
    rcases l with l | ⟨k, c, e, z⟩
    · exact .inl l
    · exact .inr ⟨k, c, e, cellK x c e _ z⟩
  · obtain ⟨v, z⟩ := I.cell x c e
    exact ⟨v, cellK x c e v z⟩
  · obtain ⟨m, ⟨o, _, _, ho, _⟩, _⟩ := I.loc
    exact free _ o (fun z => (hch _ z).2.1 rfl) ho I.free
  · obtain ⟨v, o, ho, hd⟩ := I.cell x c e
    exact free c o (fun z => (hch c z).2.2.1 x c e rfl) ho (I.freeC x c e)
  · obtain ⟨e, n, ne, nf, d⟩ := I.pin p hp
    have nch : p.1 ∉ ch := fun z => (hch p.1 z).2.2.2 p hp rfl
    exact ⟨keep p.1 p.2 ne nf nch e n, free p.1 p.2 nch e n, ne, nf, d⟩
theorem Inv.un {t' : Nat} (I : Inv X pins σ H s) (u : Un X.fs [] H H' s.heap h') (hok : HOk X.prog X.w H' h') : Inv X pins σ H' { s with heap := h', toks := t' } := by
  obtain ⟨m, ⟨o, es, ep, ho, r⟩, _⟩ := id I.loc
  obtain ⟨sl, hL⟩ := u.any ho I.free (by simp)
  exact I.step (g' := s.gens) (d' := s.drawn) (ch := []) (fun _ z => nomatch z) (fun b o _ hb _ e n => u.keep b o e n hb (by simp)) (fun b o _ hb _ e n => u.slot b o e n hb (by simp)) (fun b o _ e n => u.free b o e n (by simp)) (fun b o _ e => u.there b o e (by simp)) u.tups u.frzs u.tbls (fun m' hm => by
    obtain ⟨o', es', ep', ho', r'⟩ := hm
    rw [ho] at ho'; cases ho'
    exact ⟨_, es', ep', hL, r'⟩) hok I.bare
theorem Inv.call {g' : Array GenState} {t' : Nat} {d' : Drawn} {ch : List Addr} (I : Inv X pins σ H s) (u : Un (frs X.stack) ch H H' s.heap h') (hok : HOk X.prog X.w H' h') (hg : AllBare g')
    (hch : ∀ b ∈ ch, (b ∈ X.ex ∨ X.s₀.heap.objs.size ≤ b) ∧ b ≠ X.env.locals ∧ (∀ x c, X.env.cells.lookup x = some c → c ≠ b) ∧ ∀ p ∈ X.pn ++ pins, p.1 ≠ b) :
    Inv X pins σ H' { s with heap := h', gens := g', drawn := d', toks := t' } := by
  obtain ⟨m, ⟨o, es, ep, ho, r⟩, _⟩ := id I.loc
  obtain ⟨sl, hL⟩ := u.any ho I.free fun z => (hch _ z).2.1 rfl
  exact I.step (ch := ch) hch (fun b o hL hb hc e n => u.keep b o e n (fun z => (List.mem_cons.mp (I.stkSub b z)).elim hL hb) hc) (fun b o _ _ hc e n => u.any e n hc) (fun b o hc e n => u.free b o e n hc) (fun b o hc e => u.there b o e hc) u.tups u.frzs u.tbls (fun m' hm => by
    obtain ⟨o', es', ep', ho', r'⟩ := hm
    rw [ho] at ho'; cases ho'
    exact ⟨_, es', ep', hL, r'⟩) hok hg
theorem Inv.turned {t' : Nat} {it : Addr} (I : Inv X pins σ H s) (k : ∀ b o, b ≠ it → s.heap.get? b = some o → h'.get? b = some o) (hn : H it = none) (hL : it ≠ X.env.locals)
    (h1 : it ∈ X.ex ∨ X.s₀.heap.objs.size ≤ it) (h2 : ∀ x c, X.env.cells.lookup x = some c → c ≠ it) (h3 : ∀ p ∈ X.pn ++ pins, p.1 ≠ it) : Inv X pins σ H { s with heap := h', toks := t' } := by
  have nit : ∀ b u, H b = some u → b ≠ it := fun b u e z => by rw [z, hn] at e; cases e
  refine I.step (g' := s.gens) (d' := s.drawn) (ch := [it]) (fun b hb => ?_) (fun b o _ _ hc e _ => k b o (fun z => hc (by simp [z])) e) (fun b o _ _ hc e _ => ⟨o.slots, k b o (fun z => hc (by simp [z])) e⟩) (fun _ _ _ _ n => n)
    (fun b o hc e => ⟨o, k b o (fun z => hc (by simp [z])) e⟩) (fun _ _ e => e) (fun _ _ _ e => e) (fun b ps e => ⟨#[], by rw [e]; simp⟩) (fun m hm => ?_) (fun b u e => ?_) I.bare
  · have e : b = it := by simpa using hb
    subst e
    exact ⟨h1, hL, h2, h3⟩
  · obtain ⟨o, es, ep, ho, r⟩ := hm
    exact ⟨o, es, ep, k _ o (Ne.symm hL) ho, r⟩
  · refine (I.hok b u e).stay (fun c v hc q => k c v ?_ q) (fun _ q => q) fun _ _ q => q
    rcases hc with z | z
    · rw [z]; exact nit b u e
    · exact nit c _ z
theorem Inv.tok (I : Inv X pins σ H s) (t : Nat) : Inv X pins σ H { s with toks := t } := I.un (h' := s.heap) (t' := t) Un.refl I.hok
theorem Inv.kept {t' : Nat} (I : Inv X pins σ H s) (k : ∀ b u, s.heap.get? b = some u → h'.get? b = some u) : Inv X pins σ H { s with heap := h', toks := t' } := I.un (Un.kept k) (I.hok.kept k)
theorem Inv.laid {a : Addr} {o : HO} {t' : Nat} (I : Inv X pins σ H s) (k : ∀ b u, s.heap.get? b = some u → h'.get? b = some u) (hp : s.heap.objs.size ≤ a) (new : ObjOk X.prog X.w (upd H a o) h' a o) :
    Inv X pins σ (upd H a o) { s with heap := h', toks := t' } := I.un (Un.laid k hp (I.hok.fresh hp)) (I.hok.laid k hp new)
theorem Inv.write {x e : Addr} {o : HO} {t' : Nat} (I : Inv X pins σ H s) (mu : Mut (H x)) (he : e = x ∨ H e = some (.own x)) (k : ∀ b u, b ≠ e → s.heap.get? b = some u → h'.get? b = some u) (heo : ∃ u, h'.get? e = some u)
    (new : ObjOk X.prog X.w (upd H x o) h' x o) : Inv X pins σ (upd H x o) { s with heap := h', toks := t' } := I.un (Un.write mu he k heo) (I.hok.write mu he k heo new)
theorem Inv.pins_of {pins' : List (Addr × Obj)} (I : Inv X pins σ H s) (h : ∀ p ∈ pins', s.heap.get? p.1 = some p.2 ∧ H p.1 = none ∧ p.1 ≠ X.env.locals ∧ p.1 ∉ X.fs ∧ ∀ v, p.2.data ≠ .cell v) : Inv X pins' σ H s :=
  ⟨I.ok, I.os, I.bare, I.base, I.loc, I.cell, I.free, I.freeC, fun p hp => (List.mem_append.mp hp).elim (fun z => I.pin p (List.mem_append_left _ z)) (h p), I.hok, I.len⟩
theorem nodup_ix {N : List Str} (hN : N.Nodup) {i j : Nat} {x : Str} (a : N[i]? = some x) (b : N[j]? = some x) : i = j := by
  obtain ⟨h1, e1⟩ := List.getElem?_eq_some_iff.mp a
  obtain ⟨h2, e2⟩ := List.getElem?_eq_some_iff.mp b
  exact (List.getElem_inj hN).mp (e1.trans e2.symm)
theorem store_ok2 {M : Model} {A : Around} {E : Value → Shared → Prop} {i : Nat} {x : Str} {v : V} {u : Value} {Q : Unit → Shared → Prop} (I : Inv X pins σ H s) (hN : X.N.Nodup) (hi : X.N[i]? = some x) (hx : Loc X.env.scope x) (r : RelV v u)
    (h : ∀ s', Inv X pins (σ.set i (some v)) H s' → (∃ a, Heap.SameBut a s.heap s'.heap ∧ (a = X.env.locals ∨ X.env.cells.lookup x = some a)) → Q () s') (hf : X.fn x = true ∨ X.env.scope.names.lookup x = some .local := by first | exact .inl rfl | exact .inr rfl | assumption) : wpAny M A (storeName X.env x u) Q E s := by
  obtain ⟨m, hn, hl⟩ := id I.loc
  have hcls : (X.env.scope.kind == .class || (X.env.scope.kind == .module && X.env.locals != X.env.globals)) = false := by rw [I.ok.kind]; rfl
  have hiσ : i < σ.length := by rw [I.len]; exact (List.getElem?_eq_some_iff.mp hi).1
  have cne := I.cne
  have tracked : ∀ {a : Addr} {h' : Heap}, (∃ o, s.heap.get? a = some o ∧ H a = none) → Heap.SameBut a s.heap h' → HOk X.prog X.w H h' := fun {a h'} ha hs b ob e => by
    obtain ⟨_, _, hfree⟩ := ha
    refine (I.hok b ob e).stay (fun c w' hc q => (hs.2 c ?_).trans q) (fun _ q => q) fun _ _ q => q
    rintro rfl
    rcases hc with rfl | hc
    · rw [hfree] at e; cases e
    · rw [hfree] at hc; cases hc
  rcases hx with hk | hk
  · refine wpAny_storeName_local hk hn (fun h' hn' hs => ?_) hcls
    obtain ⟨oL, _, _, hoL, _⟩ := id hn
    refine h _ ⟨I.ok, I.os, I.bare, ⟨fun b o e n hb hx => ?_, fun b o e n hb hx => ?_, I.base.free, fun b o e hx => ?_, I.base.tups, I.base.frzs, I.base.tbls⟩, ⟨_, hn', fun j y v' e1 e2 e3 => ?_⟩, fun y c e => ?_, I.free, I.freeC, fun p hp => ?_, tracked ⟨oL, hoL, I.free⟩ hs, by simpa using I.len⟩ ⟨_, hs, .inl rfl⟩
    · exact (hs.2 b (Nat.ne_of_lt (Nat.lt_of_lt_of_le (Heap.lt_size e) I.ok.above))).trans (I.base.keep b o e n hb hx)
    · obtain ⟨sl, e1⟩ := I.base.slot b o e n hb hx
      exact ⟨sl, (hs.2 b (Nat.ne_of_lt (Nat.lt_of_lt_of_le (Heap.lt_size e) I.ok.above))).trans e1⟩
    · obtain ⟨o', e1⟩ := I.base.there b o e hx
      exact ⟨o', (hs.2 b (Nat.ne_of_lt (Nat.lt_of_lt_of_le (Heap.lt_size e) I.ok.above))).trans e1⟩
    · by_cases hj : j = i
      · subst hj
        rw [hi] at e1; cases e1
        rw [List.getElem?_set_self hiσ] at e2
        cases e2
        exact ⟨u, r, .inl ⟨hk, by simp⟩⟩
      · rw [List.getElem?_set_ne (Ne.symm hj)] at e2
        obtain ⟨u', r', q⟩ := hl j y v' e1 e2 e3
        refine ⟨u', r', ?_⟩
        rcases q with ⟨k, e⟩ | ⟨k, c, e, z⟩
        · refine .inl ⟨k, ?_⟩
          have : y ≠ x := fun e => hj (nodup_ix hN e1 (e ▸ hi))
          simp [this, e]
        · exact .inr ⟨k, c, e, z.sameBut hs (cne y c e)⟩
    · obtain ⟨w', z⟩ := I.cell y c e
      exact ⟨w', z.sameBut hs (cne y c e)⟩
    · obtain ⟨e, n, ne, nf, d⟩ := I.pin p hp
      exact ⟨(hs.2 p.1 ne).trans e, n, ne, nf, d⟩
  · have hfn : X.fn x = true := by
      rcases hf with z | z
      · exact z
      · rw [z] at hk; cases hk
    obtain ⟨c, hc⟩ := I.ok.has x (.inl hk)
    obtain ⟨w', z⟩ := I.cell x c hc
    refine wpAny_storeName_cell I.ok.kind hk hc z (fun h' hc' hs => ?_)
    obtain ⟨oc, hoc, hocd⟩ := id z
    refine h { s with heap := h' } ⟨I.ok, I.os, I.bare, ⟨fun b o e n hb hx => ?_, fun b o e n hb hx => ?_, I.base.free, fun b o e hx => ?_, I.base.tups, I.base.frzs, I.base.tbls⟩, ⟨m, hn.sameBut hs (Ne.symm (cne x c hc)), fun j y v' e1 e2 e3 => ?_⟩, fun y c' e => ?_, I.free, I.freeC, fun p hp => ?_, tracked ⟨oc, hoc, I.freeC x c hc⟩ hs, by simpa using I.len⟩ ⟨c, hs, .inr hc⟩
    · exact (hs.2 b (Nat.ne_of_lt (Nat.lt_of_lt_of_le (Heap.lt_size e) (I.ok.cab x c hfn hc)))).trans (I.base.keep b o e n hb hx)
    · obtain ⟨sl, e1⟩ := I.base.slot b o e n hb hx
      exact ⟨sl, (hs.2 b (Nat.ne_of_lt (Nat.lt_of_lt_of_le (Heap.lt_size e) (I.ok.cab x c hfn hc)))).trans e1⟩
    · obtain ⟨o', e1⟩ := I.base.there b o e hx
      exact ⟨o', (hs.2 b (Nat.ne_of_lt (Nat.lt_of_lt_of_le (Heap.lt_size e) (I.ok.cab x c hfn hc)))).trans e1⟩
    · by_cases hj : j = i
      · subst hj
        rw [hi] at e1; cases e1
        rw [List.getElem?_set_self hiσ] at e2
        cases e2
        exact ⟨u, r, .inr ⟨.inl hk, c, hc, hc'⟩⟩
      · rw [List.getElem?_set_ne (Ne.symm hj)] at e2
        obtain ⟨u', r', q⟩ := hl j y v' e1 e2 e3
        refine ⟨u', r', ?_⟩
        rcases q with q | ⟨k, c', e, z'⟩
        · exact .inl q
        · refine .inr ⟨k, c', e, z'.sameBut hs ?_⟩
          rintro rfl
          exact hj (nodup_ix hN e1 (I.ok.inj _ _ _ e hc ▸ hi))
    · by_cases hcc : c' = c
      · subst hcc; exact ⟨_, hc'⟩
      · obtain ⟨w2, z2⟩ := I.cell y c' e
        exact ⟨w2, z2.sameBut hs hcc⟩
    · obtain ⟨e, n, ne, nf, d⟩ := I.pin p hp
      refine ⟨(hs.2 p.1 ?_).trans e, n, ne, nf, d⟩
      intro q
      rw [q, hoc] at e
      have q' : oc = p.2 := Option.some.inj e
      exact d w' (by rw [← q']; exact hocd)
theorem store_ok {M : Model} {A : Around} {E : Value → Shared → Prop} {i : Nat} {x : Str} {v : V} {u : Value} {Q : Unit → Shared → Prop} (I : Inv X pins σ H s) (hN : X.N.Nodup) (hi : X.N[i]? = some x) (hx : Loc X.env.scope x) (r : RelV v u)
    (h : ∀ s', Inv X pins (σ.set i (some v)) H s' → Q () s') (hf : X.fn x = true ∨ X.env.scope.names.lookup x = some .local := by first | exact .inl rfl | exact .inr rfl | assumption) : wpAny M A (storeName X.env x u) Q E s :=
  store_ok2 I hN hi hx r (fun s' I' _ => h s' I') hf
theorem Inv.call' {s' : Shared} {ch : List Addr} (I : Inv X pins σ H s) (ho : s'.os = s.os) (u : Un (frs X.stack) ch H H' s.heap s'.heap) (hok : HOk X.prog X.w H' s'.heap) (hg : AllBare s'.gens)
    (hch : ∀ b ∈ ch, (b ∈ X.ex ∨ X.s₀.heap.objs.size ≤ b) ∧ b ≠ X.env.locals ∧ (∀ x c, X.env.cells.lookup x = some c → c ≠ b) ∧ ∀ p ∈ X.pn ++ pins, p.1 ≠ b) : Inv X pins σ H' s' := by
  obtain ⟨h', g', d', t', o'⟩ := s'
  have e : o' = s.os := ho
  subst e
  exact I.call (g' := g') (t' := t') (d' := d') u hok hg hch
end
abbrev XK := Value → Option Addr → Hp → Prop
abbrev St := List (Option V)
abbrev VK := V → Hp → Prop
abbrev TE := St → Hp → VK → Prop
abbrev TT := St → Hp → (Bool → Hp → Prop) → Prop
abbrev TA := St → Hp → (List V → Hp → Prop) → Prop
structure Ends where
  nx : St → Hp → Prop
  rt : VK
  bk : St → Hp → Prop := fun _ _ => False
  ct : St → Hp → Prop := fun _ _ => False
abbrev TS := Ends → St → Hp → Prop
def EP (X : Cx) (pins : List (Addr × Obj)) (σ : St) (Q : VK) (u : Value) (s' : Shared) : Prop := ∃ v H', Inv X pins σ H' s' ∧ RelV v u ∧ Q v H'
def TP (X : Cx) (pins : List (Addr × Obj)) (σ : St) (Q : Bool → Hp → Prop) (b : Bool) (s' : Shared) : Prop := ∃ H', Inv X pins σ H' s' ∧ Q b H'
def AP (X : Cx) (pins : List (Addr × Obj)) (σ : St) (Q : List V → Hp → Prop) (us : List Value) (s' : Shared) : Prop := ∃ vs H', Inv X pins σ H' s' ∧ Vals vs us ∧ Q vs H'
def SP (X : Cx) (pins : List (Addr × Obj)) (D : Ends) (f : Flow) (s' : Shared) : Prop :=
  match f with
  | .next => ∃ σ' H', Inv X pins σ' H' s' ∧ D.nx σ' H'
  | .brk => ∃ σ' H', Inv X pins σ' H' s' ∧ D.bk σ' H'
  | .cont => ∃ σ' H', Inv X pins σ' H' s' ∧ D.ct σ' H'
  | .ret u => ∃ v σ' H', Inv X pins σ' H' s' ∧ RelV v u ∧ D.rt v H'
def PE (X : Cx) (e : Expr) (t : TE) : Prop :=
  ∀ (pins : List (Addr × Obj)) (s : Shared) (σ : St) (H : Hp) (Q : VK), Inv X pins σ H s → t σ H Q → wpAny (model X.prog X.w) X.A (eval e X.env) (EP X pins σ Q) X.xe s
def PT (X : Cx) (e : Expr) (t : TT) : Prop :=
  ∀ (pins : List (Addr × Obj)) (s : Shared) (σ : St) (H : Hp) (Q : Bool → Hp → Prop), Inv X pins σ H s → t σ H Q → wpAny (model X.prog X.w) X.A (isTrue e X.env (eval e X.env)) (TP X pins σ Q) X.xe s
def PW (X : Cx) (e : Expr) (t : TT) : Prop :=
  ∀ (whole : Sem Value) (pins : List (Addr × Obj)) (s : Shared) (σ : St) (H : Hp) (Q : Bool → Hp → Prop), Inv X pins σ H s → t σ H Q → wpAny (model X.prog X.w) X.A (isTrue e X.env whole) (TP X pins σ Q) X.xe s
theorem PW.pt {X : Cx} {e : Expr} {t : TT} (h : PW X e t) : PT X e t := h _
def PA (X : Cx) (es : List Expr) (t : TA) : Prop :=
  ∀ (pos : Pos) (pins : List (Addr × Obj)) (s : Shared) (σ : St) (H : Hp) (Q : List V → Hp → Prop), Inv X pins σ H s → t σ H Q → wpAny (model X.prog X.w) X.A (spliced (backTo pos (starEach es X.env))) (AP X pins σ Q) X.xe s
def PS (X : Cx) (st : Stmt) (t : TS) : Prop :=
  ∀ (pins : List (Addr × Obj)) (s : Shared) (σ : St) (H : Hp) (D : Ends), Inv X pins σ H s → t D σ H → wpAny (model X.prog X.w) X.A (exec st X.env) (SP X pins D) X.xe s
def PSs (X : Cx) (st : List Stmt) (t : TS) : Prop :=
  ∀ (pins : List (Addr × Obj)) (s : Shared) (σ : St) (H : Hp) (D : Ends), Inv X pins σ H s → t D σ H → wpAny (model X.prog X.w) X.A (execs st X.env) (SP X pins D) X.xe s
theorem thn {α : Type} {t : Sem α} {Q Q' : α → Shared → Prop} {M : Model} {A : Around} {E : Value → Shared → Prop} {s : Shared} (h : wpAny M A t Q E s) (hQ : ∀ a s, Q a s → Q' a s) : wpAny M A t Q' E s := wpAny_mono h hQ fun _ _ x => x
end L2
namespace L2
open PySem PySem.Spec PyProof.Rows
section
variable {X : Cx}
def tVar (i : Nat) : TE := fun σ H Q => ∃ v, σ[i]? = some (some v) ∧ Q v H
def tC (v : V) : TE := fun _ H Q => Q v H
theorem pe_var {i : Nat} {x : Str} {pos : Pos} (hN : X.N[i]? = some x) (hv : Vis X.env.scope x) (hd : (x == ("__debug__" : Str)) = false := by decide) (hcd : (x == ("__classdict__" : Str)) = false := by decide) : PE X (.Name x pos) (tVar i) := by
  intro pins s σ H Q I h
  obtain ⟨v, e, h⟩ := h
  obtain ⟨m, hn, hl⟩ := I.loc
  obtain ⟨u, r, l⟩ := hl i x v hN e hv
  have fin : EP X pins σ Q u s := ⟨v, H, I, r, h⟩
  rcases l with ⟨hk, hm⟩ | ⟨hk, c, hc, hcell⟩
  · exact wpAny_Name (wpAny_loadName_local I.ok.kind hk hn hm fin) hd
  · rcases hk with hk | hk
    · exact wpAny_Name (wpAny_loadName_cell I.ok.kind hk hc hcell fin) hd
    · exact wpAny_Name (wpAny_loadName_free I.ok.kind hk hc hcell fin hcd) hd
theorem pe_int {i j pos} : PE X (.Constant (.int i) j pos) (tC (.int i)) := fun _ _ _ H _ I h => wpAny_Constant_int ⟨.int i, H, I.tok _, ⟨_, rfl⟩, h⟩
theorem pe_bl {b j pos} : PE X (.Constant (.bool b) j pos) (tC (.bl b)) := fun _ _ _ H _ I h => Constant_bool ⟨.bl b, H, I, rfl, h⟩
theorem pe_non {j pos} : PE X (.Constant .none j pos) (tC .non) := fun _ _ _ H _ I h => Constant_none ⟨.non, H, I, rfl, h⟩
theorem pe_str {x j pos} : PE X (.Constant (.str x) j pos) (tC (.str x)) := fun _ _ _ H _ I h => Calls.Constant_str ⟨.str x, H, I.tok _, ⟨_, rfl⟩, h⟩
def Gl (X : Cx) (x : Str) : Prop := X.env.kindOf x = some .globalImplicit
theorem ld_glob {E : Value → Shared → Prop} {pins : List (Addr × Obj)} {s : Shared} {σ : St} {H : Hp} {x : Str} {u : Value} {pos : Pos} {Q : Value → Shared → Prop} (I : Inv X pins σ H s) (hg : Gl X x) (hm : X.mg x = some u) (h : Q u s)
    (hd : (x == ("__debug__" : Str)) = false := by decide) : wpAny (model X.prog X.w) X.A (eval (.Name x pos) X.env) Q E s :=
  Calls.Name_function_global I.ok.kind hg (Calls.loadGlobal_global (by rw [I.ok.glob]; exact I.mod.glob.keeps I.bk) hm h) hd
theorem ld_blt {E : Value → Shared → Prop} {pins : List (Addr × Obj)} {s : Shared} {σ : St} {H : Hp} {x : Str} {u : Value} {pos : Pos} {Q : Value → Shared → Prop} (I : Inv X pins σ H s) (hg : Gl X x) (hm : X.mg x = none) (hv : bootBuiltins x = some u) (h : Q u s)
    (hn : x ≠ "__name__" := by decide) (hd : (x == ("__debug__" : Str)) = false := by decide) : wpAny (model X.prog X.w) X.A (eval (.Name x pos) X.env) Q E s := by
  obtain ⟨mb, h1, h2⟩ := I.mod.blt
  exact Calls.Name_function_global I.ok.kind hg (Calls.loadGlobal_builtin (by rw [I.ok.glob]; exact I.mod.glob.keeps I.bk) hm (by rw [I.ok.blt]; exact h1.keeps I.bk) ((h2 x hn).trans hv) h) hd
theorem pe_glob {x : Str} {v : V} {u : Value} {pos : Pos} (hg : Gl X x) (hm : X.mg x = some u) (r : RelV v u) (hd : (x == ("__debug__" : Str)) = false := by decide) : PE X (.Name x pos) (tC v) :=
  fun _ _ _ H _ I h => ld_glob I hg hm ⟨v, H, I, r, h⟩ hd
theorem pe_bltn {x : Str} {v : V} {u : Value} {pos : Pos} (hg : Gl X x) (hm : X.mg x = none) (hv : bootBuiltins x = some u) (r : RelV v u) (hn : x ≠ "__name__" := by decide) (hd : (x == ("__debug__" : Str)) = false := by decide) : PE X (.Name x pos) (tC v) :=
  fun _ _ _ H _ I h => ld_blt I hg hm hv ⟨v, H, I, r, h⟩ hn hd
variable {a b : Expr} {ta tb : TE} {pos : Pos}
def tB (t : TE) : TT := fun σ H Q => t σ H fun x H1 => ∃ c, x = .bl c ∧ Q c H1
theorem pt_val {e : Expr} {t : TE} (h : PE X e t) (he : ∀ whole, isTrue e X.env whole = (do let v ← whole; standAt e.pos; holding [v] (truthy v)) := by intro _; rfl) : PT X e (tB t) := by
  intro pins s σ H Q I hw
  refine isTrue_plain (thn (h pins s σ H _ I hw) fun v s1 ⟨x, H1, I1, r1, q1⟩ => ?_) (he _)
  obtain ⟨d, rfl, q⟩ := q1
  cases r1
  exact wpAny_truthy_bool ⟨H1, I1, q⟩
variable {tA tB' : TT} {rest : List Expr}
def tAnd (t u : TT) : TT := fun σ H Q => t σ H fun c H1 => if c = true then u σ H1 Q else Q false H1
def tOr (t u : TT) : TT := fun σ H Q => t σ H fun c H1 => if c = true then Q true H1 else u σ H1 Q
def tNot (t : TT) : TT := fun σ H Q => t σ H fun c H1 => Q (!c) H1
theorem pw_and1 (ha : PT X a tA) : PW X (.BoolOp .And [a] pos) tA := by
  intro wh pins s σ H Q I h
  refine isTrue_and (thn (ha pins s σ H Q I h) fun c s1 e => ?_)
  cases c with
  | true => exact isTrue_and_nil e
  | false => exact e
theorem pw_or1 (ha : PT X a tA) : PW X (.BoolOp .Or [a] pos) tA := by
  intro wh pins s σ H Q I h
  refine isTrue_or (thn (ha pins s σ H Q I h) fun c s1 e => ?_)
  cases c with
  | false => exact isTrue_or_nil e
  | true => exact e
theorem pw_and (ha : PT X a tA) (hb : PW X (.BoolOp .And (b :: rest) pos) tB') : PW X (.BoolOp .And (a :: b :: rest) pos) (tAnd tA tB') := by
  intro wh pins s σ H Q I h
  refine isTrue_and (thn (ha pins s σ H _ I h) fun c s1 ⟨H1, I1, q1⟩ => ?_)
  cases c with
  | true => exact hb wh pins s1 σ H1 Q I1 q1
  | false => exact ⟨H1, I1, q1⟩
theorem pw_or (ha : PT X a tA) (hb : PW X (.BoolOp .Or (b :: rest) pos) tB') : PW X (.BoolOp .Or (a :: b :: rest) pos) (tOr tA tB') := by
  intro wh pins s σ H Q I h
  refine isTrue_or (thn (ha pins s σ H _ I h) fun c s1 ⟨H1, I1, q1⟩ => ?_)
  cases c with
  | true => exact ⟨H1, I1, q1⟩
  | false => exact hb wh pins s1 σ H1 Q I1 q1
theorem pt_not (ha : PT X a tA) : PT X (.UnaryOp .Not a pos) (tNot tA) := by
  intro pins s σ H Q I h
  exact isTrue_not (ha pins s σ H (fun c H1 => Q (!c) H1) I h)
def tAndV (ta tb : TE) : TE := fun σ H Q => ta σ H fun x H1 => ∃ c, x = .bl c ∧ if c = true then tb σ H1 Q else Q (.bl false) H1
def tNotV (ta : TE) : TE := fun σ H Q => ta σ H fun x H1 => ∃ c, x = .bl c ∧ Q (.bl (!c)) H1
theorem pe_one {op} {t : TE} (h : PE X a t) : PE X (.BoolOp op [a] pos) t := fun pins s σ H Q I hw => BoolOp_one (h pins s σ H Q I hw)
theorem pe_and (ha : PE X a ta) (hb : PE X (.BoolOp .And (b :: rest) pos) tb) : PE X (.BoolOp .And (a :: b :: rest) pos) (tAndV ta tb) := by
  intro pins s σ H Q I h
  refine BoolOp_and (thn (ha pins s σ H _ I h) fun v s1 ⟨x, H1, I1, r1, q1⟩ => ?_)
  obtain ⟨c, rfl, q1⟩ := q1
  cases r1
  refine wpAny_truthy_bool ?_
  cases c with
  | true => exact hb pins s1 σ H1 Q I1 q1
  | false => exact ⟨.bl false, H1, I1, rfl, q1⟩
theorem pe_not (ha : PE X a ta) : PE X (.UnaryOp .Not a pos) (tNotV ta) := by
  intro pins s σ H Q I h
  refine UnaryOp_ (thn (ha pins s σ H _ I h) fun v s1 ⟨x, H1, I1, r1, q1⟩ => ?_)
  obtain ⟨c, rfl, q1⟩ := q1
  cases r1
  exact not_of (wpAny_truthy_bool ⟨.bl (!c), H1, I1, rfl, q1⟩)
def tIf (t : TT) (ta tb : TE) : TE := fun σ H Q => t σ H fun c H1 => if c = true then ta σ H1 Q else tb σ H1 Q
theorem pe_ifExp {c : Expr} (hc : PT X c tA) (ha : PE X a ta) (hb : PE X b tb) : PE X (.IfExp c a b pos) (tIf tA ta tb) := by
  intro pins s σ H Q I h
  refine wpAny_IfExp (thn (hc pins s σ H _ I h) fun d s1 ⟨H1, I1, q1⟩ => ?_)
  cases d with
  | true => exact ha pins s1 σ H1 Q I1 q1
  | false => exact hb pins s1 σ H1 Q I1 q1
end
end L2
namespace L2
open PySem PySem.Spec PyProof.Rows
def SqL (K : PySem.W.Frag) (H : Hp) (a : Addr) (xs : List V) : Prop :=
  Rd H a (.lst xs) ∨
    ∃ (o : Obj) (its : Array Value) (n : Nat), K.lookup a = some o ∧ o.cls = .type "list" ∧ o.dict = none ∧ o.data = .seq its n ∧ its.size ≤ sizeLine ∧ Vals xs its.toList
def SqT (K : PySem.W.Frag) (H : Hp) (a : Addr) (xs : List V) : Prop :=
  Rd H a (.tup xs) ∨
    ∃ (o : Obj) (its : Array Value) (n : Nat), K.lookup a = some o ∧ o.cls = .type "tuple" ∧ o.data = .seq its n ∧ its.size ≤ sizeLine ∧ Vals xs its.toList
section
variable {X : Cx} {pins : List (Addr × Obj)} {σ : St} {H : Hp} {s : Shared} {a : Addr} {xs ys : List V}
theorem Inv.list (I : Inv X pins σ H s) (h : SqL X.K H a xs) : ∃ its : List Value, Vals xs its ∧ PlainL s.heap a its.toArray ∧ xs.length ≤ sizeLine := by
  rcases h with h | ⟨o, its, n, hk, hc, hd, hs, hz, r⟩
  · obtain ⟨z, its, n, r, e⟩ := h.ok I.hok
    exact ⟨its, r, ⟨_, n, e, rfl, rfl, rfl⟩, z⟩
  · refine ⟨its.toList, r, ⟨o, n, I.kIn a o hk, hc, hd, by simpa using hs⟩, ?_⟩
    have e := r.length
    simp only [Array.length_toList] at e
    omega
theorem Inv.tuple (I : Inv X pins σ H s) (h : SqT X.K H a xs) : ∃ its : List Value, Vals xs its ∧ IsTup s.heap a its.toArray ∧ xs.length ≤ sizeLine := by
  rcases h with h | ⟨o, its, n, hk, hc, hs, hz, r⟩
  · obtain ⟨z, its, r, p⟩ := h.ok I.hok
    exact ⟨its, r, p, z⟩
  · refine ⟨its.toList, r, ⟨o, I.kIn a o hk, hc, n, by simpa using hs⟩, ?_⟩
    have e := r.length
    simp only [Array.length_toList] at e
    omega
end
abbrev Cx.wish (X : Cx) (E : Value → Shared → Prop) : Cx := { X with xe := E }
abbrev Cx.nox (X : Cx) : Cx := X.wish fun _ _ => False
theorem Cx.Ok.wish {X : Cx} (ok : X.Ok) (E : Value → Shared → Prop) : (X.wish E).Ok :=
  ⟨ok.mod, ok.kind, ok.glob, ok.blt, ok.above, ok.inj, ok.has, ok.cab, ok.hd, ok.frames, ok.stk, ok.exf, ok.bs, ok.bsz, ok.noex, ok.exfs, ok.funs, ok.frf⟩
theorem Cx.Ok.unwish {X : Cx} {E : Value → Shared → Prop} (ok : (X.wish E).Ok) : X.Ok :=
  ⟨ok.mod, ok.kind, ok.glob, ok.blt, ok.above, ok.inj, ok.has, ok.cab, ok.hd, ok.frames, ok.stk, ok.exf, ok.bs, ok.bsz, ok.noex, ok.exfs, ok.funs, ok.frf⟩
section
variable {X : Cx} {pins : List (Addr × Obj)} {σ : St} {H : Hp} {s : Shared} {E : Value → Shared → Prop}
theorem Inv.wish (I : Inv X pins σ H s) (E : Value → Shared → Prop) : Inv (X.wish E) pins σ H s := ⟨I.ok.wish E, I.os, I.bare, I.base, I.loc, I.cell, I.free, I.freeC, I.pin, I.hok, I.len⟩
theorem Inv.unwish (I : Inv (X.wish E) pins σ H s) : Inv X pins σ H s := ⟨I.ok.unwish, I.os, I.bare, I.base, I.loc, I.cell, I.free, I.freeC, I.pin, I.hok, I.len⟩
theorem SP.unwish {D : Ends} {f : Flow} {s' : Shared} (h : SP (X.wish E) pins D f s') : SP X pins D f s' := by
  cases f with
  | next => obtain ⟨σ', H', I, q⟩ := h; exact ⟨σ', H', I.unwish, q⟩
  | brk => obtain ⟨σ', H', I, q⟩ := h; exact ⟨σ', H', I.unwish, q⟩
  | cont => obtain ⟨σ', H', I, q⟩ := h; exact ⟨σ', H', I.unwish, q⟩
  | ret u => obtain ⟨v, σ', H', I, r, q⟩ := h; exact ⟨v, σ', H', I.unwish, r, q⟩
theorem PSs.nox {st : List Stmt} {t : TS} (h : PSs X.nox st t) : PSs X st t := fun pins s σ H D I hw =>
  wpAny_mono (h pins s σ H D (I.wish _) hw) (fun _ _ q => q.unwish) fun _ _ z => False.elim z
end
section
variable {X : Cx} {st : Stmt} {rest : List Stmt} {t u : TS} {e : Expr} {te : TE} {pos : Pos}
def tNext : TS := fun D σ H => D.nx σ H
def tSeq (t u : TS) : TS := fun D σ H => t { D with nx := u D } σ H
theorem pss_nil : PSs X [] tNext := fun _ _ σ H _ I h => wpAny_execs_nil ⟨σ, H, I, h⟩
theorem pss_cons (h1 : PS X st t) (h2 : PSs X rest u) : PSs X (st :: rest) (tSeq t u) := by
  intro pins s σ H D I h
  refine wpAny_execs_cons (thn (h1 pins s σ H { D with nx := u D } I h) fun f s1 q => ?_)
  cases f with
  | next =>
    obtain ⟨σ', H', I', q⟩ := q
    exact h2 pins s1 σ' H' D I' q
  | ret v => exact q
  | brk => exact q
  | cont => exact q
theorem pss_one (h1 : PS X st t) : PSs X [st] t := by
  intro pins s σ H D I h
  refine wpAny_execs_cons (thn (h1 pins s σ H D I h) fun f s1 q => ?_)
  cases f with
  | next => exact wpAny_execs_nil q
  | ret v => exact q
  | brk => exact q
  | cont => exact q
theorem Inv.quiet {pins : List (Addr × Obj)} {σ : St} {H : Hp} {s : Shared} (I : Inv X pins σ H s) : interactive X.env = false := by simp [interactive, I.ok.kind]
def tDrop (te : TE) : TS := fun D σ H => te σ H fun _ H1 => D.nx σ H1
theorem ps_expr (he : PE X e te) (hs : swapsWith e none pos.line X.env = pure false := by rfl) : PS X (.Expr e pos) (tDrop te) := by
  intro pins s σ H D I h
  exact wpAny_Expr_any (thn (he pins s σ H _ I h) fun v s1 ⟨x, H1, I1, r1, q1⟩ => ⟨σ, H1, I1, q1⟩) I.quiet hs
def tRet (te : TE) : TS := fun D σ H => te σ H D.rt
theorem ps_ret (he : PE X e te) : PS X (.Return (some e) pos) (tRet te) := by
  intro pins s σ H D I h
  exact wpAny_Return_some (thn (he pins s σ H _ I h) fun v s1 ⟨x, H1, I1, r1, q1⟩ => ⟨x, σ, H1, I1, r1, q1⟩)
def tIfS (c : TT) (t u : TS) : TS := fun D σ H => c σ H fun b H1 => if b = true then t D σ H1 else u D σ H1
theorem ps_if {c : Expr} {a b : List Stmt} {tc : TT} (hc : PT X c tc) (ha : PSs X a t) (hb : PSs X b u) : PS X (.If c a b pos) (tIfS tc t u) := by
  intro pins s σ H D I h
  refine wpAny_If (thn (hc pins s σ H _ I h) fun d s1 ⟨H1, I1, q1⟩ => ?_)
  cases d with
  | true => exact ha pins s1 σ H1 D I1 q1
  | false => exact hb pins s1 σ H1 D I1 q1
end
abbrev TG := V → St → Hp → (St → Hp → Prop) → Prop
abbrev TGs := List V → St → Hp → (St → Hp → Prop) → Prop
def PG (X : Cx) (target : Expr) (t : TG) : Prop :=
  ∀ (pins : List (Addr × Obj)) (s : Shared) (σ : St) (H : Hp) (v : V) (u : Value) (Q : St → Hp → Prop), Inv X pins σ H s → RelV v u → t v σ H Q →
    wpAny (model X.prog X.w) X.A (assign target X.env u) (fun _ s' => ∃ σ' H', Inv X pins σ' H' s' ∧ Q σ' H') X.xe s
def PGs (X : Cx) (ts : List Expr) (t : TGs) : Prop :=
  ∀ (pins : List (Addr × Obj)) (s : Shared) (σ : St) (H : Hp) (vs : List V) (us : List Value) (Q : St → Hp → Prop), Inv X pins σ H s → Vals vs us → t vs σ H Q →
    wpAny (model X.prog X.w) X.A (assignInOrder ((assignEach ts X.env).map (·.2)) us) (fun _ s' => ∃ σ' H', Inv X pins σ' H' s' ∧ Q σ' H') X.xe s
section
variable {X : Cx} {pos : Pos}
def gName (i : Nat) : TG := fun v σ H Q => Q (σ.set i (some v)) H
theorem pg_name {i : Nat} {x : Str} (hN : X.N.Nodup) (hi : X.N[i]? = some x) (hx : Loc X.env.scope x) (hf : X.fn x = true ∨ X.env.scope.names.lookup x = some .local := by first | exact .inl rfl | exact .inr rfl | assumption) : PG X (.Name x pos) (gName i) := by
  intro pins s σ H v u Q I r h
  exact wpAny_assign_Name (store_ok I hN hi hx r (fun s' I' => ⟨_, H, I', h⟩) hf)
def gNil : TGs := fun vs σ H Q => vs = [] ∧ Q σ H
def gCons (t : TG) (u : TGs) : TGs := fun vs σ H Q => ∃ v r, vs = v :: r ∧ t v σ H fun σ' H' => u r σ' H' Q
theorem pgs_nil : PGs X [] gNil := by
  intro pins s σ H vs us Q I r h
  obtain ⟨e, h⟩ := h
  subst e
  cases r
  exact assignInOrder_nil ⟨σ, H, I, h⟩
theorem pgs_cons {e : Expr} {es : List Expr} {t : TG} {u : TGs} (h1 : PG X e t) (h2 : PGs X es u)
    (hs : (assignEach (e :: es) X.env).map (·.2) = assign e X.env :: (assignEach es X.env).map (·.2) := by rfl) : PGs X (e :: es) (gCons t u) := by
  intro pins s σ H vs us Q I r h
  obtain ⟨v, vr, e1, h⟩ := h
  subst e1
  cases r with
  | cons r rr =>
    rw [hs]
    refine assignInOrder_cons (thn (h1 pins s σ H _ _ _ I r h) fun _ s1 ⟨σ1, H1, I1, q1⟩ => ?_)
    exact h2 pins s1 σ1 H1 _ _ Q I1 rr q1
def gTup (K : PySem.W.Frag) (n : Nat) (t : TGs) : TG := fun v σ H Q => ∃ a xs, v = .ref a ∧ SqT K H a xs ∧ xs.length = n ∧ t xs σ H Q
theorem pg_tup {es : List Expr} {k : Nat} {t : TGs} {n : Nat} (hc : X.calm = true) (h : PGs X es t)
    (hn : (assignEach es X.env).length = n := by rfl) (hst : (assignEach es X.env).findIdx? (·.1) = none := by rfl) : PG X (.Tuple es k pos) (gTup X.K n t) := by
  intro pins s σ H v u Q I r hw
  obtain ⟨a, xs, e1, hq, hl, hw⟩ := hw
  subst e1
  cases r
  obtain ⟨its, rv, ht, hz⟩ := I.tuple hq
  refine assign_Tuple_tuple (I.ok.hd hc) ht (by simp [hn, ← hl, rv.length]) hst fun h' hx => ?_
  have I1 : Inv X pins σ H { s with heap := h' } := I.kept (t' := s.toks) fun b o e => hx b o (Nat.ne_of_lt (Heap.lt_size e)) e
  exact h pins _ σ H xs _ Q I1 (by simpa using rv) hw
def tAsg (te : TE) (g : TG) : TS := fun D σ H => te σ H fun x H1 => g x σ H1 D.nx
theorem ps_asg {tg e : Expr} {te : TE} {g : TG} (he : PE X e te) (hg : PG X tg g) (hs : swapsWithSole [tg] e pos.line X.env = pure false := by rfl) (hw : swappedStores [tg] e X.env = pure none := by rfl)
    (h1 : (assignEach [tg] X.env).map (·.2) = [assign tg X.env] := by rfl) : PS X (.Assign [tg] e pos) (tAsg te g) := by
  intro pins s σ H D I h
  refine wpAny_Assign_stores (thn (he pins s σ H _ I h) fun v s1 ⟨x, H1, I1, r1, q1⟩ => ?_) hs hw
  rw [h1]
  exact thn (hg pins s1 σ H1 x v _ I1 r1 q1) fun _ s2 q => q
theorem ps_set {i : Nat} {x : Str} {e : Expr} {te : TE} {pos' : Pos} (hN : X.N.Nodup) (hi : X.N[i]? = some x) (hx : Loc X.env.scope x) (he : PE X e te) (hs : swapsWith e (some (.Name x pos')) pos.line X.env = pure false := by rfl) (hf : X.fn x = true ∨ X.env.scope.names.lookup x = some .local := by first | exact .inl rfl | exact .inr rfl | assumption) :
    PS X (.Assign [.Name x pos'] e pos) (tAsg te (gName i)) := by
  intro pins s σ H D I h
  refine wpAny_Assign_Name (thn (he pins s σ H _ I h) fun v s1 ⟨y, H1, I1, r1, q1⟩ => ?_) hs
  exact store_ok I1 hN hi hx r1 (fun s2 I2 => ⟨_, H1, I2, q1⟩) hf
end
section
variable {X : Cx} {pos : Pos}
def tWhile (c : TT) (tb : TS) : TS := fun D σ H => ∃ W : Nat → St → Hp → Prop, (∃ m, W m σ H) ∧ ∀ m σ H, W m σ H →
  c σ H fun b H1 => if b = true then ∃ N : St → Hp → Prop, (∀ σ' H', N σ' H' → ∃ m', m' < m ∧ W m' σ' H') ∧ tb { D with nx := N, ct := N, bk := D.nx } σ H1 else D.nx σ H1
theorem ps_while {c : Expr} {body : List Stmt} {tc : TT} {tb : TS} (hp : PassesOwn (model X.prog X.w) X.A X.env X.xe) (hc : PT X c tc) (hb : PSs X body tb) : PS X (.While c body [] pos) (tWhile tc tb) := by
  intro pins s σ H D I h
  obtain ⟨W, ⟨m0, w0⟩, turn⟩ := h
  refine wpAny_While (codeAny_whileLoop (fun n s' => ∃ σ' H', Inv X pins σ' H' s' ∧ W n σ' H') ?_ m0 ⟨σ, H, I, w0⟩)
  rintro n s1 ⟨σ1, H1, I1, w1⟩
  refine wpAny_passesOwn hp (thn (hc pins s1 σ1 H1 _ I1 (turn n σ1 H1 w1)) fun b s2 ⟨H2, I2, q2⟩ => ?_)
  cases b with
  | true =>
    obtain ⟨N, hN, q2⟩ := q2
    rw [if_pos rfl]
    refine wpAny_passesOwn hp (thn (hb pins s2 σ1 H2 _ I2 q2) fun f s3 q3 => ?_)
    cases f with
    | next =>
      obtain ⟨σ3, H3, I3, n3⟩ := q3
      obtain ⟨m', hm, w3⟩ := hN σ3 H3 n3
      exact ⟨m', hm, σ3, H3, I3, w3⟩
    | cont =>
      obtain ⟨σ3, H3, I3, n3⟩ := q3
      obtain ⟨m', hm, w3⟩ := hN σ3 H3 n3
      exact ⟨m', hm, σ3, H3, I3, w3⟩
    | brk => exact q3
    | ret v => exact q3
  | false =>
    rw [if_neg Bool.false_ne_true]
    exact wpAny_execs_nil ⟨σ1, H2, I2, q2⟩
end
structure It where
  go : Nat → Hp → Prop
  yld : Nat → Hp → V → Hp → Prop
  stop : Nat → Hp → Prop
def FpOk (X : Cx) (pins : List (Addr × Obj)) (H : Hp) (b : Addr) : Prop :=
  H b = none ∧ b ≠ X.env.locals ∧ b ∉ X.fs ∧ (b ∈ X.ex ∨ X.s₀.heap.objs.size ≤ b) ∧ (∀ x c, X.env.cells.lookup x = some c → c ≠ b) ∧ ∀ p ∈ X.pn ++ pins, p.1 ≠ b
theorem Inv.fpOk {X : Cx} {pins : List (Addr × Obj)} {σ : St} {H H' : Hp} {s : Shared} {b : Addr} (I : Inv X pins σ H s) (hb : s.heap.objs.size ≤ b) (hn : H' b = none) : FpOk X pins H' b := by
  refine ⟨hn, Nat.ne_of_gt (Nat.lt_of_lt_of_le I.lt hb), I.nofs hb, .inr (Nat.le_trans I.sz hb), fun x c e z => ?_, fun p hp z => ?_⟩
  · obtain ⟨v, q⟩ := I.cell x c e
    exact absurd (Nat.lt_of_lt_of_le q.lt (by rw [z]; exact hb)) (Nat.lt_irrefl _)
  · exact absurd (Nat.lt_of_lt_of_le (Heap.lt_size (I.pin p hp).1) (by rw [z]; exact hb)) (Nat.lt_irrefl _)
structure Turn (P : Program) (w : World) (K : PySem.W.Frag) (tg : Expr) (J : It) (fp : List Addr) (it : Addr) (tn : Nat → Heap → Prop) : Prop where
  mem : it ∈ fp
  obj : ∀ i h, tn i h → ∀ b ∈ fp, ∃ o, h.get? b = some o ∧ ∀ v, o.data ≠ .cell v
  keep : ∀ i h h', tn i h → (∀ b ∈ fp, ∀ o, h.get? b = some o → h'.get? b = some o) → tn i h'
  item : ∀ (X : Cx), X.prog = P → X.w = w → X.K = K → X.calm = true → ∀ (i : Nat) (pins : List (Addr × Obj)) (s : Shared) (σ : St) (H : Hp) (E : Value → Shared → Prop), Inv X pins σ H s → (∀ b ∈ fp, FpOk X pins H b) → tn i s.heap → J.go i H →
    wpAny (model P w) X.A (pyNext (.ref it)) (fun r s1 => ∃ u, r = some u ∧
      wpAny (model P w) X.A (letOwnedTupleGo tg (.ref it) u) (fun _ s2 => ∃ x H', Inv X pins σ H' s2 ∧ RelV x u ∧ J.yld i H x H' ∧ tn (i + 1) s2.heap ∧ ∀ b ∈ fp, H' b = none) E s1) E s
  done : ∀ (X : Cx), X.prog = P → X.w = w → X.K = K → X.calm = true → ∀ (i : Nat) (pins : List (Addr × Obj)) (s : Shared) (σ : St) (H : Hp) (E : Value → Shared → Prop), Inv X pins σ H s → (∀ b ∈ fp, FpOk X pins H b) → tn i s.heap → J.stop i H →
    wpAny (model P w) X.A (pyNext (.ref it)) (fun r s1 => r = none ∧ Inv X pins σ H s1) E s
  self : ∀ (A : Around) (i : Nat) (s : Shared) (Q : Value → Shared → Prop) (E : Value → Shared → Prop), tn i s.heap → Q (.ref it) s → wpAny (model P w) A (pyIter (.ref it)) Q E s
abbrev TI := St → Hp → (It → Hp → Prop) → Prop
def PIE (X : Cx) (pins : List (Addr × Obj)) (σ : St) (tg : Expr) (R : It → Hp → Prop) (itv : Value) (s2 : Shared) : Prop :=
  ∃ (it : Addr) (fp : List Addr) (tn : Nat → Heap → Prop) (J : It) (H' : Hp), itv = .ref it ∧ Inv X pins σ H' s2 ∧ Turn X.prog X.w X.K tg J fp it tn ∧ tn 0 s2.heap ∧ (∀ b ∈ fp, FpOk X pins H' b) ∧ R J H'
def PI (X : Cx) (tg iter : Expr) (wi : TI) : Prop :=
  ∀ (pins : List (Addr × Obj)) (s : Shared) (σ : St) (H : Hp) (R : It → Hp → Prop), Inv X pins σ H s → wi σ H R →
    wpAny (model X.prog X.w) X.A (eval iter X.env) (fun v s1 => wpAny (model X.prog X.w) X.A (pyIter v) (PIE X pins σ tg R) X.xe s1) X.xe s
theorem go_of {M : Model} {A : Around} {E : Value → Shared → Prop} {s : Shared} {tg : Expr} {it : Addr} {u : Value} {o : Obj} {n : String} {vs : Array Value} {Q : Unit → Shared → Prop} (ho : s.heap.get? it = some o) (hc : o.cls = .type n) (hd : o.data = .fields vs)
    (hn : ["enumerate", "zip", "dict_itemiterator", "dict_reverseitemiterator", "odict_iterator", "itertools.zip_longest", "itertools.pairwise"].contains n = false) (hQ : Q () s) : wpAny M A (letOwnedTupleGo tg (.ref it) u) Q E s := by
  unfold letOwnedTupleGo
  cases tg <;> first
    | exact wpAny_pure hQ
    | (cases u <;> first
        | exact wpAny_pure hQ
        | (refine wpAny_bind (wpAny_load ho ?_)
           rw [hc, hd]
           show wpAny M A (if (["enumerate", "zip", "dict_itemiterator", "dict_reverseitemiterator", "odict_iterator", "itertools.zip_longest", "itertools.pairwise"].contains n && vs[0]? == some (rawInt _)) = true then _ else _) Q E s
           rw [if_neg (by intro h; rw [hn, Bool.false_and] at h; cases h)]
           exact wpAny_pure hQ))
def Itr (lo : Int) (n : Nat) : It := ⟨fun i _ => i < n, fun i H x H' => H' = H ∧ x = .int (lo + i), fun i _ => n ≤ i⟩
theorem turn_range {P : Program} {w : World} {K : PySem.W.Frag} {tg : Expr} (it : Addr) (lo : Int) (n : Nat) : Turn P w K tg (Itr lo n) [it] it (fun i h => IsRangeIter h it (lo + (i : Nat) * 1) ((n : Int) - (i : Nat)) 1) where
  mem := by simp
  obj := fun i h st b hb => by
    have e : b = it := by simpa using hb
    subst e
    exact ⟨_, st, fun v z => by
      have z' : Data.fields _ = Data.cell v := z
      cases z'⟩
  keep := fun i h h' st k => k it (by simp) _ st
  item := by
    intro X hP hw hK hc i pins s σ H E I hf st hg
    subst hP hw hK
    obtain ⟨f0, f1, f2, f3, f4, f5⟩ := hf it (by simp)
    have W := Walks.range (prog := X.prog) (w := X.w) (I.ok.hd hc) it lo 1 n
    refine W.item i s _ _ hg st fun v h' tk hv st' kk => ?_
    obtain ⟨t, rfl⟩ := hv
    have I1 : Inv X pins σ H { s with heap := h', toks := tk } := I.turned (fun b o hb e => kk b o (by simpa using hb) e) f0 f1 f3 f4 f5
    refine ⟨_, rfl, go_of (s := { s with heap := h', toks := tk }) (n := "range_iterator") st' rfl rfl (by decide) ⟨.int (lo + i), H, I1, ⟨t, ?_⟩, ⟨rfl, rfl⟩, st', fun b hb => (hf b hb).1⟩⟩
    rw [Int.mul_one]
  done := by
    intro X hP hw hK hc i pins s σ H E I hf st hg
    subst hP hw hK
    obtain ⟨f0, f1, f2, f3, f4, f5⟩ := hf it (by simp)
    exact wpAny_pyNext_range_end (I.ok.hd hc) st (by have : n ≤ i := hg; omega) fun h' eb => ⟨rfl, I.turned (t' := s.toks) (fun b o hb e => eb b o hb e) f0 f1 f3 f4 f5⟩
  self := fun _ _ _ _ _ st h => wpAny_pyIter_rangeiter st h
end L2
namespace L2
open PySem PySem.Spec PyProof.Rows
section
variable {X : Cx} {tg : Expr}
theorem range_it {pins : List (Addr × Obj)} {σ : St} {H : Hp} {s : Shared} {R : It → Hp → Prop} {E : Value → Shared → Prop} {lo hi : Int} {t u v : Tok} {tk : Nat} (I : Inv X pins σ H s) (h1 : -(2 ^ 62) ≤ lo) (h2 : lo < 2 ^ 62) (h3 : -(2 ^ 62) ≤ hi) (h4 : hi < 2 ^ 62)
    (q : R (Itr lo (hi - lo).toNat) H) : wpAny (model X.prog X.w) X.A (pyIter (.ref s.heap.objs.size)) (PIE X pins σ tg R) E { s with heap := s.heap.push { cls := .type "range", data := .fields #[.int lo t, .int hi u, .int 1 v] }, toks := tk } := by
  refine wpAny_pyIter_range (IsRange.new ..) (small_one h1 h2 h3 h4) ?_
  have I1 : Inv X pins σ H { s with heap := s.heap.push { cls := .type "range", data := .fields #[.int lo t, .int hi u, .int 1 v] }, toks := tk } := I.kept fun b o e => Heap.get?_push_of_some _ e
  refine ⟨(s.heap.push { cls := .type "range", data := .fields #[.int lo t, .int hi u, .int 1 v] }).objs.size, [(s.heap.push { cls := .type "range", data := .fields #[.int lo t, .int hi u, .int 1 v] }).objs.size], _, _, H, rfl,
    I1.kept (t' := tk) fun b o e => Heap.get?_push_of_some _ e, turn_range _ lo (hi - lo).toNat, ?_, fun b hb => ?_, q⟩
  · have e1 : lo + ((0 : Nat) : Int) * 1 = lo := by simp
    have e2 : (((hi - lo).toNat : Nat) : Int) - ((0 : Nat) : Int) = Builtin.Range.rangeSize lo hi 1 := by rw [rangeSize_one]; split <;> omega
    show IsRangeIter _ _ (lo + ((0 : Nat) : Int) * 1) ((((hi - lo).toNat : Nat) : Int) - ((0 : Nat) : Int)) 1
    rw [e1, e2]
    exact Heap.get?_push_size _ rfl
  · have e : b = (s.heap.push { cls := .type "range", data := .fields #[.int lo t, .int hi u, .int 1 v] }).objs.size := by simpa using hb
    subst e
    exact I1.fpOk (Nat.le_refl _) (I1.hok.fresh (Nat.le_refl _))
def iRng1 (ta : TA) : TI := fun σ H R => ta σ H fun vs H1 => ∃ j : Int, vs = [.int j] ∧ -(2 ^ 62) ≤ j ∧ j < 2 ^ 62 ∧ R (Itr 0 j.toNat) H1
theorem pi_range1 {a : Expr} {ta : TA} {p pos : Pos} (hg : Gl X "range") (hm : X.mg "range" = none) (ha : PA X [a] ta) (hs : starEach [a] X.env = [(false, eval a X.env)] := by rfl) : PI X tg (.Call (.Name "range" p) [a] [] pos) (iRng1 ta) := by
  intro pins s σ H R I h
  refine Call_ (ld_blt I hg hm boot_range (PyProof.Rows.callWith_type1 (thn (ha pos pins s σ H _ I h) fun us s1 ⟨vs, H1, I1, r1, q1⟩ => ?_) hs rfl))
  obtain ⟨j, e, q1, q2, q⟩ := q1
  subst e
  cases r1 with
  | cons r rr =>
    cases rr
    obtain ⟨t, rfl⟩ := r
    exact call_range_1 (range_it I1 (by omega) (by omega) q1 q2 (by simpa using q))
def tFor (wi : TI) (g : TG) (tb : TS) : TS := fun D σ H => wi σ H fun J H1 => ∃ W : Nat → Nat → St → Hp → Prop, (∃ m, W 0 m σ H1) ∧ ∀ i m σ H, W i m σ H →
  (J.stop i H ∧ D.nx σ H) ∨ (J.go i H ∧ ∃ N : St → Hp → Prop, (∀ σ' H', N σ' H' → ∃ m', m' < m ∧ W (i + 1) m' σ' H') ∧ ∀ x H', J.yld i H x H' → g x σ H' fun σ2 H2 => tb { D with nx := N, ct := N, bk := D.nx } σ2 H2)
def pinsAt (fp : List Addr) (h : Heap) : List (Addr × Obj) := fp.filterMap fun b => (h.get? b).map fun o => (b, o)
theorem mem_pinsAt {fp : List Addr} {h : Heap} {b : Addr} {o : Obj} (hb : b ∈ fp) (e : h.get? b = some o) : (b, o) ∈ pinsAt fp h := List.mem_filterMap.mpr ⟨b, hb, by rw [e]; rfl⟩
theorem of_pinsAt {fp : List Addr} {h : Heap} {p : Addr × Obj} (hp : p ∈ pinsAt fp h) : p.1 ∈ fp ∧ h.get? p.1 = some p.2 := by
  obtain ⟨b, hb, e⟩ := List.mem_filterMap.mp hp
  cases q : h.get? b with
  | none => rw [q] at e; cases e
  | some o =>
    rw [q] at e
    have e' : (b, o) = p := Option.some.inj e
    subst e'
    exact ⟨hb, q⟩
theorem Inv.pinned {pins : List (Addr × Obj)} {σ : St} {H : Hp} {s : Shared} {fp : List Addr} (I : Inv X pins σ H s) (hf : ∀ b ∈ fp, FpOk X pins H b) (ho : ∀ b ∈ fp, ∃ o, s.heap.get? b = some o ∧ ∀ v, o.data ≠ .cell v) : Inv X (pins ++ pinsAt fp s.heap) σ H s :=
  I.pins_of fun p hp => (List.mem_append.mp hp).elim (fun z => I.pin p (List.mem_append_right _ z)) fun z => by
    obtain ⟨hb, e⟩ := of_pinsAt z
    obtain ⟨f0, f1, f2, _⟩ := hf p.1 hb
    obtain ⟨o, e', d⟩ := ho p.1 hb
    rw [e] at e'; cases e'
    exact ⟨e, f0, f1, f2, d⟩
theorem Inv.unpinned {pins pl : List (Addr × Obj)} {σ : St} {H : Hp} {s : Shared} (I : Inv X (pins ++ pl) σ H s) : Inv X pins σ H s := I.pins_of fun p hp => I.pin p (List.mem_append_right _ (List.mem_append_left _ hp))
theorem ps_for {iter : Expr} {body : List Stmt} {wi : TI} {g : TG} {tb : TS} {pos : Pos} (hp : PassesOwn (model X.prog X.w) X.A X.env X.xe) (hc : X.calm = true) (hi : PI X tg iter wi) (hg : PG X tg g) (hb : PSs X body tb)
    (hs : ∀ x, foldedSetIterable iter X.env x = pure x := by intro _; rfl) : PS X (.For tg iter body [] pos) (tFor wi g tb) := by
  intro pins s σ H D I h
  refine wpAny_For (thn (hi pins s σ H _ I h) fun v s1 h1 => thn h1 fun itv s2 h2 => ?_) hs
  obtain ⟨it, fp, tn, J, H2, e, I2, T, st2, f2, W, ⟨m0, w0⟩, turn⟩ := h2
  subst e
  -- what stays true of the iterator's objects through the loop
  have stat : ∀ {H' : Hp}, (∀ b ∈ fp, H' b = none) → ∀ b ∈ fp, FpOk X pins H' b := fun hn b hb => ⟨hn b hb, (f2 b hb).2⟩
  refine codeAny_forLoop_any (fun n s' => ∃ i σ' H', Inv X pins σ' H' s' ∧ tn i s'.heap ∧ (∀ b ∈ fp, H' b = none) ∧ W i n σ' H') ?_ m0 ⟨0, σ, H2, I2, st2, fun b hb => (f2 b hb).1, w0⟩
  rintro n s3 ⟨i, σ3, H3, I3, st3, fr3, w3⟩
  rcases turn i n σ3 H3 w3 with ⟨stop, qn⟩ | ⟨go, N, hN, step⟩
  · refine wpAny_passesOwn hp (thn (T.done X rfl rfl rfl hc i pins s3 σ3 H3 X.xe I3 (stat fr3) st3 stop) fun r s4 ⟨hr, I4⟩ => ?_)
    subst hr
    exact wpAny_execs_nil ⟨σ3, H3, I4, qn⟩
  · refine wpAny_passesOwn hp (thn (T.item X rfl rfl rfl hc i pins s3 σ3 H3 X.xe I3 (stat fr3) st3 go) fun r s4 ⟨u, hr, h4⟩ => ?_)
    subst hr
    refine wpAny_passesOwn hp (thn h4 fun _ s5 ⟨x, H5, I5, r5, y5, st5, fr5⟩ => ?_)
    have I5' := I5.pinned (stat fr5) (T.obj _ _ st5)
    refine wpAny_passesOwn hp (thn (hg _ s5 σ3 H5 x u _ I5' r5 (step x H5 y5)) fun _ s6 ⟨σ6, H6, I6, q6⟩ => ?_)
    refine wpAny_passesOwn hp (thn (hb _ s6 σ6 H6 _ I6 q6) fun f s7 q7 => ?_)
    have again : ∀ {σ7 : St} {H7 : Hp}, Inv X (pins ++ pinsAt fp s5.heap) σ7 H7 s7 → N σ7 H7 → ∃ m, m < n ∧ ∃ i σ' H', Inv X pins σ' H' s7 ∧ tn i s7.heap ∧ (∀ b ∈ fp, H' b = none) ∧ W i m σ' H' := fun {σ7 H7} I7 n7 => by
      obtain ⟨m', hm, w7⟩ := hN σ7 H7 n7
      refine ⟨m', hm, i + 1, σ7, H7, I7.unpinned, T.keep _ _ _ st5 fun b hb o e => (I7.pin (b, o) (List.mem_append_right _ (List.mem_append_right _ (mem_pinsAt hb e)))).1, fun b hb => ?_, w7⟩
      obtain ⟨o, e, d⟩ := T.obj _ _ st5 b hb
      exact (I7.pin (b, o) (List.mem_append_right _ (List.mem_append_right _ (mem_pinsAt hb e)))).2.1
    cases f with
    | next => obtain ⟨σ7, H7, I7, n7⟩ := q7; exact again I7 n7
    | cont => obtain ⟨σ7, H7, I7, n7⟩ := q7; exact again I7 n7
    | brk => obtain ⟨σ7, H7, I7, q7⟩ := q7; exact ⟨σ7, H7, I7.unpinned, q7⟩
    | ret v => obtain ⟨x7, σ7, H7, I7, r7, q7⟩ := q7; exact ⟨x7, σ7, H7, I7.unpinned, r7, q7⟩
end
end L2
namespace L2
open PySem PySem.Spec PyProof.Rows
abbrev R2 := V → V → Hp → VK → Prop
def OpR (X : Cx) (f : Value → Value → Sem Value) (r : R2) : Prop :=
  ∀ (pins : List (Addr × Obj)) (s : Shared) (σ : St) (H : Hp) (x y : V) (v u : Value) (Q : VK), Inv X pins σ H s → RelV x v → RelV y u → r x y H Q →
    wpAny (model X.prog X.w) X.A (f v u) (EP X pins σ Q) X.xe s
def UnR (X : Cx) (f : Value → Sem Value) (r : V → Hp → VK → Prop) : Prop :=
  ∀ (pins : List (Addr × Obj)) (s : Shared) (σ : St) (H : Hp) (x : V) (v : Value) (Q : VK), Inv X pins σ H s → RelV x v → r x H Q →
    wpAny (model X.prog X.w) X.A (f v) (EP X pins σ Q) X.xe s
def CallR (X : Cx) (f : Value) (r : List V → Hp → VK → Prop) : Prop :=
  ∀ (pins : List (Addr × Obj)) (s : Shared) (σ : St) (H : Hp) (xs : List V) (us : List Value) (Q : VK), Inv X pins σ H s → Vals xs us → r xs H Q →
    wpAny (model X.prog X.w) X.A (call f us) (EP X pins σ Q) X.xe s
def tOp (r : R2) (ta tb : TE) : TE := fun σ H Q => ta σ H fun x H1 => tb σ H1 fun y H2 => r x y H2 Q
def tUn (r : V → Hp → VK → Prop) (ta : TE) : TE := fun σ H Q => ta σ H fun x H1 => r x H1 Q
def rI (C : Int → Int → Prop) (g : Int → Int → V) : R2 := fun x y H Q => ∃ i j, x = .int i ∧ y = .int j ∧ C i j ∧ Q (g i j) H
def rI0 (g : Int → Int → V) : R2 := fun x y H Q => ∃ i j, x = .int i ∧ y = .int j ∧ Q (g i j) H
def rU (g : Int → V) : V → Hp → VK → Prop := fun x H Q => ∃ i, x = .int i ∧ Q (g i) H
section
variable {X : Cx} {a b c : Expr} {ta tb tc : TE} {pos : Pos}
theorem binT (ha : PE X a ta) (hb : PE X b tb) {pins : List (Addr × Obj)} {s : Shared} {σ : St} {H : Hp} {R : V → V → Hp → Prop} (I : Inv X pins σ H s)
    (h : ta σ H fun x H1 => tb σ H1 fun y H2 => R x y H2) {Q : Value → Shared → Prop} {f : Value → Value → Sem Value}
    (hf : ∀ v u s2 x y H2, Inv X pins σ H2 s2 → RelV x v → RelV y u → R x y H2 → wpAny (model X.prog X.w) X.A (f v u) Q X.xe s2) :
    wpAny (model X.prog X.w) X.A (eval a X.env) (fun v s₁ => wpAny (model X.prog X.w) X.A (eval b X.env) (fun u s₂ => wpAny (model X.prog X.w) X.A (f v u) Q X.xe s₂) X.xe s₁) X.xe s := by
  refine thn (ha pins s σ H _ I h) fun v s1 ⟨x, H1, I1, r1, q1⟩ => ?_
  refine thn (hb pins s1 σ H1 _ I1 q1) fun u s2 ⟨y, H2, I2, r2, q2⟩ => ?_
  exact hf v u s2 x y H2 I2 r1 r2 q2
theorem pe_op {op : Operator} {r : R2} (ho : OpR X (binaryOp op) r) (ha : PE X a ta) (hb : PE X b tb) : PE X (.BinOp a op b pos) (tOp r ta tb) := by
  intro pins s σ H Q I h
  exact wpAny_BinOp (binT ha hb I h fun v u s2 x y H2 I2 rx ry q => ho pins s2 σ H2 x y v u Q I2 rx ry q)
theorem pe_un {op : UnaryOp} {r : V → Hp → VK → Prop} (ho : UnR X (unaryOp op) r) (ha : PE X a ta) : PE X (.UnaryOp op a pos) (tUn r ta) := by
  intro pins s σ H Q I h
  exact UnaryOp_ (thn (ha pins s σ H _ I h) fun v s1 ⟨x, H1, I1, r1, q1⟩ => ho pins s1 σ H1 x v Q I1 r1 q1)
theorem opI {f : Value → Value → Sem Value} {C : Int → Int → Prop} {g : Int → Int → Int}
    (rule : ∀ (i j : Int) (t u : Tok) (s : Shared) (Q : Value → Shared → Prop) (E : Value → Shared → Prop), C i j → Q (.int (g i j) s.toks) { s with toks := s.toks + 1 } → wpAny (model X.prog X.w) X.A (f (.int i t) (.int j u)) Q E s) :
    OpR X f (rI C fun i j => .int (g i j)) := by
  intro pins s σ H x y v u Q I rx ry h
  obtain ⟨i, j, rfl, rfl, hc, q⟩ := h
  obtain ⟨t, rfl⟩ := rx
  obtain ⟨t', rfl⟩ := ry
  exact rule i j t t' s _ _ hc ⟨.int (g i j), H, I.tok _, ⟨_, rfl⟩, q⟩
theorem opI0 {f : Value → Value → Sem Value} {g : Int → Int → Int}
    (rule : ∀ (i j : Int) (t u : Tok) (s : Shared) (Q : Value → Shared → Prop) (E : Value → Shared → Prop), Q (.int (g i j) s.toks) { s with toks := s.toks + 1 } → wpAny (model X.prog X.w) X.A (f (.int i t) (.int j u)) Q E s) :
    OpR X f (rI0 fun i j => .int (g i j)) := by
  intro pins s σ H x y v u Q I rx ry h
  obtain ⟨i, j, rfl, rfl, q⟩ := h
  obtain ⟨t, rfl⟩ := rx
  obtain ⟨t', rfl⟩ := ry
  exact rule i j t t' s _ _ ⟨.int (g i j), H, I.tok _, ⟨_, rfl⟩, q⟩
theorem opB0 {f : Value → Value → Sem Value} {g : Int → Int → Bool}
    (rule : ∀ (i j : Int) (t u : Tok) (s : Shared) (Q : Value → Shared → Prop) (E : Value → Shared → Prop), Q (.bool (g i j)) s → wpAny (model X.prog X.w) X.A (f (.int i t) (.int j u)) Q E s) :
    OpR X f (rI0 fun i j => .bl (g i j)) := by
  intro pins s σ H x y v u Q I rx ry h
  obtain ⟨i, j, rfl, rfl, q⟩ := h
  obtain ⟨t, rfl⟩ := rx
  obtain ⟨t', rfl⟩ := ry
  exact rule i j t t' s _ _ ⟨.bl (g i j), H, I, rfl, q⟩
def CDiv (i j : Int) : Prop := 0 < j ∧ j < 1073741824
def CPow (i j : Int) : Prop := 0 ≤ j ∧ j ≤ 1000000 ∧ i.natAbs < 2 ^ 64
def CMul (i j : Int) : Prop := (-(2 ^ 64) < i ∧ i < 2 ^ 64) ∨ (-(2 ^ 64) < j ∧ j < 2 ^ 64)
theorem CMul.ok {i j : Int} (h : CMul i j) : IntMulOk i j := by
  rcases h with ⟨h1, h2⟩ | ⟨h1, h2⟩
  · exact .of_left (intBits_le_64 h1 h2)
  · exact .of_right (intBits_le_64 h1 h2)
theorem op_add : OpR X (binaryOp .Add) (rI0 fun i j => .int (i + j)) := opI0 fun _ _ _ _ _ _ _ q => add_int q
theorem op_sub : OpR X (binaryOp .Sub) (rI0 fun i j => .int (i - j)) := opI0 fun _ _ _ _ _ _ _ q => sub_int q
theorem op_mul : OpR X (binaryOp .Mult) (rI CMul fun i j => .int (i * j)) := opI fun _ _ _ _ _ _ _ hc q => mul_int q hc.ok
theorem op_fdiv : OpR X (binaryOp .FloorDiv) (rI CDiv fun i j => .int (i / j)) := opI fun i j _ _ _ _ _ hc q => by
  have h1 : (0 : Int) < j := hc.1
  have h2 : j < 1073741824 := hc.2
  exact floordiv_int (by omega) (by rw [Int.fdiv_eq_ediv_of_nonneg i (by omega)]; exact q) (.inl (PyProof.noPylong_small (by omega)))
theorem op_mod : OpR X (binaryOp .Mod) (rI (fun _ j => 0 < j) fun i j => .int (i % j)) := opI fun i j _ _ _ _ _ hc q => by
  have h1 : (0 : Int) < j := hc
  exact mod_int' (by omega) (by rw [Int.fmod_eq_emod_of_nonneg i (by omega)]; exact q)
theorem op_pow : OpR X (binaryOp .Pow) (rI CPow fun i j => .int (i ^ j.toNat)) := opI fun _ _ _ _ _ _ _ hc q => pow_int_small hc.1 hc.2.1 hc.2.2 q
theorem unI {f : Value → Sem Value} {g : Int → Int}
    (rule : ∀ (i : Int) (t : Tok) (s : Shared) (Q : Value → Shared → Prop) (E : Value → Shared → Prop), Q (.int (g i) s.toks) { s with toks := s.toks + 1 } → wpAny (model X.prog X.w) X.A (f (.int i t)) Q E s) :
    UnR X f (rU fun i => .int (g i)) := by
  intro pins s σ H x v Q I rx h
  obtain ⟨i, rfl, q⟩ := h
  obtain ⟨t, rfl⟩ := rx
  exact rule i t s _ _ ⟨.int (g i), H, I.tok _, ⟨_, rfl⟩, q⟩
theorem un_neg : UnR X (unaryOp .USub) (rU fun i => .int (-i)) := unI fun _ _ _ _ _ q => neg_int q
end
def scal : V → V → Bool
  | .non, .non => true | .non, .int _ => true | .int _, .non => true | .non, .bl _ => true | .bl _, .non => true | .non, .str _ => true | .str _, .non => true
  | .int _, .int _ => true | .bl _, .bl _ => true | .str _, .str _ => true | .byt _, .byt _ => true
  | .int _, .str _ => true | .str _, .int _ => true | .bl _, .str _ => true | .str _, .bl _ => true
  | _, _ => false
def rEq : R2 := fun x y H Q => scal x y = true ∧ Q (.bl (decide (x = y))) H
def rNe : R2 := fun x y H Q => scal x y = true ∧ Q (.bl (!decide (x = y))) H
theorem dec_int {i j : Int} : decide (V.int i = V.int j) = (i == j) := by
  rw [Bool.eq_iff_iff]
  simp
theorem dec_bl {i j : Bool} : decide (V.bl i = V.bl j) = (i == j) := by
  rw [Bool.eq_iff_iff]
  simp
theorem dec_str {i j : Str} : decide (V.str i = V.str j) = (i == j) := by
  rw [Bool.eq_iff_iff]
  simp
theorem dec_byt {i j : Array UInt8} : decide (V.byt i = V.byt j) = (i.toList == j.toList) := by
  rw [Bool.eq_iff_iff]
  cases i
  cases j
  simp
section
variable {X : Cx} {a b c : Expr} {ta tb tc : TE} {pos : Pos}
theorem fin_bl {pins : List (Addr × Obj)} {σ : St} {H : Hp} {s : Shared} {Q : VK} {k k' : Bool} (I : Inv X pins σ H s) (q : Q (.bl k) H) (e : k = k') : EP X pins σ Q (.bool k') s := by
  subst e
  exact ⟨.bl k, H, I, rfl, q⟩
theorem op_eq : OpR X (compareOp .Eq) rEq := by
  intro pins s σ H x y v u Q I rx ry h
  obtain ⟨hs, q⟩ := h
  cases x with
  | non =>
    cases rx
    cases y with
    | non => cases ry; exact PySem.EqNone.eq_none_none (fin_bl I q (by simp))
    | bl j => cases ry; exact PySem.EqNone.eq_none_bool (fin_bl I q (by simp))
    | int j => obtain ⟨t', rfl⟩ := ry; exact PySem.EqNone.eq_none_int (fin_bl I q (by simp))
    | str j => obtain ⟨t', rfl⟩ := ry; exact PySem.EqNone.eq_none_str (fin_bl I q (by simp))
    | _ => exact absurd (show false = true from hs) Bool.false_ne_true
  | bl i =>
    cases rx
    cases y with
    | non => cases ry; exact PySem.EqNone.eq_bool_none (fin_bl I q (by simp))
    | bl j => cases ry; exact eq_bool (fin_bl I q dec_bl)
    | str j => obtain ⟨t', rfl⟩ := ry; exact PySem.EqMixed.eq_bool_str (fin_bl I q (by simp))
    | _ => exact absurd (show false = true from hs) Bool.false_ne_true
  | int i =>
    obtain ⟨t, rfl⟩ := rx
    cases y with
    | non => cases ry; exact PySem.EqNone.eq_int_none (fin_bl I q (by simp))
    | int j => obtain ⟨t', rfl⟩ := ry; exact eq_int (fin_bl I q dec_int)
    | str j => obtain ⟨t', rfl⟩ := ry; exact PySem.EqMixed.eq_int_str (fin_bl I q (by simp))
    | _ => exact absurd (show false = true from hs) Bool.false_ne_true
  | str i =>
    obtain ⟨t, rfl⟩ := rx
    cases y with
    | non => cases ry; exact PySem.EqNone.eq_str_none (fin_bl I q (by simp))
    | bl j => cases ry; exact PySem.EqMixed.eq_str_bool (fin_bl I q (by simp))
    | int j => obtain ⟨t', rfl⟩ := ry; exact PySem.EqMixed.eq_str_int (fin_bl I q (by simp))
    | str j => obtain ⟨t', rfl⟩ := ry; exact eq_str (fin_bl I q dec_str)
    | _ => exact absurd (show false = true from hs) Bool.false_ne_true
  | byt i =>
    obtain ⟨t, rfl⟩ := rx
    cases y with
    | byt j => obtain ⟨t', rfl⟩ := ry; exact PySem.W.eq_bytes (fin_bl I q dec_byt)
    | _ => exact absurd (show false = true from hs) Bool.false_ne_true
  | _ => cases y <;> exact absurd (show false = true from hs) Bool.false_ne_true
theorem op_ne : OpR X (compareOp .NotEq) rNe := by
  intro pins s σ H x y v u Q I rx ry h
  obtain ⟨hs, q⟩ := h
  cases x with
  | non =>
    cases rx
    cases y with
    | non => cases ry; exact PySem.EqNone.ne_none_none (fin_bl I q (by simp))
    | bl j => cases ry; exact PySem.EqNone.ne_none_bool (fin_bl I q (by simp))
    | int j => obtain ⟨t', rfl⟩ := ry; exact PySem.EqNone.ne_none_int (fin_bl I q (by simp))
    | str j => obtain ⟨t', rfl⟩ := ry; exact PySem.EqNone.ne_none_str (fin_bl I q (by simp))
    | _ => exact absurd (show false = true from hs) Bool.false_ne_true
  | bl i =>
    cases rx
    cases y with
    | non => cases ry; exact PySem.EqNone.ne_bool_none (fin_bl I q (by simp))
    | bl j => cases ry; exact ne_bool (fin_bl I q (congrArg not dec_bl))
    | str j => obtain ⟨t', rfl⟩ := ry; exact PySem.EqMixed.ne_bool_str (fin_bl I q (by simp))
    | _ => exact absurd (show false = true from hs) Bool.false_ne_true
  | int i =>
    obtain ⟨t, rfl⟩ := rx
    cases y with
    | non => cases ry; exact PySem.EqNone.ne_int_none (fin_bl I q (by simp))
    | int j => obtain ⟨t', rfl⟩ := ry; exact ne_int (fin_bl I q (congrArg not dec_int))
    | str j => obtain ⟨t', rfl⟩ := ry; exact PySem.EqMixed.ne_int_str (fin_bl I q (by simp))
    | _ => exact absurd (show false = true from hs) Bool.false_ne_true
  | str i =>
    obtain ⟨t, rfl⟩ := rx
    cases y with
    | non => cases ry; exact PySem.EqNone.ne_str_none (fin_bl I q (by simp))
    | bl j => cases ry; exact PySem.EqMixed.ne_str_bool (fin_bl I q (by simp))
    | int j => obtain ⟨t', rfl⟩ := ry; exact PySem.EqMixed.ne_str_int (fin_bl I q (by simp))
    | str j => obtain ⟨t', rfl⟩ := ry; exact ne_str (fin_bl I q (congrArg not dec_str))
    | _ => exact absurd (show false = true from hs) Bool.false_ne_true
  | byt i =>
    obtain ⟨t, rfl⟩ := rx
    cases y with
    | byt j => obtain ⟨t', rfl⟩ := ry; exact PySem.W.ne_bytes (fin_bl I q (congrArg not dec_byt))
    | _ => exact absurd (show false = true from hs) Bool.false_ne_true
  | _ => cases y <;> exact absurd (show false = true from hs) Bool.false_ne_true
theorem op_lt : OpR X (compareOp .Lt) (rI0 fun i j => .bl (decide (i < j))) := opB0 fun _ _ _ _ _ _ _ q => lt_int q
theorem op_le : OpR X (compareOp .LtE) (rI0 fun i j => .bl (decide (i ≤ j))) := opB0 fun _ _ _ _ _ _ _ q => le_int q
theorem op_gt : OpR X (compareOp .Gt) (rI0 fun i j => .bl (decide (j < i))) := opB0 fun _ _ _ _ _ _ _ q => gt_int q
theorem op_in_str : OpR X (compareOp .In) (fun x y H Q => ∃ i j, x = .str i ∧ y = .str j ∧ Q (.bl (!(Builtin.Str.occurrences j i 0 j.length 1).isEmpty)) H) := by
  intro pins s σ H x y v u Q I rx ry h
  obtain ⟨i, j, rfl, rfl, q⟩ := h
  obtain ⟨t, rfl⟩ := rx
  obtain ⟨t', rfl⟩ := ry
  exact in_str (fin_bl I q rfl)
theorem op_isN : OpR X (compareOp .Is) (fun x y H Q => y = .non ∧ Q (.bl (decide (x = .non))) H) := by
  intro pins s σ H x y v u Q I rx ry h
  obtain ⟨rfl, q⟩ := h
  cases ry
  refine is_none_gen (fin_bl I q ?_)
  cases x <;> first
    | (cases rx; rfl)
    | (obtain ⟨t, rfl⟩ := rx; rfl)
theorem op_notin_str : OpR X (compareOp .NotIn) (fun x y H Q => ∃ i j, x = .str i ∧ y = .str j ∧ Q (.bl (!(!(Builtin.Str.occurrences j i 0 j.length 1).isEmpty))) H) := by
  intro pins s σ H x y v u Q I rx ry h
  obtain ⟨i, j, rfl, rfl, q⟩ := h
  obtain ⟨t, rfl⟩ := rx
  obtain ⟨t', rfl⟩ := ry
  exact notIn_str (fin_bl I q rfl)
theorem nomark (b : Expr) {op : CmpOp} (h : op ≠ .In := by decide) (h2 : op ≠ .NotIn := by decide) : behindInMarks op b = false := by
  have e1 : (op == CmpOp.In) = false := by cases op <;> first | rfl | exact absurd rfl h
  have e2 : (op == CmpOp.NotIn) = false := by cases op <;> first | rfl | exact absurd rfl h2
  cases b <;> simp [behindInMarks, e1, e2]
theorem pe_cmpR {op : CmpOp} {r : R2} (ho : OpR X (compareOp op) r) (ha : PE X a ta) (hb : PE X b tb) (hm : behindInMarks op b = false) : PE X (.Compare a [op] [b] pos) (tOp r ta tb) := by
  intro pins s σ H Q I h
  exact wpAny_Compare1 (binT ha hb I h fun v u s2 x y H2 I2 rx ry q => ho pins s2 σ H2 x y v u Q I2 rx ry q) hm
def tTest (t : TE) : TT := fun σ H Q => t σ H fun x H' => ∃ k, x = .bl k ∧ Q k H'
theorem pt_cmpR {op : CmpOp} {r : R2} (ho : OpR X (compareOp op) r) (ha : PE X a ta) (hb : PE X b tb) (hm : behindInMarks op b = false) : PT X (.Compare a [op] [b] pos) (tTest (tOp r ta tb)) := by
  intro pins s σ H Q I h
  refine wpAny_isTrue_Compare1 (thn (ha pins s σ H _ I h) fun v s1 ⟨x, H1, I1, r1, q1⟩ => thn (hb pins s1 σ H1 _ I1 q1) fun u s2 ⟨y, H2, I2, r2, q2⟩ =>
    thn (ho pins s2 σ H2 x y v u _ I2 r1 r2 q2) fun c s3 ⟨z, H3, I3, r3, k, e, q3⟩ => ?_) hm
  subst e
  cases r3
  exact wpAny_truthy_bool ⟨H3, I3, q3⟩
def tChain (r r' : R2) (ta tb tc : TE) : TE := fun σ H Q => ta σ H fun x H1 => tb σ H1 fun y H2 => r x y H2 fun z H3 => ∃ k, z = .bl k ∧
  (if k = true then tc σ H3 fun w' H4 => r' y w' H4 Q else Q (.bl false) H3)
theorem pt_chain {op op' : CmpOp} {r r' : R2} (ho : OpR X (compareOp op) r) (ho' : OpR X (compareOp op') r') (ha : PE X a ta) (hb : PE X b tb) (hc : PE X c tc)
    (hm : lastMarks [op, op'] [b, c] = false := by with_unfolding_all rfl) : PT X (.Compare a [op, op'] [b, c] pos) (tTest (tChain r r' ta tb tc)) := by
  intro pins s σ H Q I h
  refine isTrue_chain (thn (ha pins s σ H _ I h) fun v s1 ⟨x, H1, I1, r1, q1⟩ => test_link (thn (hb pins s1 σ H1 _ I1 q1) fun u s2 ⟨y, H2, I2, r2, q2⟩ =>
    thn (ho pins s2 σ H2 x y v u _ I2 r1 r2 q2) fun d s3 ⟨z, H3, I3, r3, k, e, q3⟩ => ?_)) hm
  subst e
  cases r3
  refine wpAny_truthy_bool ?_
  cases k with
  | false =>
    obtain ⟨k', e', q'⟩ := q3
    cases e'
    exact ite_ff ⟨H3, I3, q'⟩
  | true =>
    refine ite_tt (test_last (thn (hc pins s3 σ H3 _ I3 q3) fun w' s4 ⟨z', H4, I4, r4, q4⟩ => thn (ho' pins s4 σ H4 y z' u w' _ I4 r2 r4 q4) fun d' s5 ⟨z2, H5, I5, r5, k2, e2, q5⟩ => ?_))
    subst e2
    cases r5
    exact wpAny_truthy_bool ⟨H5, I5, q5⟩
theorem line63 : (sizeLine : Nat) < 2 ^ 63 := by rw [sizeLine_eq]; decide
theorem op_add_str : OpR X (binaryOp .Add) (fun x y H Q => ∃ i j, x = .str i ∧ y = .str j ∧ i.length + j.length ≤ sizeLine ∧ Q (.str (i ++ j)) H) := by
  intro pins s σ H x y v u Q I rx ry h
  obtain ⟨i, j, rfl, rfl, hz, q⟩ := h
  obtain ⟨t, rfl⟩ := rx
  obtain ⟨t', rfl⟩ := ry
  exact add_str (fun t' tk => ⟨.str (i ++ j), H, I.tok _, ⟨_, rfl⟩, q⟩) hz
theorem vals1 {x : V} {us : List Value} (r : Vals [x] us) : ∃ u, us = [u] ∧ RelV x u := by
  cases r with
  | cons r1 r2 => cases r2; exact ⟨_, rfl, r1⟩
theorem vals2 {x y : V} {us : List Value} (r : Vals [x, y] us) : ∃ u w', us = [u, w'] ∧ RelV x u ∧ RelV y w' := by
  cases r with
  | cons r1 r2 =>
    cases r2 with
    | cons r3 r4 => cases r4; exact ⟨_, _, rfl, r1, r3⟩
theorem call_abs : CallR X (.builtin "abs") (fun xs H Q => ∃ i, xs = [.int i] ∧ Q (.int (if i < 0 then -i else i)) H) := by
  intro pins s σ H xs us Q I r h
  obtain ⟨i, rfl, q⟩ := h
  obtain ⟨u, rfl, t, rfl⟩ := vals1 r
  exact call_abs_int fun u tk => ⟨.int (if i < 0 then -i else i), H, I.tok _, ⟨_, rfl⟩, q⟩
theorem call_str_int : CallR X (.type "str") (fun xs H Q => ∃ i, xs = [.int i] ∧ i.natAbs.log2 < 1920 ∧ Q (.str (toString i)) H) := by
  intro pins s σ H xs us Q I r h
  obtain ⟨i, rfl, hz, q⟩ := h
  obtain ⟨u, rfl, t, rfl⟩ := vals1 r
  exact PySem.P.str_of_int hz ⟨.str _, H, I.tok _, ⟨_, rfl⟩, q⟩
theorem call_divmod : CallR X (.builtin "divmod") (fun xs H Q => ∃ i j, xs = [.int i, .int j] ∧ CDiv i j ∧ ∀ p, H p = none → Q (.ref p) (upd H p (.tup [.int (i / j), .int (i % j)]))) := by
  intro pins s σ H xs us Q I r h
  obtain ⟨i, j, rfl, ⟨h1, h2⟩, q⟩ := h
  obtain ⟨u, w', rfl, ⟨t, rfl⟩, ⟨t', rfl⟩⟩ := vals2 r
  refine divmod_int (by omega) ?_ (.inl (PyProof.noPylong_small (by omega)))
  rw [Int.fdiv_eq_ediv_of_nonneg i (by omega), Int.fmod_eq_emod_of_nonneg i (by omega)]
  have hn : H s.heap.objs.size = none := I.hok.fresh (Nat.le_refl _)
  refine ⟨.ref s.heap.objs.size, _, ?_, rfl, q _ hn⟩
  refine I.laid (fun b o e => Heap.get?_push_of_some _ e) (Nat.le_refl _) ⟨by simp only [List.length_cons, List.length_nil]; rw [sizeLine_eq]; decide, [.int (i / j) s.toks, .int (i % j) (s.toks + 1)], .cons ⟨_, rfl⟩ (.cons ⟨_, rfl⟩ .nil), ?_⟩
  exact ⟨_, Heap.get?_push_size s.heap rfl, rfl, 0, rfl⟩
end
end L2
namespace L2
open PySem PySem.Spec PyProof.Rows
structure ObjM (h : Heap) (x dx C : Addr) (mA : Str → Option Value) : Prop where
  obj : h.get? x = some (PySem.W.instObj C dx)
  ns : h.Ns1 dx mA
  ne : dx ≠ x
theorem lookIn_ns {h : Heap} {dx : Addr} {mA : Str → Option Value} (n : h.Ns1 dx mA) : ∃ od, h.get? dx = some od ∧ ∀ name, PySem.W.lookIn name od = some (mA name) := by
  obtain ⟨o, es, ep, ho, hd, hk, _, hm⟩ := n
  refine ⟨o, ho, fun name => ?_⟩
  have e := hm name
  unfold nsFind findBy at e
  rw [← Array.find?_toList] at e
  unfold PySem.W.lookIn
  rw [hd]
  dsimp only
  split
  · rename_i y q
    rw [q] at e
    exact congrArg some e
  · rename_i q
    rw [q] at e
    have a : es.toList.any (·.refKey) = false := by
      rw [List.any_eq_false]
      intro y hy
      obtain ⟨z, t, hkey⟩ := hk y (Array.mem_toList_iff.mp hy)
      simp [DictEntry.refKey, hkey]
    have a' : ¬ es.toList.any (·.refKey) = true := by rw [a]; exact Bool.false_ne_true
    rw [if_neg a']
    exact congrArg some e
theorem ObjM.look {h : Heap} {x dx C : Addr} {mA : Str → Option Value} (I : ObjM h x dx C mA) : ∃ od, PySem.W.InstAt h x (PySem.W.instObj C dx) C (some od) ∧ ∀ name, PySem.W.lookIn name od = some (mA name) :=
  let ⟨od, ho, hl⟩ := lookIn_ns I.ns
  ⟨od, ⟨I.obj, rfl, rfl, ho⟩, hl⟩
section
variable {prog : Program} {w : World} {A : Around} {E : Value → Shared → Prop} {s : Shared} {K : PySem.W.Frag} {x dx C f : Addr} {mA : Str → Option Value} {name : Str} {v : Value}
end
section
variable {P : Program} {w : World} {H H' : Hp} {h h' : Heap} {a C dx : Addr} {fs fs' : List (Str × V)}
theorem ins_get (hok : HOk P w H h) (e : H a = some (.ins C dx fs)) : ∃ mA, ObjM h a dx C mA ∧ (∀ f, RelO (fs.lookup f) (mA f)) ∧ PySem.Within mA (fs.map (·.1)) ∧ fs.length ≤ 1000 ∧ H dx = some (.own a) := by
  obtain ⟨d, z, ne, ob, mA, n, r, q⟩ := (show ObjOk P w H h a (.ins C dx fs) from hok a _ e)
  exact ⟨mA, ⟨ob, n, ne⟩, r, q, z, d⟩
end
structure Cls (K : PySem.W.Frag) (C : Addr) : Prop where
  pg : PySem.W.plainGet K C Str.empty = true
  hd : PySem.W.hasDictIn K C = true
  po : PySem.W.plainOver K C = true
  sa : PySem.W.findIn K (.ref C) "__setattr__" = some (some (.builtin "object.__setattr__"))
theorem Cls.get {K : PySem.W.Frag} {C : Addr} (c : Cls K C) (f : Str) : PySem.W.plainGet K C f = true := c.pg
section
variable {X : Cx} {pins : List (Addr × Obj)} {σ : St} {H : Hp} {s : Shared} {a C dx : Addr} {fs : List (Str × V)} {f : Str} {v : V} {A : Around} {E : Value → Shared → Prop}
theorem attr_of {prog : Program} {w : World} {env : Env} {e : Expr} {f : Str} {pos : Pos} {s : Shared} {Q : Value → Shared → Prop} (hb : attributeBase e f env (eval e env) = eval e env)
    (h : wpAny (model prog w) A (eval e env) (fun o s₁ => wpAny (model prog w) A (getAttr o f true) Q E s₁) E s) : wpAny (model prog w) A (eval (.Attribute e f pos) env) Q E s :=
  Attribute_any_ h (by rw [arm_eval_Attribute, hb])
end
section
variable {X : Cx} {pins : List (Addr × Obj)} {σ : St} {H : Hp} {s : Shared} {A : Around} {E : Value → Shared → Prop} {Q : Value → Shared → Prop} {c : Value} {b : Bool}
inductive TyOf (K : PySem.W.Frag) (H : Hp) : V → Value → Prop where
  | non : TyOf K H .non (.type "NoneType")
  | bl (x : Bool) : TyOf K H (.bl x) (.type "bool")
  | int (i : Int) : TyOf K H (.int i) (.type "int")
  | str (x : Str) : TyOf K H (.str x) (.type "str")
  | flt (x : UInt64) : TyOf K H (.flt x) (.type "float")
  | lst {a : Addr} {xs : List V} (e : H a = some (.lst xs)) : TyOf K H (.ref a) (.type "list")
  | frz {a : Addr} {o : Obj} {xs : List V} (e : H a = some (.frz o (.lst xs))) : TyOf K H (.ref a) (.type "list")
  | tup {a : Addr} {xs : List V} (e : H a = some (.tup xs)) : TyOf K H (.ref a) (.type "tuple")
  | dK {a : Addr} {kvs : List (Key × V)} (e : H a = some (.dK kvs)) : TyOf K H (.ref a) (.type "dict")
  | dT {a : Addr} {kvs : List (List Key × V)} (e : H a = some (.dT kvs)) : TyOf K H (.ref a) (.type "dict")
  | ins {a C dx : Addr} {fs : List (Str × V)} (e : H a = some (.ins C dx fs)) (cl : Cls K C) (ha : PySem.W.findIn K (.ref C) "__class__" = some (some (.builtin "object.__class__")))
      (hn : PySem.W.specialIn K (.builtin "object.__class__") "__get__" = some (some (.builtin "getset_descriptor.__get__"))) (htk : PySem.W.takesIn K (.builtin "object.__class__") = some true)
      (hm : PySem.W.mroIn K C (.type "object") = some true) : TyOf K H (.ref a) (.ref C)
theorem isinst_ok {x : V} {u t : Value} (I : Inv X pins σ H s) (rx : RelV x u) (ty : TyOf X.K H x t) (e : PySem.W.kitOne X.K t c = some b) (h : ∀ tk, Q (.bool b) { s with toks := tk }) :
    wpAny (model X.prog X.w) A (call (.builtin "isinstance") [u, c]) Q E s := by
  cases ty with
  | non => cases (show u = Value.none from rx); exact PySem.W.kia_one PySem.W.kitx_none I.kIn True.intro e (fun z => nomatch z) h
  | bl y => cases (show u = Value.bool y from rx); exact PySem.W.kia_one PySem.W.kitx_bool I.kIn True.intro e (fun z => nomatch z) h
  | int i => obtain ⟨t, q⟩ := (show ∃ t, u = Value.int i t from rx); cases q; exact PySem.W.kia_one PySem.W.kitx_int I.kIn True.intro e (fun z => nomatch z) h
  | str y => obtain ⟨t, q⟩ := (show ∃ t, u = Value.str y t from rx); cases q; exact PySem.W.kia_one PySem.W.kitx_str I.kIn True.intro e (fun z => nomatch z) h
  | flt y => obtain ⟨t, q⟩ := (show ∃ t, u = Value.float y t from rx); cases q; exact PySem.W.kia_one PySem.W.kitx_float I.kIn True.intro e (fun z => nomatch z) h
  | @lst a xs ea =>
    cases (show u = Value.ref a from rx)
    obtain ⟨_, _, n, _, h1⟩ := (show ObjOk X.prog X.w H s.heap a (.lst xs) from I.hok a _ ea)
    exact PySem.W.kia_one PySem.W.kitx_list I.kIn ⟨_, h1, rfl⟩ e (fun z => nomatch z) h
  | @frz a ob xs ea =>
    cases (show u = Value.ref a from rx)
    obtain ⟨_, _, _, n, _, h1⟩ := (show ObjOk X.prog X.w H s.heap a (.frz ob (.lst xs)) from I.hok a _ ea)
    exact PySem.W.kia_one PySem.W.kitx_list I.kIn ⟨_, h1, rfl⟩ e (fun z => nomatch z) h
  | @tup a xs ea =>
    cases (show u = Value.ref a from rx)
    obtain ⟨_, _, _, p⟩ := (show ObjOk X.prog X.w H s.heap a (.tup xs) from I.hok a _ ea)
    obtain ⟨o, h1, h2, _⟩ := p
    exact PySem.W.kia_one PySem.W.kitx_tuple I.kIn ⟨o, h1, h2⟩ e (fun z => nomatch z) h
  | @dK a kvs ea =>
    cases (show u = Value.ref a from rx)
    obtain ⟨_, _, vs, _, p⟩ := (show ObjOk X.prog X.w H s.heap a (.dK kvs) from I.hok a _ ea)
    obtain ⟨o, es, ep, h1, h2, _⟩ := p
    exact PySem.W.kia_one PySem.W.kitx_dict I.kIn ⟨o, h1, h2.1⟩ e (fun z => nomatch z) h
  | @dT a kvs ea =>
    cases (show u = Value.ref a from rx)
    obtain ⟨_, _, xs, _, o, es, ep, h1, h2, _⟩ := (show ObjOk X.prog X.w H s.heap a (.dT kvs) from I.hok a _ ea)
    exact PySem.W.kia_one PySem.W.kitx_dict I.kIn ⟨o, h1, h2.1⟩ e (fun z => nomatch z) h
  | @ins a C dx fs ea cl ha hn htk hm =>
    cases (show u = Value.ref a from rx)
    obtain ⟨mA, O, _⟩ := ins_get I.hok ea
    obtain ⟨od, J, _⟩ := O.look
    exact PySem.W.kia_one (PySem.W.kitx_own (cl.get _) cl.hd ha hn htk hm) I.kIn J e (fun z => nomatch z) h
end
end L2
namespace L2
open PySem PySem.Spec PyProof.Rows
structure Room (k : Nat) (A : Around) : Prop where
  hd : A.handled = none
  dp : A.depth + 3 * k + 5 < recursionLimit
  un : A.units + 16 * k + 200 < cLine
theorem Room.mono {j k : Nat} {A : Around} (r : Room k A) (h : j ≤ k) : Room j A := ⟨r.hd, by have := r.dp; omega, by have := r.un; omega⟩
theorem Room.deeper {k : Nat} {A : Around} (r : Room (k + 1) A) (env : Env) : Room k (A.deeper env) :=
  ⟨r.hd, by have := r.dp; show A.depth + 1 + 3 * k + 5 < _; omega, by have := r.un; show A.units + 3 + 16 * k + 200 < _; omega⟩
theorem make_depth {A : Around} {C : Addr} {us : List Value} {kw : List (Str × Value)} : (A.under (.builtin "type.__call__" ⟨.ref C :: us, kw⟩)).depth = A.depth + 1 := by
  first | rfl | simp [Around.under, Code.weight, Code.isCreation, Code.isGuard, Code.isCaller, Code.frames, Code.isFrame, guardIds]
theorem make_units {A : Around} {C : Addr} {us : List Value} {kw : List (Str × Value)} : (A.under (.builtin "type.__call__" ⟨.ref C :: us, kw⟩)).units = A.units + 1 := by
  first | rfl | simp [Around.under, Code.cUnits, Code.frames, Code.isFrame]
theorem Room.make {k : Nat} {A : Around} (r : Room (k + 1) A) (C : Addr) (us : List Value) (kw : List (Str × Value)) : Room k (A.under (.builtin "type.__call__" ⟨.ref C :: us, kw⟩)) :=
  ⟨r.hd, by have := r.dp; rw [make_depth]; omega, by have := r.un; rw [make_units]; omega⟩
theorem Room.depth {k : Nat} {A : Around} (r : Room k A) : A.depth < recursionLimit := by have := r.dp; omega
theorem Room.units {k : Nat} {A : Around} (r : Room k A) : A.units + 64 < cLine := by have := r.un; omega
def tNil : TA := fun _ H Q => Q [] H
def tCons (ta : TE) (tr : TA) : TA := fun σ H Q => ta σ H fun x H1 => tr σ H1 fun xs H2 => Q (x :: xs) H2
section
variable {X : Cx} {e : Expr} {es : List Expr} {te : TE} {t : TA} {pos : Pos}
theorem pa_nil : PA X [] tNil := fun _ _ _ _ H Q I h => Calls.spliced_nil ⟨[], H, I, .nil, h⟩
theorem pa_cons (ha : PE X e te) (hr : PA X es t) (hs : starEach (e :: es) X.env = (false, eval e X.env) :: starEach es X.env := by rfl) : PA X (e :: es) (tCons te t) := by
  intro pos pins s σ H Q I h
  rw [hs]
  show wpAny _ _ (spliced ((false, eval e X.env) :: backTo pos (starEach es X.env))) _ _ s
  refine Calls.spliced_cons (thn (ha pins s σ H _ I h) fun u s1 ⟨x, H1, I1, r1, q1⟩ => ?_)
  exact thn (hr pos pins s1 σ H1 _ I1 q1) fun us s2 ⟨xs, H2, I2, r2, q2⟩ => ⟨x :: xs, H2, I2, .cons r1 r2, q2⟩
def tTup (t : TA) : TE := fun σ H Q => t σ H fun xs H1 => xs.length ≤ sizeLine ∧ ∀ p, H1 p = none → Q (.ref p) (upd H1 p (.tup xs))
def tLst (t : TA) : TE := fun σ H Q => t σ H fun xs H1 => xs.length ≤ sizeLine ∧ ∀ p, H1 p = none → Q (.ref p) (upd H1 p (.lst xs))
theorem pe_tup {x1} (h : PA X es t) : PE X (.Tuple es x1 pos) (tTup t) := by
  intro pins s σ H Q I hq
  refine wpAny_Tuple_spliced (thn (h pos pins s σ H _ I hq) fun us s1 ⟨xs, H1, I1, r, z, q⟩ => ⟨by rw [← r.length]; exact z, ?_⟩)
  have hf : H1 s1.heap.objs.size = none := I1.hok.fresh (Nat.le_refl _)
  refine ⟨.ref s1.heap.objs.size, upd H1 s1.heap.objs.size (.tup xs), I1.laid (t' := s1.toks) (fun b u e => Heap.get?_push_of_some _ e) (Nat.le_refl _) ?_, rfl, q _ hf⟩
  exact ⟨z, us, r, ⟨_, Heap.get?_push_size _ rfl, rfl, _, rfl⟩⟩
theorem pe_lst (h : PA X es t) : PE X (.List es pos) (tLst t) := by
  intro pins s σ H Q I hq
  refine wpAny_List_spliced (thn (h pos pins s σ H _ I hq) fun us s1 ⟨xs, H1, I1, r, z, q⟩ => ⟨by rw [← r.length]; exact z, ?_⟩)
  have hf : H1 s1.heap.objs.size = none := I1.hok.fresh (Nat.le_refl _)
  refine ⟨.ref s1.heap.objs.size, upd H1 s1.heap.objs.size (.lst xs), I1.laid (t' := s1.toks) (fun b u e => Heap.get?_push_of_some _ e) (Nat.le_refl _) ?_, rfl, q _ hf⟩
  exact ⟨z, us, 0, r, Heap.get?_push_size _ rfl⟩
end
abbrev Sp := List V → Hp → VK → XK → Prop
abbrev CXT := List Env → Hp → Shared → XK → Value → Shared → Prop
structure Env0 (P : Program) (w : World) (K : PySem.W.Frag) (mg : Str → Option Value) (base : Heap) (A : Around) (outer : List Env) (s : Shared) (H : Hp) : Prop where
  frames : A.frames = some outer
  mod : Mod K mg base
  bs : ∀ b o, base.get? b = some o → s.heap.get? b = some o ∧ H b = none
  bsz : base.objs.size ≤ s.heap.objs.size
  funs : s.heap.FunFrames base outer
  frf : ∀ b ∈ frs outer, H b = none
  hok : HOk P w H s.heap
  bare : AllBare s.gens
def CE (outer : List Env) (P : Program) (w : World) (H : Hp) (s : Shared) (Q : VK) (u : Value) (s' : Shared) : Prop :=
  ∃ v H', s'.os = s.os ∧ AllBare s'.gens ∧ Un (frs outer) [] H H' s.heap s'.heap ∧ HOk P w H' s'.heap ∧ RelV v u ∧ Q v H'
def CR (CX : CXT) (outer : List Env) (P : Program) (w : World) (H : Hp) (s : Shared) (Q : VK) (E : XK) (r : Result) (s' : Shared) : Prop :=
  match r with
  | .ok (.ret u) => CE outer P w H s Q u s'
  | .ok _ => False
  | .error e => CX outer H s E e s'
structure FnOk (P : Program) (w : World) (K : PySem.W.Frag) (mg : Str → Option Value) (base : Heap) (CX : CXT) (k : Nat) (f : Addr) (fd : FuncData) (ps : List Str) (sp : Sp) : Prop where
  len : ∀ vs H Q E, sp vs H Q E → vs.length = ps.length
  run : ∀ (A : Around) (outer : List Env) (s : Shared) (H : Hp) (args : Args) (us : List Value) (vs : List V) (Q : VK) (E : XK), Room k A → Env0 P w K mg base A outer s H → BindsTo s fd args (ps.zip us) → Vals vs us → sp vs H Q E →
    codeAny (model P w) A (.call (.ref f) args) (CR CX outer P w H s Q E) s
theorem Env0.make {P : Program} {w : World} {K : PySem.W.Frag} {mg : Str → Option Value} {base : Heap} {A : Around} {outer : List Env} {s : Shared} {H : Hp} (e : Env0 P w K mg base A outer s H) (C : Addr) (us : List Value) (kw : List (Str × Value)) :
    Env0 P w K mg base (A.under (.builtin "type.__call__" ⟨.ref C :: us, kw⟩)) outer s H := ⟨by first | exact e.frames | (simpa [Around.under, Code.envs, Code.isFrame, pushEnvs] using e.frames), e.mod, e.bs, e.bsz, e.funs, e.frf, e.hok, e.bare⟩
section
variable {X : Cx} {pins : List (Addr × Obj)} {σ : St} {H : Hp} {s s' : Shared}
theorem Inv.env0 (I : Inv X pins σ H s) : Env0 X.prog X.w X.K X.mg X.base X.A X.stack s H :=
  ⟨I.ok.frames, I.ok.mod, I.bs, Nat.le_trans I.ok.bsz I.sz, I.stack, I.stkFree, I.hok, I.bare⟩
theorem Inv.after {Q : VK} {u : Value} (I : Inv X pins σ H s) (h : CE X.stack X.prog X.w H s Q u s') : EP X pins σ Q u s' := by
  obtain ⟨v, H', os, bare, un, hok, r, q⟩ := h
  obtain ⟨hh, g, d, t, os'⟩ := s'
  obtain rfl : os' = s.os := os
  exact ⟨v, H', I.call (h' := hh) (g' := g) (d' := d) (t' := t) (ch := []) un hok bare (fun b z => absurd z (by simp)), r, q⟩
end
def tCall (sp : Sp) (dvs : List V) (E : XK) (t : TA) : TE := fun σ H Q => t σ H fun vs H1 => sp (vs ++ dvs) H1 Q E
def Binds (K : PySem.W.Frag) (fd : FuncData) (ps : List Str) (ds : List Value) : Prop :=
  ∀ (s : Shared) (us : List Value), K.In s.heap → (us ++ ds).length = ps.length → BindsTo s fd ⟨us, []⟩ (ps.zip (us ++ ds))
theorem Binds.all {K : PySem.W.Frag} {fd : FuncData} {ps : List Str} (h : ∀ us : List Value, us.length = ps.length → bindArgs fd ⟨us, []⟩ = pure (ps.zip us)) : Binds K fd ps [] := fun s us _ hl => by
  rw [List.append_nil] at hl ⊢
  exact .of_eq (h us hl)
def Passes (CX : CXT) (X : Cx) (E : XK) : Prop := ∀ (pins : List (Addr × Obj)) (σ : St) (H : Hp) (s : Shared) (e : Value) (s' : Shared), Inv X pins σ H s → CX X.stack H s E e s' → X.xe e s'
section
variable {X : Cx} {CX : CXT} {k : Nat} {f C : Addr} {fd : FuncData} {ps : List Str} {sp : Sp} {dvs : List V} {ds : List Value} {E : XK} {x m : Str} {p pos apos : Pos} {e o : Expr} {es : List Expr} {ta : TE} {t : TA}
theorem run_fn {pins : List (Addr × Obj)} {σ : St} {H : Hp} {s : Shared} {Q : VK} {us : List Value} {vs : List V} (F : FnOk X.prog X.w X.K X.mg X.base CX k f fd ps sp) (hr : Room k X.A) (hb : Binds X.K fd ps ds) (hd : Vals dvs ds) (hx : Passes CX X E)
    (I : Inv X pins σ H s) (r : Vals vs us) (h : sp (vs ++ dvs) H Q E) : wpAny (model X.prog X.w) X.A (call (.ref f) us) (EP X pins σ Q) X.xe s := by
  have r2 : Vals (vs ++ dvs) (us ++ ds) := r.append hd
  have hl : (us ++ ds).length = ps.length := by rw [← r2.length]; exact F.len _ _ _ _ h
  refine wpAny_call (codeAny_mono (F.run X.A X.stack s H ⟨us, []⟩ (us ++ ds) (vs ++ dvs) Q E hr I.env0 (hb s us I.kIn hl) r2 h) fun r s' hq => ?_)
  cases r with
  | error e => exact hx pins σ H s e s' I hq
  | ok fl =>
    cases fl with
    | ret u => exact I.after hq
    | next => exact False.elim hq
    | brk => exact False.elim hq
    | cont => exact False.elim hq
theorem pe_call (F : FnOk X.prog X.w X.K X.mg X.base CX k f fd ps sp) (hr : Room k X.A) (hg : Gl X x) (hm : X.mg x = some (.ref f)) (hk : PySem.W.keepIn X.K (.ref f) = true) (hb : Binds X.K fd ps ds) (hd : Vals dvs ds) (hx : Passes CX X E)
    (ha : PA X (e :: es) t) (hdb : (x == ("__debug__" : Str)) = false := by decide) (he : starEach (e :: es) X.env = (false, eval e X.env) :: starEach es X.env := by rfl) (hpl : (backTo pos (starEach es X.env)).any (·.1) = false := by rfl) :
    PE X (.Call (.Name x p) (e :: es) [] pos) (tCall sp dvs E t) := by
  intro pins s σ H Q I h
  refine wpAny_Call_Name_kw (ld_glob I hg hm ?_ hdb)
  refine PySem.W.callWith_K (h₀ := X.base) I.ok.mod.kin hk (thn (ha pos pins s σ H _ I h) fun us s1 ⟨vs, H1, I1, r, q⟩ => ⟨I1.kIn, ?_⟩) he hpl
  exact run_fn F hr hb hd hx I1 r q
end
structure FnScope (N P : List Str) (sc : Scope) : Prop where
  kind : sc.kind = .function
  co : sc.isCoroutine = false
  gen : sc.isGenerator = false
  nd : N.Nodup
  pre : N.take P.length = P
  par : ∀ x ∈ P, sc.names.lookup x = some .local ∨ sc.names.lookup x = some .cell
  nofree : ∀ y ∈ sc.names, y.2 ≠ .free
theorem bindL_out {kindOf : Str → Option NameKind} {x : Str} : ∀ {binds : List (Str × Value)} {m : Str → Option Value}, (∀ v, (x, v) ∉ binds) → bindL kindOf binds m x = m x
  | [], _, _ => rfl
  | (n, v) :: r, m, h => by
    unfold bindL
    rw [bindL_out fun w hw => h w (List.mem_cons_of_mem _ hw)]
    split
    · have : x ≠ n := by rintro rfl; exact h v List.mem_cons_self
      simp [this]
    · rfl
theorem bindC_out {kindOf : Str → Option NameKind} {x : Str} : ∀ {binds : List (Str × Value)} {m : Str → Option Value}, (∀ v, (x, v) ∉ binds) → bindC kindOf binds m x = m x
  | [], _, _ => rfl
  | (n, v) :: r, m, h => by
    unfold bindC
    rw [bindC_out fun w hw => h w (List.mem_cons_of_mem _ hw)]
    split
    · rfl
    · have : x ≠ n := by rintro rfl; exact h v List.mem_cons_self
      simp [this]
theorem bindL_get {kindOf : Str → Option NameKind} {x : Str} {v : Value} : ∀ {P : List Str} {vs : List Value} {i : Nat} {m : Str → Option Value}, P.Nodup → P[i]? = some x → vs[i]? = some v → kindOf x = some .local →
    bindL kindOf (P.zip vs) m x = some v
  | [], _, _, _, _, h, _, _ => by simp at h
  | _ :: _, [], _, _, _, _, h, _ => by simp at h
  | p :: P, w :: vs, 0, m, nd, h1, h2, hk => by
    simp at h1 h2; subst h1; subst h2
    show bindL kindOf ((p, w) :: P.zip vs) m p = _
    unfold bindL
    rw [bindL_out fun v hv => (List.nodup_cons.mp nd).1 (List.of_mem_zip hv).1, if_pos hk]
    simp
  | p :: P, w :: vs, i + 1, m, nd, h1, h2, hk => by
    show bindL kindOf ((p, w) :: P.zip vs) m x = _
    unfold bindL
    exact bindL_get (i := i) (List.nodup_cons.mp nd).2 (by simpa using h1) (by simpa using h2) hk
theorem bindC_get {kindOf : Str → Option NameKind} {x : Str} {v : Value} : ∀ {P : List Str} {vs : List Value} {i : Nat} {m : Str → Option Value}, P.Nodup → P[i]? = some x → vs[i]? = some v → kindOf x ≠ some .local →
    bindC kindOf (P.zip vs) m x = some v
  | [], _, _, _, _, h, _, _ => by simp at h
  | _ :: _, [], _, _, _, _, h, _ => by simp at h
  | p :: P, w :: vs, 0, m, nd, h1, h2, hk => by
    simp at h1 h2; subst h1; subst h2
    show bindC kindOf ((p, w) :: P.zip vs) m p = _
    unfold bindC
    rw [bindC_out fun v hv => (List.nodup_cons.mp nd).1 (List.of_mem_zip hv).1, if_neg hk]
    simp
  | p :: P, w :: vs, i + 1, m, nd, h1, h2, hk => by
    show bindC kindOf ((p, w) :: P.zip vs) m x = _
    unfold bindC
    exact bindC_get (i := i) (List.nodup_cons.mp nd).2 (by simpa using h1) (by simpa using h2) hk
def start (N : List Str) (vs : List V) : St := vs.map some ++ List.replicate (N.length - vs.length) none
def cxOf (CX : CXT) (P : Program) (w : World) (K : PySem.W.Frag) (mg : Str → Option Value) (base : Heap) (N : List Str) (qual : Str) (scope : Scope) (f : Addr) (cd : Value) (A : Around) (outer : List Env) (s : Shared) (H : Hp) (E : XK) : Cx where
  prog := P
  w := w
  K := K
  mg := mg
  base := base
  A := A.deeper (envOfC qual scope s.heap.objs.size f cd)
  N := N
  s₀ := s
  H₀ := H
  env := envOfC qual scope s.heap.objs.size f cd
  outer := outer
  stack := envOfC qual scope s.heap.objs.size f cd :: outer
  ex := []
  calm := true
  fn := fun _ => true
  pn := []
  xe := fun e s' => wpAny (model P w) (A.deeper (envOfC qual scope s.heap.objs.size f cd)) (leaving (envOfC qual scope s.heap.objs.size f cd) e) (fun _ s'' => CX outer H s E e s'') (fun e' s'' => CX outer H s E e' s'') s'
theorem cell_has {sc : Scope} {n : Nat} {x : Str} (h : sc.names.lookup x = some .cell) : ∃ c, (cellsFrom n sc.names []).lookup x = some c := by
  have q := PySem.W.cellsFrom_some sc.names n [] (.inl h)
  exact Option.isSome_iff_exists.mp q
theorem inv_start {CX : CXT} {P : Program} {w : World} {K : PySem.W.Frag} {mg : Str → Option Value} {base : Heap} {N ps : List Str} {qual : Str} {scope : Scope} {f : Addr} {cd : Value} {A : Around} {outer : List Env} {s s1 : Shared} {H : Hp} {E : XK} {us : List Value} {vs : List V}
    (S : FnScope N ps scope) (hd : A.handled = none) (e0 : Env0 P w K mg base A outer s H) (hl : vs.length = ps.length) (r : Vals vs us)
    (x : InCallC s s.heap.objs.size (bindL (envOfC qual scope s.heap.objs.size f cd).kindOf (ps.zip us) fun _ => none) (cellsFrom (s.heap.objs.size + 1) scope.names []) (bindC (envOfC qual scope s.heap.objs.size f cd).kindOf (ps.zip us) fun _ => none) s1) :
    Inv (cxOf CX P w K mg base N qual scope f cd A outer s H E) [] (start N vs) H s1 := by
  have hpl : ps.length ≤ N.length := by have := congrArg List.length S.pre; rw [List.length_take] at this; omega
  obtain ⟨h1, tk, rfl, hk⟩ := x.done
  have noA : ∀ b : Addr, b ∉ (cxOf CX P w K mg base N qual scope f cd A outer s H E).ex := fun b z => absurd (show b ∈ ([] : List Addr) from z) (by simp)
  refine ⟨⟨e0.mod, S.kind, rfl, rfl, Nat.le_refl _, fun y z c h1 h2 => ?_, fun y hy => ?_, fun y c _ h => ?_, fun _ => hd, Around.frames_deeper e0.frames, .inr ⟨rfl, rfl⟩, fun b z => absurd z (noA b), e0.bs, e0.bsz, fun b _ _ => noA b, fun b z => absurd z (noA b), e0.funs, e0.frf⟩,
    rfl, e0.bare, Un.kept hk, ⟨_, x.toInCall.ns, fun i y v h1 h2 h3 => ?_⟩, fun y c h => ⟨_, x.cell y c h⟩, e0.hok.fresh (Nat.le_refl _), fun y c h => ?_, fun p hp => absurd (show p ∈ ([] : List (Addr × Obj)) from hp) (by simp), e0.hok.kept hk, ?_⟩
  · exact name_of_addr x.apart (PySem.mem_of_lookup h1) (PySem.mem_of_lookup h2)
  · have hy : scope.names.lookup y = some .cell ∨ scope.names.lookup y = some .free := hy
    rcases hy with hy | hy
    · exact cell_has hy
    · exact absurd rfl (S.nofree _ (PySem.mem_of_lookup hy))
  · exact Nat.le_of_lt (x.above y c (PySem.mem_of_lookup h))
  · have hi : i < vs.length := by
      unfold start at h2
      by_cases hi : i < vs.length
      · exact hi
      · rw [List.getElem?_append_right (by simpa using hi)] at h2
        rw [List.getElem?_replicate] at h2
        split at h2 <;> cases h2
    have ha : vs[i]? = some v := by
      unfold start at h2
      rw [List.getElem?_append_left (by simpa using hi), List.getElem?_map] at h2
      cases e : vs[i]? with
      | none => rw [e] at h2; cases h2
      | some a => rw [e] at h2; cases h2; rfl
    obtain ⟨u, hu, rv⟩ := r.get ha
    have hp : ps[i]? = some y := by
      rw [← S.pre, List.getElem?_take_of_lt (by omega)]; exact h1
    have ndP : ps.Nodup := by rw [← S.pre]; exact S.nd.sublist (List.take_sublist _ _)
    refine ⟨u, rv, ?_⟩
    rcases S.par y (List.mem_of_getElem? hp) with k | k
    · exact .inl ⟨k, bindL_get ndP hp hu k⟩
    · obtain ⟨c, e⟩ := cell_has (n := s.heap.objs.size + 1) k
      refine .inr ⟨.inl k, c, e, ?_⟩
      have q := x.cell y c e
      rw [bindC_get ndP hp hu (by show scope.names.lookup y ≠ _; rw [k]; decide)] at q
      exact q
  · exact e0.hok.fresh (Nat.le_of_lt (x.above y c (PySem.mem_of_lookup h)))
  · unfold start
    show _ = N.length
    rw [List.length_append, List.length_map, List.length_replicate]
    omega
theorem fn_of {CX : CXT} {P : Program} {w : World} {K : PySem.W.Frag} {mg : Str → Option Value} {base : Heap} {k : Nat} {f : Addr} {name qual : Str} {params : Arguments} {body : List Stmt} {scope : Scope} {dV kV doc pm cdv ct oc : Value} {an od : Option Addr}
    {osl : Array (Option Value)} {N ps : List Str} {sp : Sp} (lk : K.lookup f = some ⟨oc, od, .func (PySem.W.fnOf name qual params body scope dV kV doc pm an cdv ct), osl⟩) (hcd : PySem.W.codeIn K cdv qual = true) (S : FnScope N ps scope)
    (len : ∀ vs H Q E, sp vs H Q E → vs.length = ps.length)
    (hbody : ∀ (A : Around) (outer : List Env) (s : Shared) (H : Hp) (vs : List V) (Q : VK) (E : XK), Room k (A.deeper (envOfC qual scope s.heap.objs.size f cdv)) → sp vs H Q E →
      ∃ t, PSs (cxOf CX P w K mg base N qual scope f cdv A outer s H E) body t ∧ t { nx := fun _ H' => Q .non H', rt := Q } (start N vs) H) :
    FnOk P w K mg base CX (k + 1) f (PySem.W.fnOf name qual params body scope dV kV doc pm an cdv ct) ps sp := by
  refine ⟨len, fun A outer s H args us vs Q E hr e0 hb r hsp => ?_⟩
  have hl := len _ _ _ _ hsp
  have KX : K.In s.heap := e0.mod.kin.keeps fun b o e => (e0.bs b o e).1
  have lim : s.heap.NoLimit := e0.mod.nolimit.keeps fun b o e => (e0.bs b o e).1
  have hkind : ∀ y ∈ ps.zip us, scope.names.lookup y.1 = some .local ∨ (scope.names.lookup y.1 = some .cell ∧ ((cellsFrom (s.heap.objs.size + 1) scope.names []).lookup y.1).isSome = true) := fun ⟨n, v⟩ hy => by
    rcases S.par n (List.of_mem_zip hy).1 with q | q
    · exact .inl q
    · exact .inr ⟨q, PySem.W.cellsFrom_some _ _ _ (.inl q)⟩
  refine codeAny_call_function hr.depth (KX _ _ lk) rfl S.co S.gen rfl (PySem.W.codeRec_of KX hcd) (hb _ _ _ _ ?_)
  refine wpAny_newFunctionEnv_cells S.kind hkind fun env he s1 x => ?_
  subst he
  refine ⟨lim.keeps x.toInCall.keep, codeAny_func ?_⟩
  obtain ⟨t, ht, hq⟩ := hbody A outer s H vs Q E (hr.deeper _) hsp
  have I : Inv (cxOf CX P w K mg base N qual scope f cdv A outer s H E) [] (start N vs) H s1 := inv_start S hr.hd e0 hl r x
  refine wpAny_mono (ht [] s1 (start N vs) H _ I hq) (fun fl s' hs => ?_) fun e s' hs => hs
  have fin : ∀ {σ' : St} {H' : Hp} {v : V} {u : Value}, Inv (cxOf CX P w K mg base N qual scope f cdv A outer s H E) [] σ' H' s' → RelV v u → Q v H' → CE outer P w H s Q u s' :=
    fun {σ' H' v u} J rv q => ⟨v, H', J.os, J.bare, J.base, J.hok, rv, q⟩
  cases fl with
  | ret u =>
    obtain ⟨v, σ', H', J, rv, q⟩ := hs
    exact fin J rv q
  | next =>
    obtain ⟨σ', H', J, q⟩ := hs
    exact fin (v := V.non) (u := Value.none) J rfl q
  | brk =>
    obtain ⟨_, _, _, q⟩ := hs
    exact False.elim q
  | cont =>
    obtain ⟨_, _, _, q⟩ := hs
    exact False.elim q
end L2
namespace L2
open PySem PySem.Spec PyProof.Rows
section
variable {X : Cx} {x : Str} {p pos : Pos} {e : Expr} {es : List Expr} {t : TA} {id T : String} {r : List V → Hp → VK → Prop}
def tCB (r : List V → Hp → VK → Prop) (t : TA) : TE := fun σ H Q => t σ H fun vs H1 => r vs H1 Q
theorem pe_callB (hc : CallR X (.builtin id) r) (hg : Gl X x) (hm : X.mg x = none) (hv : bootBuiltins x = some (.builtin id)) (ha : PA X (e :: es) t) (hn : x ≠ "__name__" := by decide) (hdb : (x == ("__debug__" : Str)) = false := by decide)
    (he : starEach (e :: es) X.env = (false, eval e X.env) :: starEach es X.env := by rfl) (hpl : (backTo pos (starEach es X.env)).any (·.1) = false := by rfl) : PE X (.Call (.Name x p) (e :: es) [] pos) (tCB r t) := by
  intro pins s σ H Q I h
  refine wpAny_Call_Name_kw (ld_blt I hg hm hv ?_ hn hdb)
  exact PyProof.Rows.callWith_builtin1 (thn (ha pos pins s σ H _ I h) fun us s1 ⟨vs, H1, I1, r1, q1⟩ => hc pins s1 σ H1 vs us Q I1 r1 q1) he hpl
theorem pe_callTy (hc : CallR X (.type T) r) (hg : Gl X x) (hm : X.mg x = none) (hv : bootBuiltins x = some (.type T)) (ha : PA X (e :: es) t) (hn : x ≠ "__name__" := by decide) (hdb : (x == ("__debug__" : Str)) = false := by decide)
    (he : starEach (e :: es) X.env = (false, eval e X.env) :: starEach es X.env := by rfl) (hpl : (backTo pos (starEach es X.env)).any (·.1) = false := by rfl) : PE X (.Call (.Name x p) (e :: es) [] pos) (tCB r t) := by
  intro pins s σ H Q I h
  refine wpAny_Call_Name_kw (ld_blt I hg hm hv ?_ hn hdb)
  exact PyProof.Rows.callWith_type1 (thn (ha pos pins s σ H _ I h) fun us s1 ⟨vs, H1, I1, r1, q1⟩ => hc pins s1 σ H1 vs us Q I1 r1 q1) he hpl
end
end L2
namespace HT
open PySem PyProof.Rows
section
open PySem.SeqAt
open PySem.AutoSeq1 (wpAny_loadPart')
open PySem.MeetsSeq PySem.MeetsSeq2 PySem.MeetsSeq3
end
section
variable {prog : Program} {w : World} {A : Around} {E : Value → Shared → Prop} {s : Shared}
end
end HT
namespace L2
open PySem PySem.Spec PyProof.Rows
abbrev TO := St → Hp → (Option Int → Hp → Prop) → Prop
def PO (X : Cx) (e : Option Expr) (t : TO) : Prop :=
  ∀ (pins : List (Addr × Obj)) (s : Shared) (σ : St) (H : Hp) (Q : Option Int → Hp → Prop), Inv X pins σ H s → t σ H Q →
    wpAny (model X.prog X.w) X.A (evalPart e X.env) (fun u s' => ∃ o H', Inv X pins σ H' s' ∧ IsPart u o ∧ Q o H') X.xe s
def tNoPart : TO := fun _ H Q => Q none H
def tPart (t : TE) : TO := fun σ H Q => t σ H fun x H1 => ∃ i, x = .int i ∧ Q (some i) H1
section
variable {X : Cx} {e : Expr} {te : TE} {lo hi : Option Expr} {tl th : TO} {pos p2 : Pos}
theorem po_none : PO X none tNoPart := by
  intro pins s σ H Q I h
  rw [evalPart_none]
  exact wpAny_pure ⟨none, H, I, .none, h⟩
theorem po_some (h : PE X e te) : PO X (some e) (tPart te) := by
  intro pins s σ H Q I hw
  rw [evalPart_some]
  refine thn (h pins s σ H _ I hw) fun u s1 ⟨x, H1, I1, r1, q1⟩ => ?_
  obtain ⟨i, rfl, q⟩ := q1
  obtain ⟨t, rfl⟩ := r1
  exact ⟨some i, H1, I1, .int i t, q⟩
def SlR (X : Cx) (r : V → Option Int → Option Int → Hp → VK → Prop) : Prop :=
  ∀ (pins : List (Addr × Obj)) (s : Shared) (σ : St) (H : Hp) (x : V) (v vl vu : Value) (lo hi : Option Int) (sl : Addr) (Q : VK), Inv X pins σ H s → RelV x v → s.heap.IsSliceOf sl vl vu .none → IsPart vl lo → IsPart vu hi → r x lo hi H Q →
    ∃ T id, typeLookup (.type T) "__getitem__" = pure (some (.builtin id)) ∧ s.TypeIs v T ∧ wpAny (model X.prog X.w) X.A (getItem v (.ref sl)) (EP X pins σ Q) X.xe s
def tSl (r : V → Option Int → Option Int → Hp → VK → Prop) (te : TE) (tl th : TO) : TE := fun σ H Q => te σ H fun x H1 => tl σ H1 fun l H2 => th σ H2 fun u H3 => r x l u H3 Q
theorem pe_slice {r : V → Option Int → Option Int → Hp → VK → Prop} (hr : SlR X r) (he : PE X e te) (hl : PO X lo tl) (hu : PO X hi th) : PE X (.Subscript e (.Slice lo hi none p2) pos) (tSl r te tl th) := by
  intro pins s σ H Q I h
  refine Subscript_ (thn (he pins s σ H _ I h) fun v s1 ⟨x, H1, I1, r1, q1⟩ => ?_)
  refine wpAny_Slice (thn (hl pins s1 σ H1 _ I1 q1) fun vl s2 ⟨l, H2, I2, pl, q2⟩ => thn (hu pins s2 σ H2 _ I2 q2) fun vu s3 ⟨u, H3, I3, pu, q3⟩ => ?_)
  rw [evalPart_none]
  refine wpAny_pure ?_
  have I4 : Inv X pins σ H3 { s3 with heap := s3.heap.push { cls := .type "slice", data := .fields #[vl, vu, .none] } } := I3.kept (t' := s3.toks) fun b ob q => Heap.get?_push_of_some _ q
  obtain ⟨T, id, hT, ht, hg⟩ := hr pins { s3 with heap := s3.heap.push { cls := .type "slice", data := .fields #[vl, vu, .none] } } σ H3 x v vl vu l u s3.heap.objs.size Q I4 r1 (Heap.IsSliceOf.new ..) pl pu q3
  show wpAny (model X.prog X.w) X.A (subscriptTail e (.Slice lo hi none p2) v (.ref s3.heap.objs.size)) (EP X pins σ Q) X.xe { s3 with heap := s3.heap.push { cls := .type "slice", data := .fields #[vl, vu, .none] } }
  exact tail_any (ops := [.ref s3.heap.objs.size, v]) ht hT hg (by with_unfolding_all rfl)
end
end L2
namespace L2
open PySem PySem.Spec PyProof.Rows
def ixN (n : Nat) (i : Int) : Option Nat := if 0 ≤ i then (if i < n then some i.toNat else none) else if -(n : Int) ≤ i then some (i + n).toNat else none
def atI {α : Type} (xs : List α) (i : Int) : Option α := (ixN xs.length i).bind fun j => xs[j]?
theorem ixN_seq {n : Nat} {i : Int} {j : Nat} (h : ixN n i = some j) : seqIndex? i n = some j ∧ j < n ∧ -(n : Int) ≤ i ∧ i < n := by
  unfold ixN at h
  by_cases h0 : 0 ≤ i
  · rw [if_pos h0] at h
    by_cases h1 : i < n
    · rw [if_pos h1] at h
      have e : i.toNat = j := Option.some.inj h
      exact ⟨by rw [seqIndex_of h0 h1, e], by omega, by omega, h1⟩
    · rw [if_neg h1] at h; cases h
  · rw [if_neg h0] at h
    by_cases h1 : -(n : Int) ≤ i
    · rw [if_pos h1] at h
      have e : (i + n).toNat = j := Option.some.inj h
      exact ⟨by rw [seqIndex_neg (by omega) h1, e], by omega, h1, by omega⟩
    · rw [if_neg h1] at h; cases h
theorem atI_get {α : Type} {xs : List α} {i : Int} {v : α} (h : atI xs i = some v) : ∃ j, seqIndex? i xs.length = some j ∧ xs[j]? = some v ∧ j < xs.length ∧ -(xs.length : Int) ≤ i ∧ i < xs.length := by
  unfold atI at h
  cases e : ixN xs.length i with
  | none => rw [e] at h; cases h
  | some j =>
    rw [e] at h
    obtain ⟨h1, h2, h3, h4⟩ := ixN_seq e
    exact ⟨j, h1, h, h2, h3, h4⟩
def PlainIx (b : Expr) : Prop := ∀ o i, subscripted b false o i = operate [o, i] (getItem o i)
def IxR (X : Cx) (r : R2) : Prop :=
  ∀ (value slice : Expr) (pins : List (Addr × Obj)) (s : Shared) (σ : St) (H : Hp) (x y : V) (v u : Value) (Q : VK), Inv X pins σ H s → RelV x v → RelV y u → r x y H Q →
    subscripted slice false v u = operate [v, u] (getItem v u) → wpAny (model X.prog X.w) X.A (subscriptTail value slice v u) (EP X pins σ Q) X.xe s
def MtR (X : Cx) (id : String) (r : V → List V → Hp → VK → Prop) : Prop :=
  ∀ (pins : List (Addr × Obj)) (s : Shared) (σ : St) (H : Hp) (x : V) (xs : List V) (v : Value) (us : List Value) (Q : VK), Inv X pins σ H s → RelV x v → Vals xs us → r x xs H Q →
    wpAny (model X.prog X.w) X.A (call (.builtin id) (v :: us)) (EP X pins σ Q) X.xe s
section
variable {X : Cx} {a b : Expr} {ta tb : TE} {pos : Pos}
theorem pe_ix {r : R2} (hr : IxR X r) (ha : PE X a ta) (hb : PE X b tb) (hs : PlainIx b) : PE X (.Subscript a b pos) (tOp r ta tb) := by
  intro pins s σ H Q I h
  exact Subscript_ (binT ha hb I h fun v u s2 x y H2 I2 rx ry q => hr a b pins s2 σ H2 x y v u Q I2 rx ry q (hs _ _))
def rIxL (K : PySem.W.Frag) : R2 := fun x y H Q => ∃ p xs i v, x = .ref p ∧ y = .int i ∧ SqL K H p xs ∧ atI xs i = some v ∧ Q v H
def rIxS : R2 := fun x y H Q => ∃ z i c, x = .str z ∧ y = .int i ∧ z.length ≤ sizeLine ∧ atI z.cps.toList i = some c ∧ Q (.str ⟨#[c]⟩) H
theorem ix_list : IxR X (rIxL X.K) := by
  intro value slice pins s σ H x y v u Q I rx ry h hs
  obtain ⟨p, xs, i, z, rfl, rfl, hq, he, q⟩ := h
  cases rx
  obtain ⟨t, rfl⟩ := ry
  obtain ⟨its, r, pl, hz⟩ := I.list hq
  obtain ⟨j, h1, h2, h3, h4, h5⟩ := atI_get he
  obtain ⟨w, ew, rw'⟩ := r.get h2
  have hl := r.length
  have hn := line63
  have fin : EP X pins σ Q w s := ⟨z, H, I, rw', q⟩
  by_cases h0 : 0 ≤ i
  · have hj : i.toNat = j := by
      rw [seqIndex_of h0 h5] at h1
      exact Option.some.inj h1
    exact item_listR pl.isList h0 (by omega) (by rw [hj]; simpa using ew) fin hs
  · have hj : (i + (its.toArray.size : Int)).toNat = j := by
      rw [seqIndex_neg (by omega) h4] at h1
      rw [List.size_toArray, ← hl]
      exact Option.some.inj h1
    exact subscriptTail_builtinR (x := w) pl.isList.typeIs slot_list_getitem.lookup
      (wpAny_getItem_list_neg (Q := fun r s' => r = w ∧ EP X pins σ Q r s') pl.isList (by omega) (by rw [List.size_toArray] <;> omega) (by omega) (by rw [hj]; simpa using ew) ⟨rfl, fin⟩) hs
theorem ix_str : IxR X rIxS := by
  intro value slice pins s σ H x y v u Q I rx ry h hs
  obtain ⟨z, i, c, rfl, rfl, hz, he, q⟩ := h
  obtain ⟨t, rfl⟩ := rx
  obtain ⟨t', rfl⟩ := ry
  obtain ⟨j, h1, h2, h3, h4, h5⟩ := atI_get he
  have hl : z.cps.toList.length = z.length := by simp [Str.length]
  rw [hl] at h1 h4 h5
  have hn := line63
  exact tail_any (typeIs_str s z t) slot_str_getitem.lookup (getItem_str (c := c) (by
    have e1 : decide (i < -(2 ^ 63 : Int)) = false := decide_eq_false (by omega)
    have e2 : decide (i ≥ 2 ^ 63) = false := decide_eq_false (by omega)
    rw [e1, e2, Bool.or_false]) (by rw [h1]; simpa using h2) ⟨.str ⟨#[c]⟩, H, I.tok _, ⟨_, rfl⟩, q⟩) hs
def flatV : V → Bool
  | .non => true
  | .bl _ => true
  | .int _ => true
  | .str _ => true
  | _ => false
def eqV : V → V → Bool
  | .non, .non => true
  | .bl a, .bl b => a == b
  | .bl a, .int b => (if a then 1 else 0) == b
  | .int a, .bl b => a == (if b then 1 else 0)
  | .int a, .int b => a == b
  | .str a, .str b => a == b
  | _, _ => false
theorem call_len_seq : CallR X (.builtin "len") (fun xs H Q => ∃ p ys, xs = [.ref p] ∧ (SqL X.K H p ys ∨ SqT X.K H p ys) ∧ Q (.int ys.length) H) := by
  intro pins s σ H xs us Q I r h
  obtain ⟨p, ys, rfl, hq, q⟩ := h
  obtain ⟨u, rfl, rx⟩ := vals1 r
  cases rx
  have hn := line63
  rcases hq with hq | hq
  · obtain ⟨its, r', pl, hz⟩ := I.list hq
    have hlen := r'.length
    exact Calls.call_len_list pl.isList (by simp only [List.size_toArray] <;> omega) ⟨.int ys.length, H, I.tok _, ⟨s.toks + 1, by rw [List.size_toArray, hlen]⟩, q⟩
  · obtain ⟨its, r', pl, hz⟩ := I.tuple hq
    have hlen := r'.length
    exact len_tuple pl (by simp only [List.size_toArray] <;> omega) ⟨.int ys.length, H, I.tok _, ⟨s.toks + 1, by rw [List.size_toArray, hlen]⟩, q⟩
theorem call_len_str : CallR X (.builtin "len") (fun xs H Q => ∃ z, xs = [.str z] ∧ z.length ≤ sizeLine ∧ Q (.int z.length) H) := by
  intro pins s σ H xs us Q I r h
  obtain ⟨z, rfl, hz, q⟩ := h
  obtain ⟨u, rfl, t, rfl⟩ := vals1 r
  have hn := line63
  exact len_str (by omega) ⟨.int z.length, H, I.tok _, ⟨_, rfl⟩, q⟩
def tyV (K : PySem.W.Frag) (T : String) (x : V) (H : Hp) : Prop := match x with
  | .str _ => T = "str"
  | .int _ => T = "int"
  | .ref p => (T = "list" ∧ ∃ xs, SqL K H p xs) ∨ (T = "tuple" ∧ ∃ o, K.lookup p = some o ∧ o.cls = .type "tuple" ∧ o.dict = none) ∨
      (T = "dict" ∧ ((∃ kvs, H p = some (.dK kvs)) ∨ ∃ kvs, H p = some (.dT kvs))) ∨ (T = "set" ∧ ∃ S n, H p = some (.set S n))
  | _ => False
theorem tyV_is {pins : List (Addr × Obj)} {σ : St} {H : Hp} {s : Shared} {T : String} {x : V} {v : Value} (I : Inv X pins σ H s) (r : RelV x v) (ty : tyV X.K T x H) :
    s.TypeIs v T ∧ ∀ a, v = .ref a → ∃ ob, s.heap.get? a = some ob ∧ ob.dict = none := by
  cases x with
  | str z =>
    obtain ⟨t, rfl⟩ := r
    cases (show T = "str" from ty)
    exact ⟨typeIs_str s z t, fun _ e => nomatch e⟩
  | int i =>
    obtain ⟨t, rfl⟩ := r
    cases (show T = "int" from ty)
    exact ⟨typeIs_int s i t, fun _ e => nomatch e⟩
  | ref p =>
    cases r
    rcases ty with ⟨rfl, xs, hq⟩ | ⟨rfl, o, hk, hc, hd⟩ | ⟨rfl, hk⟩ | ⟨rfl, S, n, hk⟩
    · obtain ⟨its, _, pl, _⟩ := I.list hq
      refine ⟨pl.isList.typeIs, fun a e => ?_⟩
      cases e
      obtain ⟨o, n, e, c, hd, _⟩ := pl
      exact ⟨o, e, hd⟩
    · refine ⟨⟨o, I.kIn p o hk, hc⟩, fun a e => ?_⟩
      cases e
      exact ⟨o, I.kIn _ o hk, hd⟩
    · have z : ∃ o, s.heap.get? p = some o ∧ o.ExactDict := by
        rcases hk with ⟨kvs, hk⟩ | ⟨kvs, hk⟩
        · obtain ⟨_, _, _, _, o, _, _, e, ex, _⟩ := I.hok p _ hk
          exact ⟨o, e, ex⟩
        · obtain ⟨_, _, _, _, o, _, _, e, ex, _⟩ := I.hok p _ hk
          exact ⟨o, e, ex⟩
      obtain ⟨o, e, ex⟩ := z
      refine ⟨⟨o, e, ex.1⟩, fun a e2 => ?_⟩
      cases e2
      exact ⟨o, e, ex.2.1⟩
    · obtain ⟨o, _, _, _, e, ex, _⟩ := I.hok p _ hk
      refine ⟨⟨o, e, ex.1⟩, fun a e2 => ?_⟩
      cases e2
      exact ⟨o, e, ex.2.1⟩
  | _ => exact False.elim ty
def tBM (K : PySem.W.Frag) (T : String) (r : V → List V → Hp → VK → Prop) (to : TE) (t : TA) : TE := fun σ H Q => to σ H fun x H1 => tyV K T x H1 ∧ t σ H1 fun xs H2 => r x xs H2 Q
variable {o e : Expr} {es : List Expr} {to : TE} {t : TA} {name : Str} {apos cpos : Pos} {T id : String} {r : V → List V → Hp → VK → Prop}
theorem pe_bm (pa : PlainAttrs T) (slot : Slot T name id) (hty : typeOf (.builtin id) = pure (.type "method_descriptor")) (hm : MtR X id r) (ho : PE X o to) (ha : PA X (e :: es) t)
    (hbase : attributeBase o name X.env (eval o X.env) = eval o X.env := by rfl)
    (hfew : ((backTo cpos (starEach (e :: es) X.env)).all (fun x => !x.1) && (backToKw cpos (keywordEach [] X.env)).all (fun x => x.1.isSome)
      && decide ((e :: es).length + ([] : List Keyword).length + (if ([] : List Keyword).isEmpty then 0 else 1) < 30)) = true := by rfl)
    (hline : (apos.endLine == cpos.line) = true := by rfl) (hs : starEach (e :: es) X.env = (false, eval e X.env) :: starEach es X.env := by rfl) (hplain : (backTo cpos (starEach es X.env)).any (·.1) = false := by rfl) :
    PE X (.Call (.Attribute o name apos) (e :: es) [] cpos) (tBM X.K T r to t) := by
  intro pins s σ H Q I h
  refine wpAny_Call_method_late hbase hfew hline rfl (thn (ho pins s σ H _ I h) fun v s1 ⟨x, H1, I1, r1, ty, q1⟩ => ?_)
  obtain ⟨h1, h2⟩ := tyV_is I1 r1 ty
  refine ⟨T, id, pa, slot, hty, h1, h2, ?_⟩
  have hA := ha cpos pins s1 σ H1 _ I1 q1
  rw [hs] at hA ⊢
  refine Calls.callWith_builtin (by show (false || (backTo cpos (starEach es X.env)).any (·.1)) = false; rw [hplain] <;> rfl) (Calls.evalArgs_plain ?_)
  exact thn hA fun us s2 ⟨vs, H2, I2, r2, q2⟩ => hm pins s2 σ H2 x vs v us Q I2 r1 r2 q2
end
end L2
namespace L2
open PySem PySem.Spec PyProof.Rows
def MtM (X : Cx) (id : String) (r : V → List V → Hp → VK → Prop) : Prop :=
  ∀ (pins : List (Addr × Obj)) (s : Shared) (σ : St) (H : Hp) (x : V) (xs : List V) (v : Value) (us : List Value) (Q : VK), Inv X pins σ H s → RelV x v → Vals xs us → r x xs H Q →
    wpAny (model X.prog X.w) X.A (call (.builtin id) (v :: us)) (EP X pins σ Q) X.xe s
theorem Vals.one : ∀ {x : V} {us : List Value}, Vals [x] us → ∃ u, us = [u] ∧ RelV x u
  | _, _, .cons r .nil => ⟨_, rfl, r⟩
section
variable {X : Cx} {pins : List (Addr × Obj)} {σ : St} {H : Hp} {s : Shared} {l b : Addr} {xs ys zs : List V}
theorem Inv.lset {its its' : List Value} {n : Nat} {f : Array Value → Array Value} {t' : Nat} (I : Inv X pins σ H s) (hH : H l = some (.lst xs))
    (e : s.heap.get? l = some { cls := .type "list", data := .seq its.toArray n }) (hf : f its.toArray = its'.toArray) (hv : Vals ys its') (hz : ys.length ≤ sizeLine) :
    Inv X pins σ (upd H l (.lst ys)) { s with heap := s.heap.update l (Obj.mapSeq f), toks := t' } := by
  have q := PySem.IsL.update e f
  rw [hf] at q
  refine I.write (x := l) (e := l) (by rw [hH]; exact trivial) (.inl rfl) (fun b' u hb hu => (Heap.get?_update_other s.heap (Obj.mapSeq f) (Ne.symm hb)).trans hu) ⟨_, q⟩ ?_
  exact ⟨hz, its', _, hv, q⟩
theorem Inv.lstM (I : Inv X pins σ H s) (hH : H l = some (.lst xs)) : xs.length ≤ sizeLine ∧ ∃ (its : List Value) (n : Nat), Vals xs its ∧ xs.length = its.length ∧ s.heap.get? l = some { cls := .type "list", data := .seq its.toArray n } := by
  obtain ⟨z, its, n, r, e⟩ := I.hok l _ hH
  exact ⟨z, its, n, r, r.length, e⟩
end
section
variable {X : Cx}
def rAppend : V → List V → Hp → VK → Prop := fun x vs H Q => ∃ l xs y, x = .ref l ∧ vs = [y] ∧ H l = some (.lst xs) ∧ xs.length < sizeLine ∧ Q .non (upd H l (.lst (xs ++ [y])))
theorem mt_append : MtM X "list.append" rAppend := by
  intro pins s σ H x vs v us Q I rx rv h
  obtain ⟨l, xs, y, rfl, rfl, hH, hz, q⟩ := h
  cases rx
  obtain ⟨u, rfl, ru⟩ := rv.one
  obtain ⟨z, its, n, r, hl, e⟩ := I.lstM hH
  refine call_meets F.slot_list_append ⟨_, e, rfl⟩ F.entry_list_append (F.args_list_append_2 _ _) (PySem.list_append l its.toArray n u (by rw [List.size_toArray]; omega)) ⟨e, ?_⟩
  refine ⟨.non, _, I.lset (its' := its ++ [u]) hH e (by simp) (r.append (.cons ru .nil)) ?_, rfl, q⟩
  rw [List.length_append, List.length_singleton]
  omega
end
end L2
namespace Att
open PySem PySem.W PySem.Calls PyProof.Rows
theorem ints_of_wellAll {P : Params} {h : Heap} : ∀ (ns : List Int) (vs : List Value), WellAll P h vs (ns.map WData.int) → IntsAre vs ns := by
  intro ns
  induction ns with
  | nil =>
    intro vs w
    rw [List.map_nil] at w
    cases w
    exact .nil
  | cons n ns ih =>
    intro vs w
    rw [List.map_cons] at w
    cases w with
    | cons a b =>
      cases a
      exact .cons _ _ (ih _ b)
theorem script_of {l : OpenLaw} {n : Nat} (hn : l.most = some n) {P : Params} {h : Heap} {args : List WData} {vals : List Value}
    (hpre : l.row.toRowW.claim.pre args = true) (hwl : WellAll P h vals args) :
    ∃ a vs ns, vals = [Value.ref a] ∧ args = [WData.list (ns.map WData.int)] ∧ h.get? a = some { cls := .type "list", data := .seq vs.toArray } ∧ IntsAre vs ns ∧ ns.length ≤ n := by
  have hsh : WShape.hasAll [] args [.list .int] = true := (pre_splitW hpre).1
  have hc : l.pre.holds [] { args := args } = true := (pre_splitW hpre).2
  obtain ⟨d, r, rfl, h1, h2⟩ := hasAllW_cons hsh
  obtain rfl := hasAllW_nil h2
  obtain ⟨xs, rfl, h3⟩ := hasW_list h1
  obtain ⟨ns, rfl⟩ := items_int h3
  have hlen : ns.length ≤ n := by
    unfold OpenLaw.pre at hc
    have h4 : (WTm.not (.lt (.lit (.int (n : Int))) (.len (.arg 0)))).holds [] { args := [.list (ns.map .int)] } = true := by
      have h4 := (holds_andW hc).1
      rw [hn] at h4
      exact h4
    have h5 := condW_of h4 (w_not (w_lt w_lit (w_len_list (w_arg rfl))))
    rw [List.length_map] at h5
    refine Nat.le_of_not_lt fun q => ?_
    have q' : (n : Int) < ((ns.length : Nat) : Int) := by omega
    first
      | (rw [decide_eq_true q'] at h5; exact absurd h5 (by decide))
      | (simp at h5; omega)
  cases hwl with
  | cons w1 w2 =>
    cases w2
    cases w1 with
    | list ho hall => exact ⟨_, _, ns, rfl, rfl, ho, ints_of_wellAll ns _ hall, hlen⟩
theorem post_true (l : OpenLaw) (args : List WData) : l.row.toRowW.claim.post args (.bool true) args = true :=
  postW_of (r := l.row.toRowW) (X := (true == true))
    (show WShape.has [] (.bool true) .bool = true by first | rfl | decide | simp [WShape.has, WShape.arms, WShape.armsAll])
    (show (WTm.eq .res (.lit (.bool true))).value [] { args := args, res := some (.bool true), after := args } = some (.bool (true == true)) from w_eq_bool (w_res rfl) w_lit) rfl
theorem attach_call {l : OpenLaw} {n : Nat} {q : Program} {loose : List Str} {XP : (Str → Option Value) → Heap → Prop} {YP : World → Heap → Prop} {d : DefRec}
    (hn : l.most = some n) (hdf : d.params.defaults = [])
    (call : ∀ (w : World) (s₀ s₁ : Shared) (mg mb : Str → Option Value) (fa : Addr) (o : Obj) (pm cd doc : Value) (a : Addr) (vs : List Value) (ns : List Int),
      Ground q loose [] XP w s₀ mg mb s₁.heap → YP w s₁.heap →
      s₁.heap.get? fa = some o → o.data = .func (docDef d.name d.params d.body d.scope pm cd doc) → s₁.heap.CodeRec cd d.name → mg d.name = some (.ref fa) →
      s₁.heap.get? a = some { cls := .type "list", data := .seq vs.toArray } → IntsAre vs ns → ns.length ≤ n → s₁.gens = #[] →
      codeAny (model l.prog w) callerA (.call (.ref fa) ⟨[.ref a], []⟩) (fun r s' => r = .ok (.ret (.bool true)) ∧ OldK s₁.heap s'.heap ∧ s'.os = s₁.os ∧ AllBare s'.gens) s₁) :
    WalkO q loose XP YP l.row.toRowW d [] (fun f vs => PySem.call f vs) := by
  intro w s₀ s₁ mg mb G Y fa o pm cd doc dV kV ho hd hcd hD hmg hg args vals as hpre hlay hrd hwl hlo
  obtain rfl : dV = .none := Dflts.none hD hdf
  obtain rfl : kV = .none := Dflts.noKw hD
  obtain ⟨a, vs, ns, rfl, rfl, hobj, hints, hlen⟩ := script_of hn hpre hwl
  refine enter_call (codeAny_mono (call w s₀ s₁ mg mb fa o pm cd doc a vs ns G Y ho (fd_plain hd) hcd hmg hobj hints hlen hg) fun r s' hq => ?_)
  obtain ⟨rfl, h2, h3, h4⟩ := hq
  exact ⟨.inl ⟨.bool true, .bool true, [], rfl, fun _ => rfl, .bool true, post_true l _, fun _ => ⟨List.Pairwise.nil, fun _ hm => (nomatch hm)⟩⟩, h2, h3, h4⟩
section
variable {prog : Program} {w : World} {A : Around} {E : Value → Shared → Prop} {s : Shared} {K : Frag}
end
end Att
namespace L2
open PySem PySem.Spec PyProof.Rows
theorem vals_ints : ∀ {vs : List Value} {ns : List Int}, IntsAre vs ns → Vals (ns.map V.int) vs
  | _, _, .nil => .nil
  | _, _, .cons n t h => .cons ⟨t, rfl⟩ (vals_ints h)
def Only (H : Hp) : Prop := ∀ b, H b = none ∨ ∃ o xs, H b = some (.frz o (.lst xs))
theorem law_call {P : Program} {w : World} {K : PySem.W.Frag} {mg mb : Str → Option Value} {CX : CXT} {k : Nat} {fa a : Addr} {fd : FuncData} {x : Str} {sp : Sp} {s₁ : Shared} {vs : List Value} {ns : List Int}
    (KX : K.In s₁.heap) (hns : s₁.heap.Ns mainGlobals mg) (hb : s₁.heap.Ns builtinsNs mb) (hbb : ∀ x : Str, x ≠ "__name__" → mb x = bootBuiltins x) (hlim : s₁.heap.NoLimit) (hg : s₁.gens = #[])
    (ha : s₁.heap.get? a = some { cls := .type "list", data := .seq vs.toArray }) (hi : IntsAre vs ns) (hl : ns.length ≤ sizeLine) (hr : Room k callerA)
    (F : ∀ base : Heap, K.In base → base.Ns mainGlobals mg → FnOk P w K mg base CX k fa fd [x] sp) (hbind : ∀ (s : Shared) (u : Value), BindsTo s fd ⟨[u], []⟩ [(x, u)])
    (hsp : ∀ H : Hp, Only H → SqL K H a (ns.map V.int) → sp [.ref a] H (fun v _ => v = .bl true) fun _ _ _ => False)
    (hCX : ∀ H e s', CX [] H s₁ (fun _ _ _ => False) e s' → False) :
    codeAny (model P w) callerA (.call (.ref fa) ⟨[.ref a], []⟩) (fun r s' => r = .ok (.ret (.bool true)) ∧ OldK s₁.heap s'.heap ∧ s'.os = s₁.os ∧ AllBare s'.gens) s₁ := by
  have rv := vals_ints hi
  have lenV := hi.length
  -- from an abstract heap in which nothing but the script may be tracked
  have core : ∀ H : Hp, Only H → SqL K H a (ns.map V.int) → HOk P w H s₁.heap → (∀ b, H b ≠ none → b = a) → (H a ≠ none → K.lookup a = none) →
      codeAny (model P w) callerA (.call (.ref fa) ⟨[.ref a], []⟩) (fun r s' => r = .ok (.ret (.bool true)) ∧ OldK s₁.heap s'.heap ∧ s'.os = s₁.os ∧ AllBare s'.gens) s₁ := by
    intro H hO hS hok hA hK
    have base_of : ∀ {b : Addr} {o : Obj}, s₁.heap.get? b = some o → H b = none → (hidT s₁.heap H).get? b = some o := fun e n => hidT_get e n
    have noA : ∀ {b : Addr} {o : Obj} {es : Array DictEntry} {ep : Nat}, s₁.heap.get? b = some o → o.data = .dict es ep → H b = none := fun {b o es ep} e d => by
      cases q : H b with
      | none => rfl
      | some u =>
        have e' : b = a := hA b (by rw [q]; simp)
        subst e'
        rw [ha] at e; cases e
        have d' : Data.seq vs.toArray _ = Data.dict es ep := d
        cases d'
    have nsK : ∀ {b : Addr} {m : Str → Option Value}, s₁.heap.Ns b m → (hidT s₁.heap H).Ns b m := fun {b m} ⟨o, es, ep, e, d, r⟩ => ⟨o, es, ep, base_of e (noA e d), d, r⟩
    have hKb : K.In (hidT s₁.heap H) := fun b o e => base_of (KX b o e) (by
      cases q : H b with
      | none => rfl
      | some u =>
        have e' : b = a := hA b (by rw [q]; simp)
        subst e'
        rw [hK (by rw [q]; simp)] at e; cases e)
    have hM : Mod K mg (hidT s₁.heap H) := ⟨hKb, nsK hns, ⟨mb, nsK hb, hbb⟩, let ⟨mc, h1, h2⟩ := hlim; ⟨mc, nsK h1, h2⟩⟩
    have e0 : Env0 P w K mg (hidT s₁.heap H) callerA [] s₁ H := ⟨rfl, hM, fun b o e => of_hidT e, Nat.le_of_eq (hidT_size _ _), trivial, fun b hb => absurd (show b ∈ ([] : List Addr) from hb) (by simp), hok, .of_eq hg⟩
    refine codeAny_mono ((F _ hKb (nsK hns)).run callerA [] s₁ H ⟨[.ref a], []⟩ [.ref a] [.ref a] _ _ hr e0 (hbind s₁ (.ref a)) (.cons rfl .nil) (hsp H hO hS)) fun r s' h => ?_
    cases r with
    | error e => exact (hCX H e s' h).elim
    | ok fl =>
      cases fl with
      | next => exact False.elim h
      | brk => exact False.elim h
      | cont => exact False.elim h
      | ret u =>
        obtain ⟨v, H', os, bare, un, hok', r', q⟩ := h
        have q' : v = .bl true := q
        subst q'
        obtain rfl : u = Value.bool true := r'
        refine ⟨rfl, OldK.of_keep fun b o e => ?_, os, bare⟩
        cases q : H b with
        | none => exact un.keep b o e q (by intro z; exact absurd (show b ∈ ([] : List Addr) from z) (by simp)) (by simp)
        | some u =>
          rcases hO b with z | ⟨ob, xs, z⟩
          · rw [q] at z; cases z
          · have z2 := un.frzs b ob _ z
            obtain ⟨e1, _⟩ := hok b _ z
            obtain ⟨e2, _⟩ := hok' b _ z2
            rw [e] at e1; cases e1
            exact e2
  cases hk : K.lookup a with
  | some o =>
    -- the script is one of the module's own objects
    have e := KX a o hk
    rw [ha] at e
    cases e
    refine core (fun _ => none) (fun _ => .inl rfl) (.inr ⟨_, vs.toArray, _, hk, rfl, rfl, rfl, by rw [List.size_toArray, lenV]; exact hl, by simpa using rv⟩) (fun b u z => by have z' : (none : Option HO) = some u := z; cases z') (fun b z => absurd rfl z) fun z => absurd rfl z
  | none =>
    refine core (fun b => if b = a then some (.frz { cls := .type "list", data := .seq vs.toArray } (.lst (ns.map V.int))) else none) (fun b => ?_) (.inl (.inr ⟨{ cls := .type "list", data := .seq vs.toArray }, if_pos rfl⟩)) (fun b u z => ?_) (fun b z => ?_) fun _ => hk
    · by_cases hb : b = a
      · exact .inr ⟨_, _, if_pos hb⟩
      · exact .inl (if_neg hb)
    · by_cases hb : b = a
      · have z' := (if_pos hb).symm.trans z
        cases z'
        subst hb
        exact ⟨ha, by rw [List.length_map]; exact hl, vs, _, rv, ha⟩
      · have z' := (if_neg hb).symm.trans z
        cases z'
    · by_cases hb : b = a
      · exact hb
      · exact absurd (if_neg hb) z
end L2
namespace L2
open PySem PySem.Spec PyProof.Rows
theorem walk_of {l : PySem.W.OpenLaw} {n k : Nat} {q : Program} {loose : List Str} {XP : (Str → Option Value) → Heap → Prop} {YP : World → Heap → Prop} {d : DefRec} {K : Params → PySem.W.Frag} {CX : World → CXT} {sp : World → Sp} {x : Str}
    (hn : l.most = some n) (hn2 : n ≤ sizeLine) (hdf : d.params.defaults = []) (hr : Room k callerA)
    (hY : ∀ (w : World) (h : Heap), YP w h → (K w.params).In h)
    (F : ∀ (w : World) (mg : Str → Option Value) (fa : Addr) (h : Heap), (K w.params).In h → h.Ns mainGlobals mg → mg d.name = some (.ref fa) →
      ∃ fd : FuncData, (∀ (s : Shared) (u : Value), BindsTo s fd ⟨[u], []⟩ [(x, u)]) ∧
        ∀ base : Heap, (K w.params).In base → base.Ns mainGlobals mg → FnOk l.prog w (K w.params) mg base (CX w) k fa fd [x] (sp w))
    (hsp : ∀ (w : World) (H : Hp) (a : Addr) (ns : List Int), ns.length ≤ n → Only H → SqL (K w.params) H a (ns.map V.int) → sp w [.ref a] H (fun v _ => v = .bl true) fun _ _ _ => False)
    (hCX : ∀ (w : World) (H : Hp) (s : Shared) (e : Value) (s' : Shared), CX w [] H s (fun _ _ _ => False) e s' → False) :
    PySem.W.WalkO q loose XP YP l.row.toRowW d [] (fun f vs => PySem.call f vs) := by
  refine Att.attach_call hn hdf fun w s₀ s₁ mg mb fa o pm cd doc a vs ns G Y ho hd hcd hmg hobj hints hlen hg => ?_
  have KX := hY w _ Y
  obtain ⟨fd, hb, hF⟩ := F w mg fa _ KX G.T.g hmg
  exact law_call KX G.T.g G.T.b G.T.builtins G.T.nolimit hg hobj hints (Nat.le_trans hlen hn2) hr hF hb (fun H hO hS => hsp w H a ns hlen hO hS) fun H e s' => hCX w H s₁ e s'
end L2
namespace L2
open PySem PySem.Spec PyProof.Rows
def inClass (s : Stmt) (j : Nat) : Stmt := match s with
  | .ClassDef _ _ _ body _ _ _ _ _ _ _ => body.getD j (.Pass ⟨0, 0, 0, 0⟩)
  | _ => .Pass ⟨0, 0, 0, 0⟩
def defArgs (s : Stmt) : Arguments := match s with
  | .FunctionDef _ a _ _ _ _ _ _ _ _ => a
  | _ => { posonlyargs := [], args := [], vararg := none, kwonlyargs := [], kw_defaults := [], kwarg := none, defaults := [] }
def defBody (s : Stmt) : List Stmt := match s with
  | .FunctionDef _ _ b _ _ _ _ _ _ _ => b
  | _ => []
def defScope (s : Stmt) : Scope := match s with
  | .FunctionDef _ _ _ _ _ _ sc _ _ _ => sc
  | _ => { kind := .function, names := [], isGenerator := false, isCoroutine := false }
abbrev CX0 : CXT := fun _ _ _ _ _ _ => False
abbrev E0 : XK := fun _ _ _ => False
theorem pass0 {X : Cx} : Passes CX0 X E0 := fun _ _ _ _ _ _ _ h => h.elim
structure Fun (K : PySem.W.Frag) (x qual : Str) (st : Stmt) (f : Addr) (fd : FuncData) : Prop where
  ex : ∃ (oc : Value) (od : Option Addr) (kV doc pm : Value) (an : Option Addr) (cdv ct : Value) (osl : Array (Option Value)),
    fd = PySem.W.fnOf x qual (defArgs st) (defBody st) (defScope st) .none kV doc pm an cdv ct ∧ K.lookup f = some ⟨oc, od, .func fd, osl⟩ ∧ PySem.W.codeIn K cdv qual = true
  kp : PySem.W.keepIn K (.ref f) = true
section
variable {P : Program} {w : World} {K : PySem.W.Frag} {mg : Str → Option Value} {base : Heap}
theorem Fun.ok {x qual : Str} {st : Stmt} {f : Addr} {fd : FuncData} {N ps : List Str} {k : Nat} {sp : Sp} (F : Fun K x qual st f fd) (S : FnScope N ps (defScope st)) (len : ∀ vs H Q E, sp vs H Q E → vs.length = ps.length)
    (hbody : ∀ (cdv : Value) (A : Around) (outer : List Env) (s : Shared) (H : Hp) (vs : List V) (Q : VK) (E : XK), Room k (A.deeper (envOfC qual (defScope st) s.heap.objs.size f cdv)) → sp vs H Q E →
      ∃ t, PSs (cxOf CX0 P w K mg base N qual (defScope st) f cdv A outer s H E).nox (defBody st) t ∧ t { nx := fun _ H' => Q .non H', rt := Q } (start N vs) H) : FnOk P w K mg base CX0 (k + 1) f fd ps sp := by
  obtain ⟨oc, od, kV, doc, pm, an, cdv, ct, osl, rfl, lk, hcd⟩ := F.ex
  refine fn_of lk hcd S len fun A outer s H vs Q E hr hsp => ?_
  obtain ⟨t, h, q⟩ := hbody cdv A outer s H vs Q E hr hsp
  exact ⟨t, h.nox, q⟩
theorem Fun.binds {x qual : Str} {st : Stmt} {f : Addr} {fd : FuncData} {ps : List Str} (F : Fun K x qual st f fd)
    (h : ∀ (kV doc pm : Value) (an : Option Addr) (cdv ct : Value) (us : List Value), us.length = ps.length → bindArgs (PySem.W.fnOf x qual (defArgs st) (defBody st) (defScope st) .none kV doc pm an cdv ct) ⟨us, []⟩ = pure (ps.zip us)) : Binds K fd ps [] := by
  obtain ⟨oc, od, kV, doc, pm, an, cdv, ct, osl, rfl, lk, hcd⟩ := F.ex
  exact .all (h kV doc pm an cdv ct)
theorem fun_mk {x qual : Str} {st : Stmt} {f : Addr} {oc : Value} {od an : Option Addr} {osl : Array (Option Value)} {kV doc pm cdv ct : Value} (l : K.lookup f = some ⟨oc, od, .func (PySem.W.fnOf x qual (defArgs st) (defBody st) (defScope st) .none kV doc pm an cdv ct), osl⟩)
    (c : PySem.W.codeIn K cdv qual = true) (k : PySem.W.keepIn K (.ref f) = true) : Fun K x qual st f (PySem.W.fnOf x qual (defArgs st) (defBody st) (defScope st) .none kV doc pm an cdv ct) := ⟨⟨oc, od, kV, doc, pm, an, cdv, ct, osl, rfl, l, c⟩, k⟩
end
theorem small1000 {n : Nat} (h : n ≤ 1000) : n < sizeLine := Nat.lt_of_le_of_lt h (by decide)
section
variable {X : Cx}
theorem pv (i : Nat) {x : Str} {pos : Pos} (hN : X.N[i]? = some x := by rfl) (hv : Vis X.env.scope x := by first | exact Or.inl rfl | exact Or.inr (Or.inl rfl) | exact Or.inr (Or.inr rfl)) (hd : (x == ("__debug__" : Str)) = false := by decide)
    (hcd : (x == ("__classdict__" : Str)) = false := by decide) : PE X (.Name x pos) (tVar i) := pe_var hN hv hd hcd
end
theorem iteF {A B : Prop} (h : B) : if false = true then A else B := by
  rw [if_neg Bool.false_ne_true]
  exact h
theorem iteT {A B : Prop} (h : A) : if true = true then A else B := by
  rw [if_pos rfl]
  exact h
def Same (H H' : Hp) : Prop := ∀ b o, H b = some o → H' b = some o
theorem Same.refl (H : Hp) : Same H H := fun _ _ h => h
theorem Same.trans {H H1 H2 : Hp} (a : Same H H1) (b : Same H1 H2) : Same H H2 := fun c o h => b c o (a c o h)
theorem Same.seq {K : PySem.W.Frag} {H H' : Hp} {a : Addr} {xs : List V} (e : Same H H') (h : SqL K H a xs) : SqL K H' a xs := by
  rcases h with (h | ⟨o, h⟩) | h
  · exact .inl (.inl (e _ _ h))
  · exact .inl (.inr ⟨o, e _ _ h⟩)
  · exact .inr h
end L2
set_option Elab.async false
set_option linter.all false
set_option maxRecDepth 100000
namespace L2
open PySem PySem.Spec PyProof.Rows
section
variable {X : Cx}
def rAddS : R2 := fun x y H Q => ∃ i j, x = .str i ∧ y = .str j ∧ i.length + j.length ≤ sizeLine ∧ Q (.str (i ++ j)) H
theorem op_addS : OpR X (binaryOp .Add) rAddS := op_add_str
def rLenS : List V → Hp → VK → Prop := fun xs H Q => ∃ z, xs = [.str z] ∧ z.length ≤ sizeLine ∧ Q (.int z.length) H
theorem call_lenS : CallR X (.builtin "len") rLenS := call_len_str
def rSlS : V → Option Int → Option Int → Hp → VK → Prop := fun x lo hi H Q => ∃ z, x = .str z ∧ z.length ≤ sizeLine ∧ Q (.str (Txt.slice z lo hi)) H
theorem sl_str : SlR X rSlS := by
  intro pins s σ H x v vl vu lo hi sl Q I rx hs pl pu h
  obtain ⟨z, rfl, hz, q⟩ := h
  obtain ⟨t, rfl⟩ := rx
  refine ⟨"str", _, F.slot_str_getitem.lookup, typeIs_str _ _ _, ?_⟩
  have fin : ∀ t' k, EP X pins σ Q (.str (Txt.slice z lo hi) t') { s with toks := k } := fun t' k => ⟨.str _, H, I.tok _, ⟨_, rfl⟩, q⟩
  cases pl with
  | none =>
    cases pu with
    | none => exact wpAny_getItem_str_slice (l := none) (u := none) (st := none) hs rfl (post_val_or_str ⟨Nat.le_trans (Txt.slice_le z _ _) hz, fin⟩)
    | int j uj => exact wpAny_getItem_str_slice (l := none) (u := some (j, uj)) (st := none) hs rfl (post_val_or_str ⟨Nat.le_trans (Txt.slice_le z _ _) hz, fin⟩)
  | int i ui =>
    cases pu with
    | none => exact wpAny_getItem_str_slice (l := some (i, ui)) (u := none) (st := none) hs rfl (post_val_or_str ⟨Nat.le_trans (Txt.slice_le z _ _) hz, fin⟩)
    | int j uj => exact wpAny_getItem_str_slice (l := some (i, ui)) (u := some (j, uj)) (st := none) hs rfl (post_val_or_str ⟨Nat.le_trans (Txt.slice_le z _ _) hz, fin⟩)
theorem Same.upd {H : Hp} {p : Addr} {o : HO} (h : H p = none) : Same H (upd H p o) := fun b u e => by
  rw [upd_ne (ne_of_none e h)]; exact e
def pV (p : List Str) : List V := p.map V.str
def clsVal : V → Option Value
  | .ty n => some (.type n)
  | .ref C => some (.ref C)
  | _ => none
def rIsi (K : PySem.W.Frag) : List V → Hp → VK → Prop := fun xs H Q => ∃ x c t cv b, xs = [x, c] ∧ TyOf K H x t ∧ clsVal c = some cv ∧ PySem.W.kitOne K t cv = some b ∧ Q (.bl b) H
theorem call_isinst : CallR X (.builtin "isinstance") (rIsi X.K) := by
  intro pins s σ H xs us Q I r h
  obtain ⟨x, c, t, cv, b, rfl, ty, hc, hk, q⟩ := h
  obtain ⟨u, w', rfl, r1, r2⟩ := vals2 r
  have e : w' = cv := by
    cases c with
    | ty n => cases hc; exact r2
    | ref C => cases hc; exact r2
    | _ => cases hc
  subst e
  exact isinst_ok I r1 ty hk fun tk => ⟨.bl b, H, I.tok _, rfl, q⟩
end
end L2
set_option Elab.async false
set_option linter.all false
set_option maxRecDepth 100000
namespace L2
open PySem PySem.Spec PyProof.Rows
section
variable {σ : St} {H : Hp} {Q : VK} {D : Ends} {K : PySem.W.Frag} {ta tb tc te : TE} {v : V} {i : Nat}
theorem wp_var (h1 : σ[i]? = some (some v)) (h : Q v H) : tVar i σ H Q := ⟨v, h1, h⟩
theorem wp_c (h : Q v H) : tC v σ H Q := h
theorem wp_op {r : R2} (h : ta σ H fun x H1 => tb σ H1 fun y H2 => r x y H2 Q) : tOp r ta tb σ H Q := h
theorem wp_un {r : V → Hp → VK → Prop} (h : ta σ H fun x H1 => r x H1 Q) : tUn r ta σ H Q := h
theorem wp_rU {g : Int → V} {j : Int} (h : Q (g j) H) : rU g (.int j) H Q := ⟨j, rfl, h⟩
theorem wp_rI0 {g : Int → Int → V} {j k : Int} (h : Q (g j k) H) : rI0 g (.int j) (.int k) H Q := ⟨j, k, rfl, rfl, h⟩
theorem wp_rI {C : Int → Int → Prop} {g : Int → Int → V} {j k : Int} (hc : C j k) (h : Q (g j k) H) : rI C g (.int j) (.int k) H Q := ⟨j, k, rfl, rfl, hc, h⟩
theorem wp_rEqI {j k : Int} (h : Q (.bl (decide (j = k))) H) : rEq (.int j) (.int k) H Q := ⟨rfl, by
  have e : decide (V.int j = V.int k) = decide (j = k) := by rw [dec_int]; by_cases z : j = k <;> simp [z]
  rw [e]; exact h⟩
theorem dec_strE {j k : Str} : decide (V.str j = V.str k) = decide (j = k) := by
  by_cases z : j = k
  · subst z; simp
  · rw [decide_eq_false z, decide_eq_false (fun q => z (by injection q))]
theorem wp_rEqS {j k : Str} (h : Q (.bl (decide (j = k))) H) : rEq (.str j) (.str k) H Q := ⟨rfl, by rw [dec_strE]; exact h⟩
theorem wp_rNeS {j k : Str} (h : Q (.bl (!decide (j = k))) H) : rNe (.str j) (.str k) H Q := ⟨rfl, by rw [dec_strE]; exact h⟩
theorem wp_test {Q : Bool → Hp → Prop} (h : te σ H fun x H' => ∃ k, x = .bl k ∧ Q k H') : tTest te σ H Q := h
theorem wp_tB {Q : Bool → Hp → Prop} (h : te σ H fun x H' => ∃ k, x = .bl k ∧ Q k H') : tB te σ H Q := h
theorem wp_bl {b : Bool} {P : Bool → Prop} (h : P b) : ∃ k, V.bl b = .bl k ∧ P k := ⟨b, rfl, h⟩
theorem wp_and {t u : TT} {Q : Bool → Hp → Prop} (h : t σ H fun c H1 => if c = true then u σ H1 Q else Q false H1) : tAnd t u σ H Q := h
theorem wp_or {t u : TT} {Q : Bool → Hp → Prop} (h : t σ H fun c H1 => if c = true then Q true H1 else u σ H1 Q) : tOr t u σ H Q := h
theorem wp_not {t : TT} {Q : Bool → Hp → Prop} (h : t σ H fun c H1 => Q (!c) H1) : tNot t σ H Q := h
theorem wp_andV (h : ta σ H fun x H1 => ∃ c, x = .bl c ∧ if c = true then tb σ H1 Q else Q (.bl false) H1) : tAndV ta tb σ H Q := h
theorem wp_notV (h : ta σ H fun x H1 => ∃ c, x = .bl c ∧ Q (.bl (!c)) H1) : tNotV ta σ H Q := h
theorem wp_ifE {t : TT} (h : t σ H fun c H1 => if c = true then ta σ H1 Q else tb σ H1 Q) : tIf t ta tb σ H Q := h
theorem wp_seq {t u : TS} (h : t { D with nx := u D } σ H) : tSeq t u D σ H := h
theorem wp_next (h : D.nx σ H) : tNext D σ H := h
theorem wp_drop (h : te σ H fun _ H1 => D.nx σ H1) : tDrop te D σ H := h
theorem wp_ret (h : te σ H D.rt) : tRet te D σ H := h
theorem wp_ifS {c : TT} {t u : TS} (h : c σ H fun b H1 => if b = true then t D σ H1 else u D σ H1) : tIfS c t u D σ H := h
theorem wp_asg {g : TG} (h : te σ H fun x H1 => g x σ H1 D.nx) : tAsg te g D σ H := h
theorem wp_name {R : St → Hp → Prop} (h : R (σ.set i (some v)) H) : gName i v σ H R := h
theorem wp_chain {r r' : R2} (h : ta σ H fun x H1 => tb σ H1 fun y H2 => r x y H2 fun z H3 => ∃ k, z = .bl k ∧ (if k = true then tc σ H3 fun w' H4 => r' y w' H4 Q else Q (.bl false) H3)) : tChain r r' ta tb tc σ H Q := h
theorem wp_nil {R : List V → Hp → Prop} (h : R [] H) : tNil σ H R := h
theorem wp_cons {tr : TA} {R : List V → Hp → Prop} (h : ta σ H fun x H1 => tr σ H1 fun xs H2 => R (x :: xs) H2) : tCons ta tr σ H R := h
def tupK (xs : List V) (H : Hp) (Q : VK) : Prop := xs.length ≤ sizeLine ∧ ∀ p, H p = none → Q (.ref p) (upd H p (.tup xs))
def lstK (xs : List V) (H : Hp) (Q : VK) : Prop := xs.length ≤ sizeLine ∧ ∀ p, H p = none → Q (.ref p) (upd H p (.lst xs))
theorem wp_tup {t : TA} (h : t σ H fun xs H1 => tupK xs H1 Q) : tTup t σ H Q := h
theorem wp_lst {t : TA} (h : t σ H fun xs H1 => lstK xs H1 Q) : tLst t σ H Q := h
theorem wp_cB {r : List V → Hp → VK → Prop} {t : TA} (h : t σ H fun vs H1 => r vs H1 Q) : tCB r t σ H Q := h
theorem wp_noPart {R : Option Int → Hp → Prop} (h : R none H) : tNoPart σ H R := h
theorem wp_part {R : Option Int → Hp → Prop} (h : te σ H fun x H1 => ∃ i, x = .int i ∧ R (some i) H1) : tPart te σ H R := h
theorem wp_int {b : Int} {P : Int → Prop} (h : P b) : ∃ k, V.int b = .int k ∧ P k := ⟨b, rfl, h⟩
theorem wp_sl {r : V → Option Int → Option Int → Hp → VK → Prop} {tl th : TO} (h : te σ H fun x H1 => tl σ H1 fun l H2 => th σ H2 fun u H3 => r x l u H3 Q) : tSl r te tl th σ H Q := h
def tLoop (g : TG) (tb : TS) (D : Ends) (σ : St) (J : It) (H1 : Hp) : Prop := ∃ W : Nat → Nat → St → Hp → Prop, (∃ m, W 0 m σ H1) ∧ ∀ i m σ H, W i m σ H →
  (J.stop i H ∧ D.nx σ H) ∨ (J.go i H ∧ ∃ N : St → Hp → Prop, (∀ σ' H', N σ' H' → ∃ m', m' < m ∧ W (i + 1) m' σ' H') ∧ ∀ x H', J.yld i H x H' → g x σ H' fun σ2 H2 => tb { D with nx := N, ct := N, bk := D.nx } σ2 H2)
theorem wp_for {wi : TI} {g : TG} {tb : TS} (h : wi σ H (tLoop g tb D σ)) : tFor wi g tb D σ H := h
theorem wp_rng1 {t : TA} {R : It → Hp → Prop} (h : t σ H fun vs H1 => ∃ j : Int, vs = [.int j] ∧ -(2 ^ 62) ≤ j ∧ j < 2 ^ 62 ∧ R (Itr 0 j.toNat) H1) : iRng1 t σ H R := h
theorem wp_rng1' {R : It → Hp → Prop} {j : Int} (h1 : -(2 ^ 62) ≤ j) (h2 : j < 2 ^ 62) (h : R (Itr 0 j.toNat) H) : ∃ k : Int, [V.int j] = [V.int k] ∧ -(2 ^ 62) ≤ k ∧ k < 2 ^ 62 ∧ R (Itr 0 k.toNat) H := ⟨j, rfl, h1, h2, h⟩
theorem wp_iteP {p A B : Prop} {inst : Decidable p} (h1 : p → A) (h2 : ¬ p → B) : if decide p = true then A else B := by
  by_cases h : p
  · rw [decide_eq_true h]; exact iteT (h1 h)
  · rw [decide_eq_false h]; exact iteF (h2 h)
theorem wp_iteN {p A B : Prop} {inst : Decidable p} (h1 : ¬ p → A) (h2 : p → B) : if (!decide p) = true then A else B := by
  by_cases h : p
  · rw [decide_eq_true h]; exact iteF (h2 h)
  · rw [decide_eq_false h]; exact iteT (h1 h)
theorem wp_iteB {b : Bool} {A B : Prop} (h1 : b = true → A) (h2 : b = false → B) : if b = true then A else B := by
  cases b
  · exact iteF (h2 rfl)
  · exact iteT (h1 rfl)
theorem wp_iteNB {b : Bool} {A B : Prop} (h1 : b = false → A) (h2 : b = true → B) : if (!b) = true then A else B := by
  cases b
  · exact iteT (h1 rfl)
  · exact iteF (h2 rfl)
theorem wp_addS {x y : Str} (hz : x.length + y.length ≤ sizeLine) (h : Q (.str (x ++ y)) H) : rAddS (.str x) (.str y) H Q := ⟨x, y, rfl, rfl, hz, h⟩
theorem wp_lenS {x : Str} (hz : x.length ≤ sizeLine) (h : Q (.int x.length) H) : rLenS [.str x] H Q := ⟨x, rfl, hz, h⟩
theorem str_app_len (x y : Str) : (x ++ y).length = x.length + y.length := by
  show (x.cps ++ y.cps).size = _
  rw [Array.size_append]; rfl
theorem wp_ixS {z : Str} {j : Int} {c : Nat} (hz : z.length ≤ sizeLine) (hc : atI z.cps.toList j = some c) (h : Q (.str ⟨#[c]⟩) H) : rIxS (.str z) (.int j) H Q := ⟨z, j, c, rfl, rfl, hz, hc, h⟩
theorem atI_some {α : Type} {xs : List α} {j : Int} (h0 : 0 ≤ j) (h1 : j < xs.length) : ∃ v, atI xs j = some v := by
  have hl : j.toNat < xs.length := by omega
  refine ⟨xs[j.toNat], ?_⟩
  unfold atI ixN
  rw [if_pos h0, if_pos h1]
  simp [hl]
theorem wp_ixS' {z : Str} {j : Int} (hz : z.length ≤ sizeLine) (h0 : 0 ≤ j) (h1 : j < z.length) (h : ∀ y : Str, y.length = 1 → (∃ c : Nat, atI z.cps.toList j = some c ∧ y = ⟨#[c]⟩) → Q (.str y) H) : rIxS (.str z) (.int j) H Q := by
  obtain ⟨c, hc⟩ := atI_some (xs := z.cps.toList) h0 (by simpa [Str.length] using h1)
  exact ⟨z, j, c, rfl, rfl, hz, hc, h ⟨#[c]⟩ rfl ⟨c, hc, rfl⟩⟩
theorem wp_slS {z : Str} {lo hi : Option Int} (hz : z.length ≤ sizeLine) (h : ∀ y : Str, y = Txt.slice z lo hi → y.length ≤ z.length → Q (.str y) H) : rSlS (.str z) lo hi H Q := ⟨z, rfl, hz, h _ rfl (Txt.slice_le z lo hi)⟩
theorem wp_isiS {x : Str} (hk : PySem.W.kitOne K (.type "str") (.type "str") = some true) (h : Q (.bl true) H) : rIsi K [.str x, .ty "str"] H Q := ⟨_, _, _, _, true, rfl, .str x, rfl, hk, h⟩
end
structure Fn (K : PySem.W.Frag) (mg : Str → Option Value) (x : Str) (st : Stmt) (ps : List Str) : Prop where
  ex : ∃ f fd, Fun K x x st f fd ∧ mg x = some (.ref f) ∧ Binds K fd ps []
structure FnAll (P : Program) (w : World) (K : PySem.W.Frag) (mg : Str → Option Value) (base : Heap) (x : Str) (k : Nat) (ps : List Str) (sp : Sp) : Prop where
  ex : ∃ f fd, FnOk P w K mg base CX0 k f fd ps sp ∧ mg x = some (.ref f) ∧ PySem.W.keepIn K (.ref f) = true ∧ Binds K fd ps []
section
variable {P : Program} {w : World} {K : PySem.W.Frag} {mg : Str → Option Value} {base : Heap}
theorem Fn.ok {x : Str} {st : Stmt} {N ps : List Str} {k : Nat} {sp : Sp} (F : Fn K mg x st ps) (S : FnScope N ps (defScope st)) (len : ∀ vs H Q E, sp vs H Q E → vs.length = ps.length)
    (hbody : ∀ (f : Addr) (cdv : Value) (A : Around) (outer : List Env) (s : Shared) (H : Hp) (vs : List V) (Q : VK) (E : XK), Room k (A.deeper (envOfC x (defScope st) s.heap.objs.size f cdv)) → sp vs H Q E →
      ∃ t, PSs (cxOf CX0 P w K mg base N x (defScope st) f cdv A outer s H E).nox (defBody st) t ∧ t { nx := fun _ H' => Q .non H', rt := Q } (start N vs) H) : FnAll P w K mg base x (k + 1) ps sp := by
  obtain ⟨f, fd, F, hm, hb⟩ := F.ex
  exact ⟨f, fd, F.ok S len (fun cdv A outer s H vs Q E hr h => hbody f cdv A outer s H vs Q E hr h), hm, F.kp, hb⟩
end
section
variable {X : Cx} {x : Str} {k n : Nat} {ps : List Str} {sp : Sp} {e : Expr} {es : List Expr} {t : TA} {p pos : Pos}
def tCall0 (sp : Sp) (t : TA) : TE := fun σ H Q => t σ H fun vs H1 => sp vs H1 Q E0
theorem pe_callF (F : FnAll X.prog X.w X.K X.mg X.base x k ps sp) (hr : Room n X.A) (ha : PA X (e :: es) t) (hk : k ≤ n := by decide) (hg : Gl X x := by rfl) (hdb : (x == ("__debug__" : Str)) = false := by decide)
    (he : starEach (e :: es) X.env = (false, eval e X.env) :: starEach es X.env := by rfl) (hpl : (backTo pos (starEach es X.env)).any (·.1) = false := by rfl) : PE X (.Call (.Name x p) (e :: es) [] pos) (tCall0 sp t) := by
  obtain ⟨f, fd, G, hm, hkp, hb⟩ := F.ex
  intro pins s σ H Q I h
  refine pe_call G (hr.mono hk) hg hm hkp hb .nil pass0 ha hdb he hpl pins s σ H Q I ?_
  have z : tCall sp [] E0 t = tCall0 sp t := by
    unfold tCall tCall0
    funext σ H Q
    congr 1
    funext vs H1
    rw [List.append_nil]
  rw [z]; exact h
theorem wp_call {σ : St} {H : Hp} {Q : VK} (h : t σ H fun vs H1 => sp vs H1 Q E0) : tCall0 sp t σ H Q := h
end
end L2
set_option Elab.async false
set_option linter.all false
set_option maxRecDepth 100000
set_option maxHeartbeats 0
namespace L2
open PySem PySem.Spec PyProof.Rows
structure Mt (K : PySem.W.Frag) (C : Addr) (x qual : Str) (st : Stmt) (ps : List Str) : Prop where
  ex : ∃ f fd, Fun K x qual st f fd ∧ PySem.W.findIn K (.ref C) x = some (some (.ref f)) ∧ PySem.W.isFn K (.ref f) = true ∧ Binds K fd ps []
structure Cl where
  deed : Addr
  put : Addr
  cut : Addr
  set : Addr
  move : Addr
section
variable {σ : St} {H : Hp} {Q : VK} {c : Cl} {K : PySem.W.Frag} {v : V} {d : DD} {X : Cx}
theorem wp_isiII {n : Int} (hk : PySem.W.kitOne K (.type "int") (.type "int") = some true) (h : Q (.bl true) H) : rIsi K [.int n, .ty "int"] H Q := ⟨_, _, _, _, true, rfl, .int n, rfl, hk, h⟩
theorem wp_isiIB {n : Int} (hk : PySem.W.kitOne K (.type "int") (.type "bool") = some false) (h : Q (.bl false) H) : rIsi K [.int n, .ty "bool"] H Q := ⟨_, _, _, _, false, rfl, .int n, rfl, hk, h⟩
def rLenQ (K : PySem.W.Frag) : List V → Hp → VK → Prop := fun xs H Q => ∃ p ys, xs = [.ref p] ∧ (SqL K H p ys ∨ SqT K H p ys) ∧ Q (.int ys.length) H
theorem call_lenQ : CallR X (.builtin "len") (rLenQ X.K) := call_len_seq
end
theorem wp_bm {σ : St} {H : Hp} {Q : VK} {K : PySem.W.Frag} {T : String} {r : V → List V → Hp → VK → Prop} {to : TE} {t : TA} (h : to σ H fun x H1 => tyV K T x H1 ∧ t σ H1 fun xs H2 => r x xs H2 Q) : tBM K T r to t σ H Q := h
end L2
set_option Elab.async false
set_option linter.all false
set_option maxRecDepth 100000
set_option maxHeartbeats 0
namespace L2
open PySem PySem.Spec PyProof.Rows
theorem hu16 {A : Around} {k : Nat} (hr : Room k A) : A.units + 16 < cLine := Nat.lt_of_le_of_lt (Nat.add_le_add_left (by decide : 16 ≤ 64) _) hr.units
theorem lit_ab : (Str.ofString "ab").length = 2 := by decide
theorem lit_q : (Str.ofString "qqqqqqqq").length = 8 := by decide
theorem lit_az : (Str.ofString "abcdefghijklmnopqrstuvwxyz").length = 26 := by decide
theorem lit_a : (Str.ofString "a").length = 1 := by decide
theorem lit_0 : (Str.ofString "").length = 0 := by decide
def spLaw (K : PySem.W.Frag) : Sp := fun vs H Q _ => ∃ (a : Addr) (ns : List Int), vs = [.ref a] ∧ SqL K H a (ns.map V.int) ∧ ns.length ≤ 63 ∧ ∀ H', Q (.bl true) H'
end L2
set_option Elab.async false
set_option linter.all false
set_option maxRecDepth 100000
set_option maxHeartbeats 0
namespace L2
open PySem PySem.Spec PyProof.Rows
def compCx (X : Cx) (scope : Scope) (cl : List (Str × Addr)) (N : List Str) (fp : List Addr) (pins : List (Addr × Obj)) (s : Shared) (H : Hp) : Cx where
  prog := X.prog
  w := X.w
  K := X.K
  mg := X.mg
  base := X.base
  A := X.A
  N := N
  s₀ := s
  H₀ := H
  env := compEnvC scope cl s.heap.objs.size X.env
  outer := X.stack
  stack := X.stack
  ex := fp
  fn := fun _ => false
  calm := X.calm
  pn := X.pn ++ pins
  xe := fun _ _ => False
structure CompScope (X : Cx) (scope : Scope) (cl : List (Str × Addr)) (x : Str) (caps : List (Str × Nat)) : Prop where
  kind : scope.kind = .function
  clos : closureFor scope X.env = pure cl
  ncell : ∀ y ∈ scope.names, y.2 ≠ .cell
  names : ∀ y ∈ scope.names, y.2 = .local → scope.names.lookup y.1 = some .local
  xloc : scope.names.lookup x = some .local
  sub : ∀ y c, cl.lookup y = some c → X.env.cells.lookup y = some c
  has : ∀ y, ((relabel scope X.env).names.lookup y = some .cell ∨ (relabel scope X.env).names.lookup y = some .free) → ∃ c, cl.lookup y = some c
  cap : ∀ (k : Nat) y j, caps[k]? = some (y, j) → X.N[j]? = some y ∧ Vis X.env.scope y ∧ (X.env.kindOf y = some .cell ∨ X.env.kindOf y = some .free) ∧ ((relabel scope X.env).names.lookup y = some .cell ∨ (relabel scope X.env).names.lookup y = some .free)
  nd : (x :: caps.map (·.1)).Nodup
def PIf (X : Cx) (ifs : List Expr) (t : TT) : Prop :=
  ∀ (pins : List (Addr × Obj)) (s : Shared) (σ : St) (H : Hp) (Q : Bool → Hp → Prop), Inv X pins σ H s → t σ H Q →
    wpAny (model X.prog X.w) X.A (forIn ifs true fun c r => if r = true then do let ok ← isTrue c X.env (eval c X.env); pure (ForInStep.yield ok) else pure (ForInStep.yield r)) (TP X pins σ Q) X.xe s
def tYes : TT := fun _ H Q => Q true H
theorem pif_nil {X : Cx} : PIf X [] tYes := fun _ _ _ H _ I h => wpAny_tests_nil ⟨H, I, h⟩
def compK (tc : TT) (te : TE) (cvs : List V) (Q : VK) (J : It) (H1 : Hp) : Prop := ∀ D, H1 D = none → ∃ W : Nat → Nat → List V → Hp → Prop, (∃ m, W 0 m [] (upd H1 D (.lst []))) ∧
  ∀ i m acc H, W i m acc H → H D = some (.lst acc) ∧ ((J.stop i H ∧ Q (.ref D) H) ∨ (J.go i H ∧ ∀ v H', J.yld i H v H' → tc (some v :: cvs.map some) H' fun b H2 =>
    if b = true then te (some v :: cvs.map some) H2 fun y H3 => H3 D = some (.lst acc) ∧ acc.length < sizeLine ∧ ∃ m', m' < m ∧ W (i + 1) m' (acc ++ [y]) (upd H3 D (.lst (acc ++ [y]))) else ∃ m', m' < m ∧ W (i + 1) m' acc H2))
def tComp (wi : TI) (tc : TT) (te : TE) (caps : List (Str × Nat)) : TE := fun σ H Q => ∃ cvs : List V, cvs.length = caps.length ∧ (∀ (k : Nat) y j, caps[k]? = some (y, j) → ∃ v, cvs[k]? = some v ∧ σ[j]? = some (some v)) ∧ wi σ H (compK tc te cvs Q)
theorem SameBut_keep {C : Addr} {h h' : Heap} (e : Heap.SameBut C h h') : ∀ b o, b ≠ C → h.get? b = some o → h'.get? b = some o := fun b o hb q => e.extBut b o hb q
section
variable {X : Cx} {scope : Scope} {cl : List (Str × Addr)} {x : Str} {caps : List (Str × Nat)} {pins : List (Addr × Obj)} {σ : St} {H : Hp} {s s4 : Shared} {fp : List Addr} {cvs : List V}
theorem compCx_ok (S : CompScope X scope cl x caps) (I : Inv X pins σ H s) (hf : ∀ b ∈ fp, FpOk X pins H b ∧ b < s.heap.objs.size) : (compCx X scope cl (x :: caps.map (·.1)) fp pins s H).Ok where
  mod := I.ok.mod
  kind := S.kind
  glob := I.ok.glob
  blt := I.ok.blt
  above := Nat.le_refl _
  inj := fun y z c h1 h2 => I.ok.inj y z c (S.sub y c h1) (S.sub z c h2)
  has := fun y hy => S.has y hy
  cab := fun y c h _ => by cases h
  hd := I.ok.hd
  frames := I.ok.frames
  stk := .inl rfl
  exf := fun b hb => ⟨Nat.ne_of_lt (hf b hb).2, fun y c h => (hf b hb).1.2.2.2.2.1 y c (S.sub y c h)⟩
  bs := fun b o e => I.bs b o e
  bsz := Nat.le_trans (Nat.le_trans I.ok.bsz I.ok.above) (Nat.le_of_lt I.lt)
  noex := fun b o e hb => by
    rcases (hf b hb).1.2.2.2.1 with z | z
    · exact I.ok.noex b o e z
    · exact absurd (Nat.lt_of_lt_of_le (Heap.lt_size (I.ok.bs b o e).1) z) (Nat.lt_irrefl _)
  exfs := fun b hb z => by
    rcases List.mem_cons.mp (I.stkSub b z) with e | e
    · exact (hf b hb).1.2.1 e
    · exact (hf b hb).1.2.2.1 e
  funs := I.stack
  frf := I.stkFree
theorem compInv (S : CompScope X scope cl x caps) (I : Inv X pins σ H s) (hf : ∀ b ∈ fp, FpOk X pins H b ∧ b < s.heap.objs.size)
    (hlen : cvs.length = caps.length) (hcv : ∀ (k : Nat) y j, caps[k]? = some (y, j) → ∃ v, cvs[k]? = some v ∧ σ[j]? = some (some v))
    {h4 : Heap} {t4 : Nat} {m4 : Str → Option Value} (hns : h4.Ns s.heap.objs.size m4) (hk : ∀ b o, s.heap.get? b = some o → h4.get? b = some o) :
    Inv (compCx X scope cl (x :: caps.map (·.1)) fp pins s H) [] (none :: cvs.map some) H { s with heap := h4, toks := t4 } where
  ok := compCx_ok S I hf
  os := rfl
  bare := I.bare
  base := Un.kept hk
  loc := by
    obtain ⟨m, hn, hl⟩ := I.loc
    refine ⟨m4, hns, fun i y v h1 h2 h3 => ?_⟩
    cases i with
    | zero => cases h2
    | succ k =>
      have h1' : (caps.map (·.1))[k]? = some y := h1
      have h2' : (cvs.map some)[k]? = some (some v) := h2
      rw [List.getElem?_map] at h1' h2'
      cases e1 : caps[k]? with
      | none => rw [e1] at h1'; cases h1'
      | some q =>
        obtain ⟨y', j⟩ := q
        rw [e1] at h1'
        cases h1'
        obtain ⟨w1, e2, e3⟩ := hcv k y' j e1
        rw [e2] at h2'
        cases h2'
        obtain ⟨a1, a2, a3, a4⟩ := S.cap k y' j e1
        obtain ⟨u, r, l⟩ := hl j y' v a1 e3 a2
        refine ⟨u, r, ?_⟩
        rcases l with ⟨l, _⟩ | ⟨_, c, ec, o, ho, hd⟩
        · rcases a3 with a3 | a3 <;> rw [a3] at l <;> cases l
        · obtain ⟨c', ec'⟩ := S.has y' a4
          have := S.sub y' c' ec'
          rw [ec] at this
          cases this
          exact .inr ⟨a4, c, ec', o, hk c o ho, hd⟩
  cell := fun y c h => by
    obtain ⟨v, o, ho, hd⟩ := I.cell y c (S.sub y c h)
    exact ⟨v, o, hk c o ho, hd⟩
  free := I.hok.fresh (Nat.le_refl _)
  freeC := fun y c h => I.freeC y c (S.sub y c h)
  pin := fun p hp => by
    have hp' : p ∈ X.pn ++ pins := by
      have : p ∈ (X.pn ++ pins) ++ [] := hp
      rwa [List.append_nil] at this
    obtain ⟨e, n, ne, nf, d⟩ := I.pin p hp'
    refine ⟨hk _ _ e, n, Nat.ne_of_lt (Heap.lt_size e), fun z => ?_, d⟩
    rcases List.mem_cons.mp (I.stkSub p.1 z) with q | q
    · exact ne q
    · exact nf q
  hok := I.hok.kept hk
  len := by
    show (none :: cvs.map some).length = (x :: caps.map (·.1)).length
    simp [hlen]
end
section
variable {X : Cx} {scope : Scope} {cl : List (Str × Addr)} {x : Str} {caps : List (Str × Nat)} {px pos : Pos} {iter elt : Expr} {ifs : List Expr} {wi : TI} {tc : TT} {te : TE}
theorem comp_go {use : Option (Value → Sem Unit)} {Qv : Value → Shared → Prop} {pins : List (Addr × Obj)} {s : Shared} {σ : St} {H : Hp} {Q : VK} {pos' : Pos} (S : CompScope X scope cl x caps) (hc : X.calm = true) (hi : PI X (.Name x px) iter wi)
    (ht : ∀ fp pins s H, PIf (compCx X scope cl (x :: caps.map (·.1)) fp pins s H) ifs tc) (he : ∀ fp pins s H, PE (compCx X scope cl (x :: caps.map (·.1)) fp pins s H) elt te)
    (hs : ∀ y, foldedSetIterable iter X.env y = pure y) (I : Inv X pins σ H s) (h : tComp wi tc te caps σ H Q)
    (fin : ∀ (D C : Addr) (H' : Hp) (s' : Shared) x, Inv X pins σ H' s' → FpOk X pins H' C → (∃ m, s'.heap.Ns C m) → Q (.ref D) H' → compPost (model X.prog X.w) X.A X.xe use Qv (.ref D) C (.ok x) s') :
    wpAny (model X.prog X.w) X.A (comprehension (.ListComp elt [⟨.Name x px, iter, ifs, 0⟩] scope pos) scope X.env pos' (newList []) false (eval iter X.env) use) Qv X.xe s := by
  obtain ⟨cvs, hlen, hcv, h⟩ := h
  refine wpAny_comprehension_free (use := use) (cl := cl) rfl hs S.clos S.kind S.names ?_
  refine thn (hi pins s σ H _ I h) fun v s1 h1 => thn h1 fun itv s2 h2 => ?_
  obtain ⟨it, fp, tn, J, H2, rfl, I2, T, st2, f2, hD⟩ := h2
  refine wpAny_newObj_type ?_
  have hDn : H2 s2.heap.objs.size = none := I2.hok.fresh (Nat.le_refl _)
  obtain ⟨W, ⟨m0, w0⟩, turn⟩ := hD s2.heap.objs.size hDn
  generalize hD' : s2.heap.objs.size = D at *
  have I3 : Inv X pins σ (upd H2 D (.lst [])) { s2 with heap := s2.heap.push { cls := .type "list", data := .seq ([] : List Value).toArray } } :=
    I2.laid (t' := s2.toks) (o := .lst []) (fun b ob q => Heap.get?_push_of_some _ q) (Nat.le_of_eq hD') ⟨by decide, [], 0, .nil, by rw [← hD']; exact Heap.get?_push_size _ rfl⟩
  have st3 : tn 0 (s2.heap.push { cls := .type "list", data := .seq ([] : List Value).toArray }) := T.keep _ _ _ st2 fun b _ o e => Heap.get?_push_of_some _ e
  have f3 : ∀ b ∈ fp, FpOk X pins (upd H2 D (.lst [])) b ∧ b < (s2.heap.push { cls := .type "list", data := .seq ([] : List Value).toArray }).objs.size := fun b hb => by
    obtain ⟨o, ho, _⟩ := T.obj 0 _ st2 b hb
    have hlt : b < D := by rw [← hD']; exact Heap.lt_size ho
    obtain ⟨g0, g⟩ := f2 b hb
    refine ⟨⟨?_, g⟩, by rw [Heap.size_push, hD']; exact Nat.lt_succ_of_lt hlt⟩
    rw [upd_ne (Nat.ne_of_lt hlt)]
    exact g0
  generalize hs3 : ({ s2 with heap := s2.heap.push { cls := .type "list", data := .seq ([] : List Value).toArray } } : Shared) = s3 at *
  have hh3 : s3.heap = s2.heap.push { cls := .type "list", data := .seq ([] : List Value).toArray } := by rw [← hs3]
  rw [← hh3] at st3 f3
  generalize upd H2 D (.lst []) = H3 at *
  refine wpAny_newFunctionEnv S.ncell (by intro y hy; simp at hy) (fun h4 hns hsb => ?_) S.kind
  have hk4 : ∀ b o, s3.heap.get? b = some o → h4.get? b = some o := fun b o e => hsb.extBut b o (Nat.ne_of_lt (Heap.lt_size e)) (Heap.get?_push_of_some _ e)
  have I4 := compInv (t4 := s3.toks + ([] : List (Str × Value)).length) S I3 f3 hlen hcv hns hk4
  have st4 : tn 0 h4 := T.keep _ _ _ st3 fun b _ o e => hk4 b o e
  generalize hXc : compCx X scope cl (x :: caps.map (·.1)) fp pins s3 H3 = Xc at *
  have hcond : ∀ {σ' : St} {H' : Hp} {s' : Shared}, Inv Xc [] σ' H' s' → (∀ b ∈ fp, H' b = none) → ∀ b ∈ fp, FpOk Xc [] H' b := fun {σ' H' s'} I' hn b hb => by
    subst hXc
    obtain ⟨⟨_, g1, g2, g3, g4, g5⟩, hlt⟩ := f3 b hb
    refine ⟨hn b hb, Nat.ne_of_lt hlt, fun z => ?_, .inl hb, fun y c e => g4 y c (S.sub y c e), fun p hp => ?_⟩
    · rcases List.mem_cons.mp (I3.stkSub b z) with q | q
      · exact g1 q
      · exact g2 q
    · have : p ∈ (X.pn ++ pins) ++ [] := hp
      rw [List.append_nil] at this
      exact g5 p this
  -- back to the def's own frame
  have back : ∀ {σ' : St} {H' : Hp} {s' : Shared} {h' : Heap}, Inv Xc [] σ' H' s' → Heap.SameBut s3.heap.objs.size s'.heap h' → Inv X pins σ H' { s' with heap := h' } := fun {σ' H' s' h'} I' hsb' => by
    subst hXc
    have kb := SameBut_keep hsb'
    have neC : ∀ b o, s3.heap.get? b = some o → b ≠ s3.heap.objs.size := fun b o e => Nat.ne_of_lt (Heap.lt_size e)
    have B : Un (frs X.stack) fp H3 H' s3.heap s'.heap := I'.base
    refine I3.call' (ch := fp) (s' := { s' with heap := h' }) I'.os ⟨fun b o e n hb hx => kb b o (neC b o e) (B.keep b o e n hb hx), fun b o e n hb hx => ?_, B.free, fun b o e hx => ?_, B.tups, B.frzs, B.tbls⟩ (fun a o e => ?_) I'.bare fun b hb => ?_
    · obtain ⟨sl, q⟩ := B.slot b o e n hb hx
      exact ⟨sl, kb b _ (neC b o e) q⟩
    · obtain ⟨o', q⟩ := B.there b o e hx
      exact ⟨o', kb b o' (neC b o e) q⟩
    · have hC : H' s3.heap.objs.size = none := I'.free
      refine (I'.hok a o e).stay (fun c u hc q => kb c u ?_ q) (fun _ q => q) fun _ _ q => q
      rcases hc with z | z
      · rw [z]; exact ne_of_none e hC
      · exact ne_of_none z hC
    · obtain ⟨⟨_, g1, g2, g3, g4, g5⟩, _⟩ := f3 b hb
      exact ⟨g3, g1, g4, g5⟩
  have loopI : ∀ s5 : Shared, (∃ i σ' acc H', Inv Xc [] σ' H' s5 ∧ (∃ z, σ' = z :: cvs.map some) ∧ tn i s5.heap ∧ (∀ b ∈ fp, H' b = none) ∧ W i m0 acc H') →
      codeAny (model X.prog X.w) X.A (.compLoop (.ListComp elt [⟨.Name x px, iter, ifs, 0⟩] scope pos) 0 (.ref it) (.ref D) Xc.env) (compPost (model X.prog X.w) X.A X.xe use Qv (.ref D) s3.heap.objs.size) s5 := by
    intro s5 h5
    refine codeAny_loop rfl (fun n s' => ∃ i σ' acc H', Inv Xc [] σ' H' s' ∧ (∃ z, σ' = z :: cvs.map some) ∧ tn i s'.heap ∧ (∀ b ∈ fp, H' b = none) ∧ W i n acc H') (fun n s' hI => ?_) m0 h5
    show wpAny _ X.A ((compTurn (.ListComp elt [⟨.Name x px, iter, ifs, 0⟩] scope pos) 0 (.ref it) (.ref D) Xc.env).onRaise (fun e => do noteFrame e Xc.env; theTreesLotGoes e)) _ _ s'
    refine wpAny_noted ?_
    rw [compTurn_list]
    obtain ⟨i, σ', acc, H', I', ⟨z, rfl⟩, st', fr', w'⟩ := hI
    obtain ⟨hacc, alt⟩ := turn i n acc H' w'
    have hcX : Xc.calm = true := by subst hXc; exact hc
    refine wpAny_bind (wpAny_standAt (wpAny_bind ?_))
    rcases alt with ⟨stop, q⟩ | ⟨go, step⟩
    · have z1 := T.done Xc (by subst hXc; rfl) (by subst hXc; rfl) (by subst hXc; rfl) hcX i [] s' _ H' (notedBy (model X.prog X.w) X.A Xc.env fun e s'' => compPost (model X.prog X.w) X.A X.xe use Qv (.ref D) s3.heap.objs.size (.error e) s'') I' (hcond I' fr') st' stop
      have eA : Xc.A = X.A := by subst hXc; rfl
      rw [eA] at z1
      refine thn z1 fun r s6 ⟨hr, I6⟩ => ?_
      subst hr
      refine wpAny_pure ?_
      obtain ⟨m6, hn6, _⟩ := I6.loc
      have eL : Xc.env.locals = s3.heap.objs.size := by subst hXc; rfl
      have fr6 := I6.free
      rw [eL] at hn6 fr6
      exact fin D _ H' s6 _ (back I6 (Heap.SameBut.refl _ _)) (I3.fpOk (Nat.le_refl _) fr6) ⟨m6, hn6⟩ q
    · have z1 := T.item Xc (by subst hXc; rfl) (by subst hXc; rfl) (by subst hXc; rfl) hcX i [] s' _ H' (notedBy (model X.prog X.w) X.A Xc.env fun e s'' => compPost (model X.prog X.w) X.A X.xe use Qv (.ref D) s3.heap.objs.size (.error e) s'') I' (hcond I' fr') st' go
      have eA : Xc.A = X.A := by subst hXc; rfl
      have eP : Xc.prog = X.prog := by subst hXc; rfl
      have eW : Xc.w = X.w := by subst hXc; rfl
      rw [eA] at z1
      refine thn z1 fun r s6 ⟨u, hr, h6⟩ => ?_
      subst hr
      refine wpAny_bind (thn h6 fun _ s7 ⟨v7, H7, I7, r7, y7, st7, fr7⟩ => ?_)
      have I7' := I7.pinned (hcond I7 fr7) (T.obj _ _ st7)
      have hN : Xc.N = x :: caps.map (·.1) := by subst hXc; rfl
      have hloc : Xc.env.scope.names.lookup x = some .local := by subst hXc; exact lookup_relabel_local S.xloc
      -- the store
      have z2 := pg_name (X := Xc) (i := 0) (pos := px) (by rw [hN]; exact S.nd) (by rw [hN]; rfl) (.inl hloc) (.inr hloc) _ s7 _ H7 v7 u (fun σ8 H8 => σ8 = some v7 :: cvs.map some ∧ H8 = H7) I7' r7 ⟨rfl, rfl⟩
      rw [eP, eW, eA] at z2
      refine wpAny_bind (wpAny_mono z2 (fun _ s8 ⟨σ8, H8, I8, e8, e8'⟩ => ?_) fun _ _ f => by subst hXc; exact f.elim)
      subst e8 e8'
      -- the tests
      have z3 := ht fp pins s3 H3
      rw [hXc] at z3
      have z4 := z3 _ s8 _ _ _ I8 (step v7 _ y7)
      rw [eP, eW, eA] at z4
      refine wpAny_bind (wpAny_mono z4 (fun ok s9 ⟨H9, I9, q9⟩ => ?_) fun _ _ f => by subst hXc; exact f.elim)
      have again : ∀ {σ' : St} {acc' : List V} {H' : Hp} {s' : Shared} {m' : Nat}, Inv Xc ([] ++ pinsAt fp s7.heap) σ' H' s' → (∃ z, σ' = z :: cvs.map some) → m' < n → W (i + 1) m' acc' H' → ∃ m, m < n ∧ ∃ i σ' acc H', Inv Xc [] σ' H' s' ∧ (∃ z, σ' = z :: cvs.map some) ∧ tn i s'.heap ∧ (∀ b ∈ fp, H' b = none) ∧ W i m acc H' := fun {σ' acc' H' s' m'} I' hz hm w' => by
        refine ⟨m', hm, i + 1, σ', acc', H', I'.unpinned, hz, T.keep _ _ _ st7 fun b hb o e => (I'.pin (b, o) (List.mem_append_right _ (List.mem_append_right _ (mem_pinsAt hb e)))).1, fun b hb => ?_, w'⟩
        obtain ⟨o, e, d⟩ := T.obj _ _ st7 b hb
        exact (I'.pin (b, o) (List.mem_append_right _ (List.mem_append_right _ (mem_pinsAt hb e)))).2.1
      cases ok with
      | false =>
        obtain ⟨m', hm, w9⟩ := (show ∃ m', m' < n ∧ W (i + 1) m' acc H9 from by simpa using q9)
        exact wpAny_pure ⟨rfl, again I9 ⟨_, rfl⟩ hm w9⟩
      | true =>
        have q9' := (show te (some v7 :: cvs.map some) H9 fun y H3 => H3 D = some (.lst acc) ∧ acc.length < sizeLine ∧ ∃ m', m' < n ∧ W (i + 1) m' (acc ++ [y]) (upd H3 D (.lst (acc ++ [y]))) from by simpa using q9)
        have z5 := he fp pins s3 H3
        rw [hXc] at z5
        have z6 := z5 _ s9 _ H9 _ I9 q9'
        rw [eP, eW, eA] at z6
        refine wpAny_bind (wpAny_bind (wpAny_mono z6 (fun yv s10 ⟨y, H10, I10, r10, hl10, hz10, m', hm, w10⟩ => ?_) fun _ _ f => by subst hXc; exact f.elim))
        have z7 := mt_append (X := Xc) _ s10 _ H10 (.ref D) [y] (.ref D) [yv] (fun _ H11 => H11 = upd H10 D (.lst (acc ++ [y]))) I10 rfl (.cons r10 .nil) ⟨D, acc, y, rfl, rfl, hl10, hz10, rfl⟩
        rw [eP, eW, eA] at z7
        refine wpAny_bind (wpAny_mono z7 (fun _ s11 ⟨_, H11, I11, _, e11⟩ => ?_) fun _ _ f => by subst hXc; exact f.elim)
        subst e11
        exact wpAny_pure (wpAny_pure ⟨rfl, again I11 ⟨_, rfl⟩ hm w10⟩)
  have start5 : ∃ i σ' acc H', Inv Xc [] σ' H' { s3 with heap := h4, toks := s3.toks + ([] : List (Str × Value)).length } ∧ (∃ z, σ' = z :: cvs.map some) ∧ tn i h4 ∧ (∀ b ∈ fp, H' b = none) ∧ W i m0 acc H' :=
    ⟨0, _, [], H3, I4, ⟨_, rfl⟩, st4, fun b hb => (f3 b hb).1.1, w0⟩
  have L := loopI _ start5
  subst hXc
  exact codeAny_compStart_list L (T.self X.A 0 _ _ _ st4 L)
theorem pe_comp (S : CompScope X scope cl x caps) (hc : X.calm = true) (hi : PI X (.Name x px) iter wi)
    (ht : ∀ fp pins s H, PIf (compCx X scope cl (x :: caps.map (·.1)) fp pins s H) ifs tc) (he : ∀ fp pins s H, PE (compCx X scope cl (x :: caps.map (·.1)) fp pins s H) elt te)
    (hs : ∀ y, foldedSetIterable iter X.env y = pure y := by intro _; rfl) : PE X (.ListComp elt [⟨.Name x px, iter, ifs, 0⟩] scope pos) (tComp wi tc te caps) := by
  intro pins s σ H Q I h
  rw [eval_ListComp]
  refine comp_go (use := none) S hc hi ht he hs I h fun D C H' s' _ I' f n q => ?_
  obtain ⟨m, hn⟩ := n
  obtain ⟨f0, f1, f2, f3, f4, f5⟩ := f
  exact ⟨m, hn, fun h' hsb => ⟨.ref D, H', I'.turned (t' := s'.toks) (fun b o hb e => hsb.extBut b o hb e) f0 f1 f3 f4 f5, rfl, q⟩⟩
end
end L2
set_option Elab.async false
set_option linter.all false
set_option maxRecDepth 100000
set_option maxHeartbeats 0
namespace L2
open PySem PySem.Spec PyProof.Rows
def Its (z : Str) : It := ⟨fun i _ => i < z.cps.size, fun i H x H' => H' = H ∧ ∃ c, z.cps[i]? = some c ∧ x = .str ⟨#[c]⟩, fun i _ => z.cps.size ≤ i⟩
theorem turn_strA {P : Program} {w : World} {K : PySem.W.Frag} {tg : Expr} (z : Str) (t : Tok) (it : Addr) : Turn P w K tg (Its z) [it] it (fun i h => h.IsStrIter it "str_ascii_iterator" z t i) where
  mem := by simp
  obj := fun i h st b hb => by
    have e : b = it := by simpa using hb
    subst e
    obtain ⟨o, e, c, d⟩ := st
    exact ⟨o, e, fun v q => by rw [d] at q; cases q⟩
  keep := fun i h h' st k => by
    obtain ⟨o, e, r⟩ := st
    exact ⟨o, k it (by simp) o e, r⟩
  item := by
    intro X hP hw hK hc i pins s σ H E I hf st hg
    subst hP hw hK
    obtain ⟨f0, f1, f2, f3, f4, f5⟩ := hf it (by simp)
    have hx : z.cps[i]? = some (z.cps[i]'hg) := Array.getElem?_eq_getElem hg
    refine wpAny_pyNext_ascii_item st hx fun h' st' sb => ?_
    have I1 : Inv X pins σ H { s with heap := h', toks := s.toks + 1 } := I.turned (t' := s.toks + 1) (fun b o hb e => (sb.2 b hb).trans e) f0 f1 f3 f4 f5
    obtain ⟨o, e, c, d⟩ := id st'
    exact ⟨_, rfl, go_of (s := { s with heap := h', toks := s.toks + 1 }) e c d (by decide) ⟨.str ⟨#[z.cps[i]'hg]⟩, H, I1, ⟨_, rfl⟩, ⟨rfl, _, hx, rfl⟩, st', fun b hb => (hf b hb).1⟩⟩
  done := by
    intro X hP hw hK hc i pins s σ H E I hf st hg
    subst hP hw hK
    obtain ⟨f0, f1, f2, f3, f4, f5⟩ := hf it (by simp)
    exact wpAny_pyNext_ascii_end (I.ok.hd hc) st (by simp [show z.cps.size ≤ i from hg]) fun h' eb => ⟨rfl, I.turned (t' := s.toks) (fun b o hb e => eb b o hb e) f0 f1 f3 f4 f5⟩
  self := fun _ _ _ _ _ st h => wpAny_pyIter_striter_ascii st h
theorem turn_strW {P : Program} {w : World} {K : PySem.W.Frag} {tg : Expr} (z : Str) (t : Tok) (it : Addr) : Turn P w K tg (Its z) [it] it (fun i h => h.IsStrIter it "str_iterator" z t i) where
  mem := by simp
  obj := fun i h st b hb => by
    have e : b = it := by simpa using hb
    subst e
    obtain ⟨o, e, c, d⟩ := st
    exact ⟨o, e, fun v q => by rw [d] at q; cases q⟩
  keep := fun i h h' st k => by
    obtain ⟨o, e, r⟩ := st
    exact ⟨o, k it (by simp) o e, r⟩
  item := by
    intro X hP hw hK hc i pins s σ H E I hf st hg
    subst hP hw hK
    obtain ⟨f0, f1, f2, f3, f4, f5⟩ := hf it (by simp)
    have hx : z.cps[i]? = some (z.cps[i]'hg) := Array.getElem?_eq_getElem hg
    refine wpAny_pyNext_wide_item st hx fun h' st' sb => ?_
    have I1 : Inv X pins σ H { s with heap := h', toks := s.toks + 1 } := I.turned (t' := s.toks + 1) (fun b o hb e => (sb.2 b hb).trans e) f0 f1 f3 f4 f5
    obtain ⟨o, e, c, d⟩ := id st'
    exact ⟨_, rfl, go_of (s := { s with heap := h', toks := s.toks + 1 }) e c d (by decide) ⟨.str ⟨#[z.cps[i]'hg]⟩, H, I1, ⟨_, rfl⟩, ⟨rfl, _, hx, rfl⟩, st', fun b hb => (hf b hb).1⟩⟩
  done := by
    intro X hP hw hK hc i pins s σ H E I hf st hg
    subst hP hw hK
    obtain ⟨f0, f1, f2, f3, f4, f5⟩ := hf it (by simp)
    exact wpAny_pyNext_wide_end (I.ok.hd hc) st (by simp [show z.cps.size ≤ i from hg]) fun h' eb => ⟨rfl, I.turned (t' := s.toks) (fun b o hb e => eb b o hb e) f0 f1 f3 f4 f5⟩
  self := fun _ _ _ _ _ st h => wpAny_pyIter_striter_wide st h
def iStr (tl : TE) : TI := fun σ H R => tl σ H fun x H1 => ∃ z, x = .str z ∧ R (Its z) H1
theorem pi_str {X : Cx} {tg l : Expr} {tl : TE} (hl : PE X l tl) : PI X tg l (iStr tl) := by
  intro pins s σ H R I h
  refine thn (hl pins s σ H _ I h) fun v s1 ⟨x, H1, I1, r1, q1⟩ => ?_
  obtain ⟨z, e, q⟩ := q1
  subst e
  obtain ⟨t, rfl⟩ := r1
  have hfp : ∀ b ∈ [s1.heap.objs.size], FpOk X pins H1 b := fun b hb => by
    have e : b = s1.heap.objs.size := by simpa using hb
    subst e
    exact I1.fpOk (Nat.le_refl _) (I1.hok.fresh (Nat.le_refl _))
  cases ha : z.cps.all (· < 128)
  · refine wpAny_pyIter_wide ha ?_
    exact ⟨s1.heap.objs.size, [s1.heap.objs.size], _, _, H1, rfl, I1.kept (t' := s1.toks) fun b o e => Heap.get?_push_of_some _ e, turn_strW z t _, ⟨_, Heap.get?_push_size _ rfl, rfl, rfl⟩, hfp, q⟩
  · refine wpAny_pyIter_ascii ha ?_
    exact ⟨s1.heap.objs.size, [s1.heap.objs.size], _, _, H1, rfl, I1.kept (t' := s1.toks) fun b o e => Heap.get?_push_of_some _ e, turn_strA z t _, ⟨_, Heap.get?_push_size _ rfl, rfl, rfl⟩, hfp, q⟩
section
variable {σ : St} {H : Hp} {Q : VK} {D : Ends}
theorem wp_istr {tl : TE} {R : It → Hp → Prop} (h : tl σ H fun x H1 => ∃ z, x = .str z ∧ R (Its z) H1) : iStr tl σ H R := h
theorem wp_istr' {R : It → Hp → Prop} {z : Str} (h : R (Its z) H) : ∃ y, V.str z = .str y ∧ R (Its y) H := ⟨z, rfl, h⟩
theorem loop_str {z : Str} {g : TG} {tb : TS} (Pv : Nat → St → Hp → Prop) (h0 : Pv 0 σ H)
    (hs : ∀ i c σ H, z.cps[i]? = some c → Pv i σ H → g (.str ⟨#[c]⟩) σ H fun σ2 H2 => tb { D with nx := Pv (i + 1), ct := Pv (i + 1), bk := D.nx } σ2 H2) (hd : ∀ σ H, Pv z.cps.size σ H → D.nx σ H) : tLoop g tb D σ (Its z) H := by
  refine ⟨fun i m σ H => m = z.cps.size - i ∧ i ≤ z.cps.size ∧ Pv i σ H, ⟨z.cps.size, by simp, Nat.zero_le _, h0⟩, ?_⟩
  rintro i m σ H ⟨rfl, hi, p⟩
  by_cases hlt : i < z.cps.size
  · refine .inr ⟨hlt, Pv (i + 1), fun σ' H' p' => ⟨z.cps.size - (i + 1), by omega, rfl, hlt, p'⟩, fun x H' y => ?_⟩
    obtain ⟨e, c, hc, e2⟩ := y
    subst e e2
    exact hs i c σ _ hc p
  · have e : i = z.cps.size := by omega
    subst e
    exact .inl ⟨Nat.le_refl _, hd σ H p⟩
theorem comp_str {z : Str} {te : TE} {cvs : List V} (f : Nat → V) (hz : z.cps.size ≤ 100000) (hs : ∀ (c : Nat) H', c ∈ z.cps.toList → Same H H' → ∀ R : VK, R (f c) H' → te (some (.str ⟨#[c]⟩) :: cvs.map some) H' R)
    (hd : ∀ D H', Same H H' → H' D = some (.lst (z.cps.toList.map f)) → Q (.ref D) H') : compK tYes te cvs Q (Its z) H := by
  intro D hD
  refine ⟨fun i m acc H' => m = z.cps.size - i ∧ i ≤ z.cps.size ∧ Same H H' ∧ acc = (z.cps.toList.take i).map f ∧ H' D = some (.lst acc), ⟨_, rfl, Nat.zero_le _, Same.upd hD, by simp, upd_same⟩, ?_⟩
  rintro i m acc H' ⟨rfl, hi, hsm, rfl, hD'⟩
  refine ⟨hD', ?_⟩
  by_cases hlt : i < z.cps.size
  · refine .inr ⟨hlt, fun v H2 y => ?_⟩
    obtain ⟨rfl, c, hc, rfl⟩ := y
    unfold tYes
    dsimp only
    rw [if_pos rfl]
    refine hs c H2 ?_ hsm _ ?_
    · rw [← Array.getElem?_toList] at hc
      exact List.mem_of_getElem? hc
    · have he : z.cps.toList[i]? = some c := by rw [Array.getElem?_toList]; exact hc
      have htk : (z.cps.toList.take (i + 1)).map f = (z.cps.toList.take i).map f ++ [f c] := by
        rw [List.take_add_one, he]; simp
      refine ⟨hD', ?_, _, ?_, rfl, hlt, ?_, htk.symm, upd_same⟩
      · rw [List.length_map, List.length_take]
        have := sizeLine_eq
        omega
      · omega
      · intro b o e
        by_cases hb : b = D
        · subst hb; rw [hD] at e; cases e
        · rw [upd_ne hb]; exact hsm b o e
  · have e : i = z.cps.size := by omega
    subst e
    refine .inl ⟨Nat.le_refl _, hd D H' hsm ?_⟩
    rw [hD']
    congr 3
    exact List.take_of_length_le (by simp)
end
def rAll : List V → Hp → VK → Prop := fun xs H Q => ∃ (a : Addr) (bs : List Bool), xs = [.ref a] ∧ H a = some (.lst (bs.map V.bl)) ∧ Q (.bl (bs.all id)) H
theorem call_all {X : Cx} (hc : X.calm = true) : CallR X (.builtin "all") rAll := by
  intro pins s σ H xs us Q I r h
  obtain ⟨a, bs, rfl, ha, q⟩ := h
  obtain ⟨u, rfl, ru⟩ := vals1 r
  cases ru
  obtain ⟨its, rv, p, hz⟩ := I.list (.inl (.inl ha))
  have hl := rv.length
  rw [List.length_map] at hl
  have hab : a < s.heap.objs.size := I.hok.lt ha
  refine call_all_walk (wpAny_pyIter_list p.isList ?_)
  refine ⟨s.heap.objs.size, _, _, _, _, _, fun i => bs.getD i true, rfl, Walks.list (A := X.A.in1) (by first | exact I.ok.hd hc | simpa [Around.in1] using I.ok.hd hc) s.heap.objs.size a (Nat.ne_of_lt hab) its.toArray, ?_, ?_, fun h' tk hk => ?_⟩
  · exact ⟨⟨_, Heap.get?_push_size _ rfl, rfl, rfl⟩, p.isList.at fun o e => Heap.get?_push_of_some _ e⟩
  · intro i v s' Q' E' hv hq
    have hv' : its[i]? = some v := by simpa using hv
    have hi : i < its.length := (List.getElem?_eq_some_iff.mp hv').1
    have hb : (bs.map V.bl)[i]? = some (V.bl (bs[i]'(by omega))) := by rw [List.getElem?_map, List.getElem?_eq_getElem (by omega)]; rfl
    obtain ⟨u, e1, e2⟩ := rv.get hb
    rw [hv'] at e1
    cases e1
    have e2' : v = Value.bool (bs[i]'(by omega)) := e2
    subst e2'
    refine wpAny_truthy_bool ?_
    have e3 : bs.getD i true = bs[i]'(by omega) := by simp [List.getD, List.getElem?_eq_getElem (show i < bs.length by omega)]
    have hq' : Q' (bs.getD i true) s' := hq
    rw [e3] at hq'
    exact hq'
  · refine ⟨.bl (bs.all id), H, I.kept (t' := tk) fun b u e => hk b u (fun z => ?_) (Heap.get?_push_of_some _ e), ?_, q⟩
    · have : b = s.heap.objs.size := by simpa using z
      exact absurd (Heap.lt_size e) (by rw [this]; exact Nat.lt_irrefl _)
    · show _ = Value.bool _
      have : its.toArray.size = bs.length := by simp [hl]
      rw [this]
      congr 1
      clear q ha rv hz hl p hab hk this r
      induction bs with
      | nil => rfl
      | cons b bs ih => rw [List.length_cons, List.range_succ_eq_map, List.all_cons, List.all_map, List.all_cons, ← ih]; rfl
theorem relabel_same {scope : Scope} {env : Env} (h : ∀ y ∈ scope.names, y.2 ≠ .free ∧ y.2 ≠ .cell) : (relabel scope env).names = scope.names := by
  unfold relabel
  exact map_eq_self fun y hy => by
    obtain ⟨n, k⟩ := y
    have : (k == NameKind.free) = false := by simpa using (h _ hy).1
    simp [this]
theorem compScope0 {X : Cx} {scope : Scope} {x : Str} (kind : scope.kind = .function) (h : ∀ y ∈ scope.names, y.2 ≠ .free ∧ y.2 ≠ .cell) (names : ∀ y ∈ scope.names, y.2 = .local → scope.names.lookup y.1 = some .local) (xl : scope.names.lookup x = some .local) : CompScope X scope [] x [] where
  kind := kind
  clos := closureFor_none fun y hy => (h y hy).1
  ncell := fun y hy => (h y hy).2
  names := names
  xloc := xl
  sub := fun y c e => by cases e
  has := fun y hy => by
    rw [relabel_same h] at hy
    rcases hy with e | e
    · exact absurd rfl (h _ (PySem.mem_of_lookup e)).2
    · exact absurd rfl (h _ (PySem.mem_of_lookup e)).1
  cap := fun k y j e => by simp at e
  nd := by simp
theorem wp_comp0 {σ : St} {H : Hp} {Q : VK} {wi : TI} {tc : TT} {te : TE} (h : wi σ H (compK tc te [] Q)) : tComp wi tc te [] σ H Q := ⟨[], rfl, fun k y j e => by simp at e, h⟩
def rInS : R2 := fun x y H Q => ∃ i j, x = .str i ∧ y = .str j ∧ Q (.bl (!(Builtin.Str.occurrences j i 0 j.length 1).isEmpty)) H
theorem op_inS {X : Cx} : OpR X (compareOp .In) rInS := op_in_str
theorem wp_inS {H : Hp} {Q : VK} {i j : Str} (h : Q (.bl (!(Builtin.Str.occurrences j i 0 j.length 1).isEmpty)) H) : rInS (.str i) (.str j) H Q := ⟨i, j, rfl, rfl, h⟩
theorem atI_mem {α : Type} {xs : List α} {i : Int} {v : α} (h : atI xs i = some v) : v ∈ xs := by
  obtain ⟨j, _, e, _⟩ := atI_get h
  exact List.mem_of_getElem? e
end L2
set_option Elab.async false
set_option linter.all false
set_option maxRecDepth 100000
set_option maxHeartbeats 0
namespace L2
open PySem PySem.Spec PyProof.Rows
section
variable {σ : St} {H : Hp} {Q : VK} {K : PySem.W.Frag} {a b : Addr} {xs ys : List V} {v : V} {j : Int}
theorem wp_lenL (ha : SqL K H a xs) (h : Q (.int xs.length) H) : rLenQ K [.ref a] H Q := ⟨a, xs, rfl, .inl ha, h⟩
end
theorem sq_of {K : PySem.W.Frag} {H : Hp} {a : Addr} {xs : List V} (h : H a = some (.lst xs)) : SqL K H a xs := .inl (.inl h)
theorem wp_ixAny {H : Hp} {Q : VK} {K : PySem.W.Frag} {a : Addr} {xs : List V} {j : Int} (ha : SqL K H a xs) (h0 : 0 ≤ j) (h1 : j < xs.length) (h : ∀ v, v ∈ xs → Q v H) : rIxL K (.ref a) (.int j) H Q := by
  obtain ⟨v, hv⟩ := atI_some h0 h1
  exact ⟨a, xs, j, v, rfl, rfl, ha, hv, h v (atI_mem hv)⟩
end L2
set_option Elab.async false
set_option linter.all false
set_option maxRecDepth 100000
set_option maxHeartbeats 0
namespace L2
open PySem PySem.Spec PyProof.Rows
def KD (h h' : Heap) : Prop := ∀ a o, h.get? a = some o → ∃ o', h'.get? a = some o' ∧ o'.dict = o.dict
theorem KD.refl (h : Heap) : KD h h := fun a o e => ⟨o, e, rfl⟩
theorem KD.trans {h h1 h2 : Heap} (k : KD h h1) (l : KD h1 h2) : KD h h2 := fun a o e => by
  obtain ⟨o1, e1, d1⟩ := k a o e
  obtain ⟨o2, e2, d2⟩ := l a o1 e1
  exact ⟨o2, e2, d2.trans d1⟩
theorem get_alive {h : Heap} {a : Addr} {o : Obj} (e : h.get? a = some o) : o.isFreed = false := by
  unfold Heap.get? at e
  split at e
  · cases e
  · rename_i x q
    cases hd : o.data <;> first | (unfold Obj.isFreed; split; (rename_i z; simp_all); rfl) | skip
def Df (f : Obj → Obj) : Prop := ∀ o, (f o).dict = o.dict ∧ (o.isFreed = false → (f o).isFreed = false)
theorem KD.upd {h : Heap} {a : Addr} {f : Obj → Obj} (hf : Df f) : KD h (h.update a f) := fun b o e => by
  by_cases q : a = b
  · subst q
    exact ⟨f o, Heap.get?_update_self f e ((hf o).2 (get_alive e)), (hf o).1⟩
  · exact ⟨o, by rw [Heap.get?_update_other h f q]; exact e, rfl⟩
theorem df_map (g : Array Value → Array Value) : Df (Obj.mapFields g) := fun o => by
  obtain ⟨c, d, dt, sl⟩ := o
  cases dt <;> exact ⟨rfl, fun q => q⟩
theorem df_slots (g : Obj → Array (Option Value)) : Df fun o => { cls := o.cls, dict := o.dict, data := o.data, slots := g o } := fun o => by
  obtain ⟨c, d, dt, sl⟩ := o
  cases dt <;> exact ⟨rfl, fun q => q⟩
theorem KD.push {h : Heap} {u : Obj} : KD h (h.push u) := fun b o e => ⟨o, Heap.get?_push_of_some u e, rfl⟩
inductive Kd {α : Type} : Sem α → Prop
  | pure (a : α) : Kd (.pure a)
  | raise (e : Value) : Kd (.raise e)
  | uns (x : String) : Kd (.unsupported x)
  | rule {t : String} {k : Unit → Sem α} : Kd (k ()) → Kd (.rule t k)
  | at {p : Pos} {k : Unit → Sem α} : Kd (k ()) → Kd (.at p k)
  | load {a : Addr} {v : Option Value} {k : Obj → Sem α} : (∀ o, Kd (k o)) → Kd (.load a v k)
  | upd {a : Addr} {v : Option Value} {f : Obj → Obj} {k : Unit → Sem α} : Df f → Kd (k ()) → Kd (.update a v f k)
  | alloc {o : Obj} {k : Addr → Sem α} : (∀ a, Kd (k a)) → Kd (.alloc o k)
  | alive {a : Addr} {k : Option Obj → Sem α} : (∀ o, Kd (k o)) → Kd (.loadIfAlive a k)
  | point {l : List Value} {k : Unit → Sem α} : Kd (k ()) → Kd (.point l k)
  | fresh {k : Tok → Sem α} : (∀ t, Kd (k t)) → Kd (.fresh k)
  | ask {k : Setting → Sem α} : (∀ t, Kd (k t)) → Kd (.ask k)
  | handled {b : Bool} {k : Option Value → Sem α} : (∀ t, Kd (k t)) → Kd (.handled b k)
  | stack {k : List (Code × Pos) → Sem α} : (∀ t, Kd (k t)) → Kd (.stack k)
  | thread {k : Nat → Sem α} : (∀ t, Kd (k t)) → Kd (.thread k)
theorem Kd.bind {α β : Type} {m : Sem α} {f : α → Sem β} (k : Kd m) (l : ∀ a, Kd (f a)) : Kd (m >>= f) := by
  induction k with
  | pure a => exact l a
  | raise e => exact .raise e
  | uns x => exact .uns x
  | rule _ ih => exact .rule ih
  | «at» _ ih => exact .at ih
  | load _ ih => exact .load ih
  | upd hf _ ih => exact .upd hf ih
  | alloc _ ih => exact .alloc ih
  | alive _ ih => exact .alive ih
  | point _ ih => exact .point ih
  | fresh _ ih => exact .fresh ih
  | ask _ ih => exact .ask ih
  | handled _ ih => exact .handled ih
  | stack _ ih => exact .stack ih
  | thread _ ih => exact .thread ih
theorem Kd.wp {α : Type} {M : Model} {Γ : PySem.Ctx} {t : Sem α} (k : Kd t) : ∀ {Q : α → Pos → Shared → Prop} {E : Value → Pos → Shared → Prop} {p : Pos} {s : Shared} {h : Heap}, KD h s.heap → Sem.wp M Γ t Q E p s →
    Sem.wp M Γ t (fun a p' s' => Q a p' s' ∧ KD h s'.heap) (fun e p' s' => E e p' s' ∧ KD h s'.heap) p s := by
  induction k with
  | pure a => exact fun d q => ⟨q, d⟩
  | raise e => exact fun d q => ⟨q, d⟩
  | uns x => exact fun d q => q.elim
  | rule _ ih => exact fun d q => ih d q
  | «at» _ ih => exact fun d q => ih d q
  | load _ ih => exact fun d ⟨o, e, q⟩ => ⟨o, e, ih o d q⟩
  | upd hf _ ih => exact fun d ⟨e, q⟩ => ⟨e, ih (d.trans (KD.upd hf)) q⟩
  | alloc _ ih => exact fun d q => ih _ (d.trans KD.push) q
  | alive _ ih => exact fun d q => ih _ d q
  | point _ ih => exact fun d q => ih d q
  | fresh _ ih => exact fun d q => ih _ d q
  | ask _ ih => exact fun d q => ih _ d q
  | handled _ ih => exact fun d q => ih _ d q
  | stack _ ih => exact fun d q => ih _ d q
  | thread _ ih => exact fun d q => ih _ d q
theorem Kd.any {α : Type} {M : Model} {A : Around} {t : Sem α} {Q : α → Shared → Prop} {E : Value → Shared → Prop} {s : Shared} (k : Kd t) (h : wpAny M A t Q E s) : wpAny M A t (fun a s' => Q a s' ∧ KD s.heap s'.heap) (fun e s' => E e s' ∧ KD s.heap s'.heap) s :=
  fun Γ p i => k.wp (KD.refl _) (h Γ p i)
theorem kd_ite {α : Type} {c : Prop} [Decidable c] {m n : Sem α} (h : Kd m) (k : Kd n) : Kd (if c then m else n) := by
  split
  · exact h
  · exact k
section
variable {a : Addr} {i n : Nat} {v x y : Value} {env : Env} {b : Bool}
theorem kd_load : Kd (load a) := .load fun o => .pure o
theorem kd_fieldsOf : Kd (fieldsOf v) := by
  unfold fieldsOf
  split
  · refine kd_load.bind fun o => ?_
    split
    · exact .pure _
    · exact .uns _
  · exact .uns _
theorem kd_field : Kd (field v i) := by
  unfold field
  refine kd_fieldsOf.bind fun o => ?_
  split
  · exact .pure _
  · exact .uns _
theorem kd_setField : Kd (setField v i x) := by
  unfold setField
  split
  · unfold updateField
    refine kd_load.bind fun o => ?_
    split
    · refine kd_ite ?_ (.uns _)
      exact .upd (df_map _) (.pure _)
    · exact .uns _
  · exact .uns _
theorem kd_setFlight {f : Option Addr} : Kd (setFlight v f) := by
  unfold setFlight
  exact kd_field.bind fun tb => kd_ite kd_setField (.pure _)
theorem kd_behind {l : List Env} : Kd (behindIsImport env l) := by
  unfold behindIsImport
  exact kd_ite (.pure _) (kd_ite (.pure _) (kd_field.bind fun _ => .pure _))
theorem kd_under : Kd underTheClaimsCaller := by
  unfold underTheClaimsCaller
  exact .stack fun _ => .pure _
theorem kd_kept {l : List Env} : Kd (keptBack env b l) := by
  unfold keptBack
  split
  · exact kd_ite (.pure _) (kd_under.bind fun _ => .pure _)
  · exact .pure _
theorem kd_ready : ∀ {l : List Env}, Kd (readyFrames l)
  | [] => .pure _
  | env :: l => by
    rw [readyFrames.eq_2]
    split
    · exact kd_load.bind fun o => kd_ite (.pure _) (kd_behind.bind fun _ => kd_kept.bind fun _ => .upd (df_slots _) kd_ready)
    · exact .uns _
theorem kd_frameOf : Kd (PySem.frameOf env) := by
  unfold PySem.frameOf frameEnvs frameObject
  refine Kd.bind (Kd.bind (.stack fun _ => .pure _) fun _ => .pure _) fun l => Kd.bind ?_ fun r => ?_
  · split
    · exact .pure _
    · exact kd_ready.bind fun _ => .pure _
  · split
    · exact .pure _
    · exact .uns _
theorem kd_place : Kd (entryPlaceOf a b) := by
  unfold entryPlaceOf
  refine Kd.bind (.stack fun _ => .pure _) fun l => ?_
  split
  · exact .pure _
  · exact .pure _
theorem kd_entry {l : List Value} {p q r u z : Value} : Kd (EntryCells.newEntry p q r u z l) := by
  unfold EntryCells.newEntry newFields newObj newObjAsIs
  refine kd_ite (.uns _) ?_
  exact Kd.bind (.alloc fun _ => .pure _) fun _ => .pure _
theorem kd_note : Kd (noteFrame v env) := by
  unfold noteFrame
  split
  · have jp : ∀ (f : Addr) (head : Value) (b : Bool), Kd (do
        let a ← PySem.frameOf env
        let pl ← entryPlaceOf f b
        let e ← EntryCells.newEntry head a Value.none (rawInt f) Value.none pl
        setField v 1 e) := fun f head b => kd_frameOf.bind fun _ => kd_place.bind fun _ => kd_entry.bind fun _ => kd_setField
    refine kd_field.bind fun head => kd_ite (kd_field.bind fun _ => kd_ite (.pure _) (kd_setField.bind fun _ => jp _ _ _)) (jp _ _ _)
  · exact .uns _
theorem kd_leaving : Kd (leaving env v) := by
  unfold leaving
  exact kd_note.bind fun _ => kd_setFlight
end
section
variable {M : Model} {A : Around} {E : Value → Shared → Prop} {s : Shared} {base : Heap} {env : Env} {outer : List Env} {l : List Env} {L e : Addr} {cls a0 : Value} {Q : Unit → Shared → Prop}
theorem kd_then {t : Sem Unit} (k : Kd t) {R : Heap → Prop} (h : wpAny M A t (fun _ s' => ∃ h', s' = { s with heap := h' } ∧ R h') (fun _ _ => False) s) (q : ∀ h', R h' → KD s.heap h' → Q () { s with heap := h' }) : wpAny M A t Q E s := by
  refine wpAny_mono (k.any h) (fun _ s' ⟨⟨h', e, r⟩, d⟩ => ?_) fun _ _ z => z.1.elim
  subst e
  exact q h' r d
theorem looks_onD (hA : A.frames = some (env :: outer)) (hf : env.frame = some L) (fl : base.FlyingW (env :: outer) e cls a0 s.heap)
    (q : ∀ h' : Heap, base.HeldW (env :: outer) e cls a0 L h' → s.heap.UpToSlots h' → KD s.heap h' → Q () { s with heap := h' }) : wpAny M A (noteFrame (.ref e) env) Q E s :=
  kd_then (R := fun h' => base.HeldW (env :: outer) e cls a0 L h' ∧ s.heap.UpToSlots h') kd_note (wpAny_looks_onW hA hf fl fun h' f u => ⟨h', rfl, f, u⟩) fun h' r d => q h' r.1 r.2 d
theorem landsD (hl : base.HeldW l e cls a0 L s.heap)
    (q : ∀ h' : Heap, base.FlyingW l e cls a0 h' → s.heap.UpToSlots h' → KD s.heap h' → Q () { s with heap := h' }) : wpAny M A (setFlight (.ref e) none) Q E s :=
  kd_then (R := fun h' => base.FlyingW l e cls a0 h' ∧ s.heap.UpToSlots h') kd_setFlight (wpAny_landsW hl fun h' f u => ⟨h', rfl, f, u⟩) fun h' r d => q h' r.1 r.2 d
theorem lands_againD (hl : base.FlyingW l e cls a0 s.heap)
    (q : ∀ h' : Heap, base.FlyingW l e cls a0 h' → s.heap.UpToSlots h' → KD s.heap h' → Q () { s with heap := h' }) : wpAny M A (setFlight (.ref e) none) Q E s :=
  kd_then (R := fun h' => base.FlyingW l e cls a0 h' ∧ s.heap.UpToSlots h') kd_setFlight (lands_againW hl fun h' f u => ⟨h', rfl, f, u⟩) fun h' r d => q h' r.1 r.2 d
end
end L2
set_option Elab.async false
set_option linter.all false
set_option maxRecDepth 100000
set_option maxHeartbeats 0
namespace L2
open PySem PySem.Spec PyProof.Rows
def FlyE (h : Heap) (a : Addr) (cls a0 : Value) (T : Addr) (d : Option Addr) : Prop :=
  ∃ oe vs oT ts, h.get? a = some oe ∧ (oe.cls = cls ∧ vs[0]? = some a0) ∧ oe.data = .fields vs ∧ vs[1]? = some (.ref T) ∧ T ≠ a ∧ h.get? T = some oT ∧ oT.data = .fields ts ∧ ts[3]? = some .none ∧ oe.dict = d
theorem frames_hid {base h : Heap} {as : List Addr} : ∀ {l : List Env}, h.FunFrames base l → (∀ b ∈ frs l, b ∈ as) → h.FunFrames (PySem.W.hideAll h as) l
  | [], _, _ => trivial
  | env :: l, ⟨hk, ⟨L, o, hf, hn, ho, hd⟩, hr⟩, hs => by
    have hL : L ∈ frs (env :: l) := by unfold frs; rw [List.filterMap_cons, hf]; exact .head _
    refine ⟨hk, ⟨L, o, hf, PySem.W.hideAll_none _ (hs L hL), ho, hd⟩, frames_hid hr fun b hb => hs b ?_⟩
    unfold frs at hb ⊢
    rw [List.filterMap_cons, hf]
    exact .tail _ hb
def restOf (h : Heap) (a T : Addr) (l : List Env) : Heap := PySem.W.hideAll h (a :: T :: frs l)
theorem FlyE.flying {h base : Heap} {a T : Addr} {cls a0 : Value} {l : List Env} {d : Option Addr} (f : FlyE h a cls a0 T d) (hl : h.FunFrames base l) : Heap.FlyingW (restOf h a T l) l a cls a0 h := by
  obtain ⟨oe, vs, oT, ts, h1, h2, h3, h4, h5, h6, h7, h8, _⟩ := f
  exact ⟨fun b o e => PySem.W.of_hideAll _ e, PySem.W.hideAll_none _ (.head _), frames_hid hl (fun b hb => .tail _ (.tail _ hb)), oe, vs, T, oT, ts, h1, h2, h3, h4, PySem.W.hideAll_none _ (.tail _ (.head _)), h5, h6, h7, h8⟩
section
variable {P : Program} {w : World} {H : Hp} {h h' B : Heap} {a T : Addr} {cls a0 : Value} {l : List Env} {as : List Addr}
theorem hok_rest (ok : HOk P w H h) (hs : (PySem.W.hideAll h as).StaysIn h') (hn : ∀ b ∈ as, H b = none) : HOk P w H h' := fun b u q =>
  (ok b u q).stay (fun c v hc r => hs c v (PySem.W.hideAll_get _ r fun z => by
    have := hn c z
    rcases hc with e | e
    · rw [e, q] at this; cases this
    · rw [e] at this; cases this)) (fun _ r => r) fun _ _ r => r
theorem untracked_new (ok : HOk P w H h) (hn : ∀ b ∈ as, H b = none) {t : Addr} (ht : (PySem.W.hideAll h as).get? t = none) : H t = none := by
  cases q : H t with
  | none => rfl
  | some u =>
    by_cases m : t ∈ as
    · rw [hn t m] at q; cases q
    · obtain ⟨o, ho⟩ : ∃ o, h.get? t = some o := by
        have hlt := (ok t u q)
        cases u with
        | lst xs => obtain ⟨_, _, _, _, e⟩ := hlt; exact ⟨_, e⟩
        | tup xs => obtain ⟨_, _, _, o, e, _⟩ := hlt; exact ⟨_, e⟩
        | dK kvs => obtain ⟨_, _, _, _, o, _, _, e, _⟩ := hlt; exact ⟨_, e⟩
        | dT kvs => obtain ⟨_, _, _, _, o, _, _, e, _⟩ := hlt; exact ⟨_, e⟩
        | set S n => obtain ⟨o, _, _, _, e, _⟩ := hlt; exact ⟨_, e⟩
        | ins C dx fs => obtain ⟨_, _, _, e, _⟩ := hlt; exact ⟨_, e⟩
        | own y => obtain ⟨_, e⟩ := hlt; exact ⟨_, e⟩
        | xd fs => obtain ⟨_, ⟨_, _, _, e, _⟩, _⟩ := hlt; exact ⟨_, e⟩
        | rng lo hi => obtain ⟨_, _, _, e⟩ := hlt; exact ⟨_, e⟩
        | frz ob u => obtain ⟨e, _⟩ := hlt; exact ⟨_, e⟩
        | tbl ps => obtain ⟨_, e, _⟩ := hlt; exact ⟨_, e⟩
        | met f y => exact ⟨_, (show h.get? t = some _ from hlt)⟩
        | ext φ => obtain ⟨_, ⟨_, e⟩, _⟩ := hlt; exact ⟨_, e⟩
      rw [PySem.W.hideAll_get _ ho m] at ht
      cases ht
end
def CXE (P : Program) (w : World) : CXT := fun outer H s E e s' =>
  ∃ (a C T : Addr) (a0 : Value) (d : Option Addr) (H' : Hp), e = .ref a ∧ s'.os = s.os ∧ AllBare s'.gens ∧ Un (frs outer) [] H H' s.heap s'.heap ∧ HOk P w H' s'.heap ∧ H' a = none ∧ H' T = none ∧ s.heap.get? a = none ∧ s.heap.get? T = none ∧
    FlyE s'.heap a (.ref C) a0 T d ∧ E (.ref C) d H'
section
variable {P : Program} {w : World} {K : PySem.W.Frag} {mg : Str → Option Value} {base : Heap} {N : List Str} {qual : Str} {scope : Scope} {f : Addr} {cd : Value} {A : Around} {outer : List Env} {s : Shared} {H : Hp} {E : XK}
theorem un_out {s1 : Shared} {h' : Heap} {H1 : Hp} {pins : List (Addr × Obj)} {σ : St} {as : List Addr} (I : Inv (cxOf (CXE P w) P w K mg base N qual scope f cd A outer s H E) pins σ H1 s1) (hs : (PySem.W.hideAll s1.heap as).StaysIn h') (up : s1.heap.UpToSlots h')
    (has : ∀ b ∈ as, b ∈ frs outer ∨ s.heap.get? b = none) : Un (frs outer) [] H H1 s.heap h' := by
  have b0 : Un (frs outer) [] H H1 s.heap s1.heap := I.base
  have fr : ∀ b ∈ frs outer, ∃ o, s1.heap.get? b = some o ∧ ∀ vs, o.data ≠ .fields vs := fun b hb => (I.funs.mem hb).2
  refine ⟨fun b o e n hb hx => ?_, fun b o e n hb hx => ?_, b0.free, fun b o e hx => ?_, b0.tups, b0.frzs, b0.tbls⟩
  · refine hs b o (PySem.W.hideAll_get _ (b0.keep b o e n hb hx) fun z => ?_)
    rcases has b z with q | q
    · exact hb q
    · rw [e] at q; cases q
  · obtain ⟨sl, e1⟩ := b0.slot b o e n hb hx
    obtain ⟨o', e2, nf⟩ := fr b hb
    rw [e1] at e2
    cases e2
    obtain ⟨sl2, e3⟩ := up b _ e1 nf
    exact ⟨sl2, e3⟩
  · obtain ⟨o', e1⟩ := b0.there b o e hx
    by_cases m : b ∈ as
    · rcases has b m with q | q
      · obtain ⟨o2, e2, nf⟩ := fr b q
        obtain ⟨sl2, e3⟩ := up b _ e2 nf
        exact ⟨_, e3⟩
      · rw [e] at q; cases q
    · exact ⟨o', hs b o' (PySem.W.hideAll_get _ e1 m)⟩
end
section
variable {P : Program} {w : World} {K : PySem.W.Frag} {mg : Str → Option Value} {base : Heap} {N : List Str} {qual : Str} {scope : Scope} {f : Addr} {cd : Value} {A : Around} {outer : List Env} {s : Shared} {H : Hp} {E : XK} {pins : List (Addr × Obj)} {σ : St}
abbrev cxE (P : Program) (w : World) (K : PySem.W.Frag) (mg : Str → Option Value) (base : Heap) (N : List Str) (qual : Str) (scope : Scope) (f : Addr) (cd : Value) (A : Around) (outer : List Env) (s : Shared) (H : Hp) (E : XK) : Cx := cxOf (CXE P w) P w K mg base N qual scope f cd A outer s H E
theorem fr_split {b : Addr} (hb : b ∈ frs (envOfC qual scope s.heap.objs.size f cd :: outer)) : b = s.heap.objs.size ∨ b ∈ frs outer := by
  unfold frs at hb ⊢
  rw [List.filterMap_cons] at hb
  have e : (envOfC qual scope s.heap.objs.size f cd).frame = some s.heap.objs.size := rfl
  rw [e] at hb
  exact List.mem_cons.mp hb
theorem leave_own {H1 : Hp} {s1 : Shared} {e C : Addr} {oe : Obj} {vs : Array Value} {a0 : Value} {d : Option Addr} (I : Inv (cxE P w K mg base N qual scope f cd A outer s H E) pins σ H1 s1)
    (en : s.heap.get? e = none) (un : H1 e = none) (he : s1.heap.get? e = some oe) (hc : oe.cls = .ref C) (hd : oe.data = .fields vs) (h1 : vs[1]? = some .none) (h0 : vs[0]? = some a0) (dc : oe.dict = d) (q : E (.ref C) d H1) :
    (cxE P w K mg base N qual scope f cd A outer s H E).xe (.ref e) s1 := by
  have hstk := I.stack
  have nn : ∀ b, s1.heap.get? b = none → s.heap.get? b = none := fun b e => by
    cases z : s.heap.get? b with
    | none => rfl
    | some o =>
      obtain ⟨o', e1⟩ := (show Un (frs outer) [] H H1 s.heap s1.heap from I.base).there b o z (by simp)
      rw [e] at e1; cases e1
  have hfree : ∀ b ∈ e :: frs (envOfC qual scope s.heap.objs.size f cd :: outer), H1 b = none := fun b hb => by
    rcases List.mem_cons.mp hb with z | hb
    · rw [z]; exact un
    · exact I.stkFree b hb
  refine kd_then (R := fun h2 => Heap.LeftW (PySem.W.hideAll s1.heap (e :: frs (envOfC qual scope s.heap.objs.size f cd :: outer))) (envOfC qual scope s.heap.objs.size f cd :: outer) e oe.cls a0 s1.heap h2) kd_leaving
    (wpAny_leaving_firstW (env := envOfC qual scope s.heap.objs.size f cd) (outer := outer) I.ok.frames (frames_hid hstk fun b hb => .tail _ hb) rfl he (fun b o e => PySem.W.of_hideAll _ e) (PySem.W.hideAll_none _ (.head _)) hd h1 h0 fun h2 lf => ⟨h2, rfl, lf⟩) fun h2 lf kd => ?_
  obtain ⟨st, hfr, ⟨oe2, vs2, T', oT, ts, g1, g2, g3, g4, g5, g6, g7, g8, g9⟩, up⟩ := lf
  have up : s1.heap.UpToSlots h2 := up
  have g10 : oe2.dict = d := by
    obtain ⟨o', e1, d1⟩ := kd e oe he
    rw [g1] at e1
    cases e1
    exact d1.trans dc
  have hnT1 : s1.heap.get? T' = none := by
    cases q : s1.heap.get? T' with
    | none => rfl
    | some o =>
      by_cases m : T' ∈ e :: frs (envOfC qual scope s.heap.objs.size f cd :: outer)
      · rcases List.mem_cons.mp m with y | m
        · exact absurd y g6
        · obtain ⟨_, o2, e2, nf⟩ := hstk.mem m
          obtain ⟨sl, e3⟩ := up T' o2 e2 nf
          rw [g7] at e3
          cases e3
          exact absurd g8 (nf ts)
      · rw [PySem.W.hideAll_get _ q m] at g5
        cases g5
  have hunt : ∀ b, s1.heap.get? b = none → H1 b = none := fun b e => untracked_new (as := []) I.hok (fun _ z => nomatch z) e
  rw [hc] at g2
  refine ⟨e, C, T', a0, d, H1, rfl, I.os, I.bare, un_out I st up fun b hb => ?_, hok_rest I.hok st hfree, un, hunt T' hnT1, en, nn T' hnT1, ⟨oe2, vs2, oT, ts, g1, g2, g3, g4, g6, g7, g8, g9, g10⟩, q⟩
  rcases List.mem_cons.mp hb with z | hb
  · rw [z]; exact .inr en
  rcases fr_split hb with z | hb
  · rw [z]; exact .inr (Heap.get?_none_of_le (Nat.le_refl _))
  · exact .inl hb
end
end L2
set_option Elab.async false
set_option linter.all false
set_option maxRecDepth 100000
set_option maxHeartbeats 0
namespace L2
open PySem PySem.Spec PyProof.Rows
abbrev bmV : List Value := [.type "ValueError", .type "Exception", .type "BaseException", .type "object"]
structure FnAllE (P : Program) (w : World) (K : PySem.W.Frag) (mg : Str → Option Value) (base : Heap) (x : Str) (k : Nat) (ps : List Str) (sp : Sp) : Prop where
  ex : ∃ f fd, FnOk P w K mg base (CXE P w) k f fd ps sp ∧ mg x = some (.ref f) ∧ PySem.W.keepIn K (.ref f) = true ∧ Binds K fd ps []
section
variable {P : Program} {w : World} {K : PySem.W.Frag} {mg : Str → Option Value} {base : Heap}
theorem Fn.okE {x : Str} {st : Stmt} {N ps : List Str} {k : Nat} {sp : Sp} (F : Fn K mg x st ps) (S : FnScope N ps (defScope st)) (len : ∀ vs H Q E, sp vs H Q E → vs.length = ps.length)
    (hbody : ∀ (f : Addr) (cdv : Value) (A : Around) (outer : List Env) (s : Shared) (H : Hp) (vs : List V) (Q : VK) (E : XK), Room k (A.deeper (envOfC x (defScope st) s.heap.objs.size f cdv)) → sp vs H Q E →
      ∃ t, PSs (cxE P w K mg base N x (defScope st) f cdv A outer s H E) (defBody st) t ∧ t { nx := fun _ H' => Q .non H', rt := Q } (start N vs) H) : FnAllE P w K mg base x (k + 1) ps sp := by
  obtain ⟨f, fd, F, hm, hb⟩ := F.ex
  obtain ⟨oc, od, kV, doc, pm, an, cdv, ct, osl, rfl, lk, hcd⟩ := F.ex
  exact ⟨f, _, fn_of lk hcd S len fun A outer s H vs Q E hr hsp => hbody f cdv A outer s H vs Q E hr hsp, hm, F.kp, hb⟩
end
def tCallE (sp : Sp) (E : XK) (t : TA) : TE := fun σ H Q => t σ H fun vs H1 => sp vs H1 Q E
section
variable {X : Cx} {x : Str} {k n : Nat} {ps : List Str} {sp : Sp} {spC : Addr → Sp} {e o : Expr} {es : List Expr} {t : TA} {ta : TE} {p pos apos : Pos} {E : XK} {ok : Addr → Prop} {m : Str}
theorem pe_callE (F : FnAllE X.prog X.w X.K X.mg X.base x k ps sp) (hr : Room n X.A) (hx : Passes (CXE X.prog X.w) X E) (ha : PA X (e :: es) t) (hk : k ≤ n := by decide) (hg : Gl X x := by rfl) (hdb : (x == ("__debug__" : Str)) = false := by decide)
    (he : starEach (e :: es) X.env = (false, eval e X.env) :: starEach es X.env := by rfl) (hpl : (backTo pos (starEach es X.env)).any (·.1) = false := by rfl) : PE X (.Call (.Name x p) (e :: es) [] pos) (tCallE sp E t) := by
  obtain ⟨f, fd, G, hm, hkp, hb⟩ := F.ex
  intro pins s σ H Q I h
  refine pe_call G (hr.mono hk) hg hm hkp hb .nil hx ha hdb he hpl pins s σ H Q I ?_
  have z : tCall sp [] E t = tCallE sp E t := by
    unfold tCall tCallE
    funext σ H Q
    congr 1
    funext vs H1
    rw [List.append_nil]
  rw [z]; exact h
end
def Cx.hand (X : Cx) (a : Addr) : Cx := { X with A := X.A.mark (some (.ref a)), calm := false, xe := fun _ _ => False }
section
variable {X : Cx} {pins : List (Addr × Obj)} {σ : St} {H H' : Hp} {s : Shared} {a C : Addr}
theorem Inv.hand (I : Inv X pins σ H s) : Inv (X.hand a) pins σ H s :=
  ⟨⟨I.ok.mod, I.ok.kind, I.ok.glob, I.ok.blt, I.ok.above, I.ok.inj, I.ok.has, I.ok.cab, (fun z => nomatch z), I.ok.frames, I.ok.stk, I.ok.exf, I.ok.bs, I.ok.bsz, I.ok.noex, I.ok.exfs, I.ok.funs, I.ok.frf⟩, I.os, I.bare, I.base, I.loc, I.cell, I.free, I.freeC, I.pin, I.hok, I.len⟩
theorem Inv.unhand (ok : X.Ok) (I : Inv (X.hand a) pins σ H s) : Inv X pins σ H s := ⟨ok, I.os, I.bare, I.base, I.loc, I.cell, I.free, I.freeC, I.pin, I.hok, I.len⟩
def noSt (X : Cx) : St := List.replicate X.N.length none
theorem Inv.forget (I : Inv X pins σ H s) : Inv X pins (noSt X) H s := by
  refine ⟨I.ok, I.os, I.bare, I.base, ?_, I.cell, I.free, I.freeC, I.pin, I.hok, by unfold noSt; rw [List.length_replicate]⟩
  obtain ⟨m, hn, _⟩ := I.loc
  refine ⟨m, hn, fun i x v _ h2 => ?_⟩
  unfold noSt at h2
  rw [List.getElem?_replicate] at h2
  split at h2 <;> cases h2
def ExcO (a C : Addr) (d : Option Addr) (h : Heap) : Prop := ∃ o, h.get? a = some o ∧ o.cls = .ref C ∧ o.dict = d ∧ ∃ vs, o.data = .fields vs
def excHO (a C : Addr) (d : Option Addr) : HO := .ext (ExcO a C d)
theorem Inv.caught {s' : Shared} {o : Obj} {vs : Array Value} {d : Option Addr} (I : Inv X pins σ H s) (hos : s'.os = s.os) (hb : AllBare s'.gens) (un : Un (frs X.stack) [] H H' s.heap s'.heap) (hok : HOk X.prog X.w H' s'.heap) (na : s.heap.get? a = none) (ha : H' a = none)
    (ho : s'.heap.get? a = some o) (hoc : o.cls = .ref C) (hod : o.data = .fields vs) (hodd : o.dict = d) : Inv X pins σ (upd H' a (excHO a C d)) s' := by
  have I' := I.call' (ch := []) hos un hok hb (fun b z => absurd z (by simp))
  have na0 : X.s₀.heap.get? a = none ∨ a ∈ X.ex := by
    cases z : X.s₀.heap.get? a with
    | none => exact .inl rfl
    | some q =>
      by_cases m : a ∈ X.ex
      · exact .inr m
      · obtain ⟨o', e1⟩ := I.base.there a q z m
        rw [na] at e1; cases e1
  have nL : X.env.locals ≠ a := fun e => by
    obtain ⟨m, ⟨oL, es, ep, hoL, hdL, _⟩, _⟩ := I'.loc
    rw [e, ho] at hoL; cases hoL; rw [hod] at hdL; cases hdL
  have nt : ∀ b u, H' b = some u → b ≠ a := fun b u e z => by rw [z, ha] at e; cases e
  refine ⟨I'.ok, I'.os, I'.bare, ⟨I'.base.keep, I'.base.slot, fun b q e n hx => ?_, I'.base.there, fun b xs e => ?_, fun b q u e => ?_, fun b ps e => ?_⟩, I'.loc, I'.cell, ?_, fun x c e => ?_, fun p hp => ?_, fun b u e => ?_, I'.len⟩
  · rw [upd_ne]
    · exact I'.base.free b q e n hx
    · intro z
      rcases na0 with y | y
      · rw [z, y] at e; cases e
      · exact hx (by rw [z]; exact y)
  · have := I'.base.tups b xs e
    rw [upd_ne (nt b _ this)]; exact this
  · have := I'.base.frzs b q u e
    rw [upd_ne (nt b _ this)]; exact this
  · obtain ⟨more, h1⟩ := I'.base.tbls b ps e
    exact ⟨more, by rw [upd_ne (nt b _ h1)]; exact h1⟩
  · rw [upd_ne nL]; exact I'.free
  · rw [upd_ne]
    · exact I'.freeC x c e
    · intro z
      obtain ⟨v, oc, hoc', hdc⟩ := I'.cell x c e
      rw [z, ho] at hoc'; cases hoc'; rw [hod] at hdc; cases hdc
  · obtain ⟨e, n, ne, nf, d⟩ := I'.pin p hp
    refine ⟨e, ?_, ne, nf, d⟩
    rw [upd_ne]
    · exact n
    · intro z
      have := (I.pin p hp).1
      rw [z, na] at this; cases this
  · by_cases hba : b = a
    · subst hba
      rw [upd_same] at e
      cases e
      exact ⟨⟨o, ho, hoc, hodd, _, hod⟩, ⟨o, ho⟩, fun h1 h2 ⟨q, e1, e2⟩ k => ⟨q, k q e1, e2⟩⟩
    · rw [upd_ne hba] at e
      refine (I'.hok b u e).stay (fun _ _ _ r => r) (fun c r => ?_) fun c xs r => ?_
      · rw [upd_ne (nt c _ r)]; exact r
      · rw [upd_ne (nt c _ r)]; exact r
theorem Inv.unbound {i : Nat} {x : Str} {h' : Heap} {m : Str → Option Value} {u : Option Value} (I : Inv X pins σ H s) (hN : X.N.Nodup) (hi : X.N[i]? = some x) (hn : s.heap.Ns X.env.locals m) (hn' : h'.Ns X.env.locals (fun y => if y = x then u else m y)) (hs : Heap.SameBut X.env.locals s.heap h') :
    Inv X pins (σ.set i none) H { s with heap := h' } := by
  obtain ⟨m0, hn0, hl⟩ := id I.loc
  have cne := I.cne
  have em : m0 = m := by
    obtain ⟨o1, es1, ep1, a1, b1, c1, d1⟩ := hn0
    obtain ⟨o2, es2, ep2, a2, b2, c2, d2⟩ := hn
    rw [a1] at a2
    cases a2
    rw [b1] at b2
    cases b2
    funext y
    rw [← d1 y, ← d2 y]
  subst em
  obtain ⟨oL, _, _, hoL, _⟩ := id hn0
  refine ⟨I.ok, I.os, I.bare, ⟨fun b o e n hb hx => ?_, fun b o e n hb hx => ?_, I.base.free, fun b o e hx => ?_, I.base.tups, I.base.frzs, I.base.tbls⟩, ⟨_, hn', fun j y v' e1 e2 e3 => ?_⟩, fun y c e => ?_, I.free, I.freeC, fun p hp => ?_, fun b ob e => ?_, by simpa using I.len⟩
  · exact (hs.2 b (Nat.ne_of_lt (Nat.lt_of_lt_of_le (Heap.lt_size e) I.ok.above))).trans (I.base.keep b o e n hb hx)
  · obtain ⟨sl, e1⟩ := I.base.slot b o e n hb hx
    exact ⟨sl, (hs.2 b (Nat.ne_of_lt (Nat.lt_of_lt_of_le (Heap.lt_size e) I.ok.above))).trans e1⟩
  · obtain ⟨o', e1⟩ := I.base.there b o e hx
    exact ⟨o', (hs.2 b (Nat.ne_of_lt (Nat.lt_of_lt_of_le (Heap.lt_size e) I.ok.above))).trans e1⟩
  · by_cases hj : j = i
    · subst hj
      have hiσ : j < σ.length := by rw [I.len]; exact (List.getElem?_eq_some_iff.mp hi).1
      rw [List.getElem?_set_self hiσ] at e2
      cases e2
    · rw [List.getElem?_set_ne (Ne.symm hj)] at e2
      obtain ⟨u', r', q⟩ := hl j y v' e1 e2 e3
      refine ⟨u', r', ?_⟩
      rcases q with ⟨k, e⟩ | ⟨k, c, e, z⟩
      · refine .inl ⟨k, ?_⟩
        have : y ≠ x := fun e => hj (nodup_ix hN e1 (e ▸ hi))
        simp [this, e]
      · exact .inr ⟨k, c, e, z.sameBut hs (cne y c e)⟩
  · obtain ⟨w', z⟩ := I.cell y c e
    exact ⟨w', z.sameBut hs (cne y c e)⟩
  · obtain ⟨e, n, ne, nf, d⟩ := I.pin p hp
    exact ⟨(hs.2 p.1 ne).trans e, n, ne, nf, d⟩
  · refine (I.hok b ob e).stay (fun c w' hc q => (hs.2 c ?_).trans q) (fun _ q => q) fun _ _ q => q
    rintro rfl
    rcases hc with rfl | hc
    · rw [I.free] at e; cases e
    · rw [I.free] at hc; cases hc
end
end L2
set_option Elab.async false
set_option linter.all false
set_option maxRecDepth 100000
set_option maxHeartbeats 0
namespace L2
open PySem PySem.Spec PyProof.Rows
abbrev Cx.inTry (X : Cx) (pn : List (Addr × Obj)) (F : Value → Shared → Prop) : Cx := { X with pn := pn, xe := F }
section
variable {X : Cx} {pins : List (Addr × Obj)} {σ : St} {H H' : Hp} {s : Shared} {a C : Addr} {F : Value → Shared → Prop}
theorem Inv.toTry (I : Inv X pins σ H s) : Inv (X.inTry (X.pn ++ pins) F) [] σ H s :=
  ⟨⟨I.ok.mod, I.ok.kind, I.ok.glob, I.ok.blt, I.ok.above, I.ok.inj, I.ok.has, I.ok.cab, I.ok.hd, I.ok.frames, I.ok.stk, I.ok.exf, I.ok.bs, I.ok.bsz, I.ok.noex, I.ok.exfs, I.ok.funs, I.ok.frf⟩, I.os, I.bare, I.base, I.loc, I.cell, I.free, I.freeC, fun p hp => I.pin p (by
    have : p ∈ (X.pn ++ pins) ++ [] := hp
    rwa [List.append_nil] at this), I.hok, I.len⟩
theorem Inv.ofTry {pl : List (Addr × Obj)} (I : Inv (X.inTry (X.pn ++ pins) F) pl σ H s) : Inv X pins σ H s :=
  ⟨⟨I.ok.mod, I.ok.kind, I.ok.glob, I.ok.blt, I.ok.above, I.ok.inj, I.ok.has, I.ok.cab, I.ok.hd, I.ok.frames, I.ok.stk, I.ok.exf, I.ok.bs, I.ok.bsz, I.ok.noex, I.ok.exfs, I.ok.funs, I.ok.frf⟩, I.os, I.bare, I.base, I.loc, I.cell, I.free, I.freeC, fun p hp => I.pin p (List.mem_append_left _ hp), I.hok, I.len⟩
theorem SP.ofTry {D : Ends} {f : Flow} {s' : Shared} (h : SP (X.inTry (X.pn ++ pins) F) [] D f s') : SP X pins D f s' := by
  cases f with
  | next => obtain ⟨σ', H', I, q⟩ := h; exact ⟨σ', H', I.ofTry, q⟩
  | brk => obtain ⟨σ', H', I, q⟩ := h; exact ⟨σ', H', I.ofTry, q⟩
  | cont => obtain ⟨σ', H', I, q⟩ := h; exact ⟨σ', H', I.ofTry, q⟩
  | ret u => obtain ⟨v, σ', H', I, r, q⟩ := h; exact ⟨v, σ', H', I.ofTry, r, q⟩
end
def handD (D : Ends) (i : Nat) : Ends := { nx := fun σ H => D.nx (σ.set i none) H, rt := D.rt, bk := fun σ H => D.bk (σ.set i none) H, ct := fun σ H => D.ct (σ.set i none) H }
def handE (K : PySem.W.Frag) (CB : Addr) (i : Nat) (z : St) (ts : TS) (D : Ends) : XK := fun cls d H' => ∃ C, cls = .ref C ∧ PySem.W.exmOne K (.ref C) (.ref CB) = some true ∧ ∀ a, H' a = none → ts (handD D i) (z.set i (some (.ref a))) (upd H' a (excHO a C d))
def tTry (K : PySem.W.Frag) (CB : Addr) (i : Nat) (z : St) (tb : XK → TS) (ts : TS) : TS := fun D σ H => tb (handE K CB i z ts D) D σ H
section
variable {X : Cx} {body : List Stmt} {x n : Str} {np hpos pos : Pos} {b0 : Stmt} {suite : List Stmt} {CB : Addr} {i : Nat} {tb : XK → TS} {ts : TS} {L : Addr}
theorem ps_try (hm : X.mg x = some (.ref CB)) (hN : X.N.Nodup) (hi : X.N[i]? = some n) (hlo : X.env.scope.names.lookup n = some .local)
    (hb : ∀ (pn : List (Addr × Obj)) (F : Value → Shared → Prop) (E' : XK), Passes (CXE X.prog X.w) (X.inTry pn F) E' → PSs (X.inTry pn F) body (tb E')) (hs : ∀ a, PSs (X.hand a) (b0 :: suite) ts)
    (hgl : Gl X x := by rfl) (hdb : (x == ("__debug__" : Str)) = false := by decide) (hstk : X.stack = X.env :: X.outer := by rfl) (hfr : X.env.frame = some X.env.locals := by rfl) :
    PS X (.Try body [.ExceptHandler (some (.Name x np)) (some n) (b0 :: suite) hpos] [] [] pos) (tTry X.K CB i (noSt X) tb ts) := by
  intro pins s σ H D I h
  refine wpAny_Try_except ?_
  let EB : Value → Shared → Prop := fun e s₁ => wpAny (model X.prog X.w) X.A (noteFrame e X.env) (fun _ s₂ => wpAny (model X.prog X.w) X.A (setFlight e none) (fun _ s₃ => wpAny (model X.prog X.w) X.A (handleBy e X.env [.ExceptHandler (some (.Name x np)) (some n) (b0 :: suite) hpos]) (SP X pins D) X.xe s₃) X.xe s₂) X.xe s₁
  have pass : Passes (CXE X.prog X.w) (X.inTry (X.pn ++ pins) EB) (handE X.K CB i (noSt X) ts D) := by
    intro pl σ1 H1 s1 e s' I1 hc
    obtain ⟨a, C, T, a0, d, H', rfl, hos, hbare, un, hok, ha, hT, na, nT, fl, q⟩ := hc
    obtain ⟨C', eC, hex, hq⟩ := q
    cases eC
    have J1 : Inv X pins σ1 H1 s1 := I1.ofTry
    have Js := J1.call' (ch := []) hos un hok hbare (fun b z => absurd z (by simp))
    have hst := Js.stack
    have fl1 := fl.flying hst
    rw [hstk] at fl1 hst
    have hA : X.A.frames = some (X.env :: X.outer) := by rw [← hstk]; exact J1.ok.frames
    have hfree : ∀ b ∈ a :: T :: frs (X.env :: X.outer), H' b = none := fun b hb => by
      rcases List.mem_cons.mp hb with e | hb
      · rw [e]; exact ha
      · rcases List.mem_cons.mp hb with e | hb
        · rw [e]; exact hT
        · exact Js.stkFree b (by rw [hstk]; exact hb)
    show wpAny _ X.A (noteFrame (.ref a) X.env) _ _ s'
    refine looks_onD hA hfr fl1 fun h4 held4 up4 kd4 => ?_
    refine landsD held4 fun h5 fl5 up5 kd5 => ?_
    -- behind any of these steps: what is not the exception's own is as it was
    have after : ∀ h6 : Heap, (restOf s'.heap a T (X.env :: X.outer)).StaysIn h6 → s'.heap.UpToSlots h6 → Un (frs X.stack) [] H1 H' s1.heap h6 ∧ HOk X.prog X.w H' h6 := by
      intro h6 st6 up6
      refine ⟨⟨fun b o e nn hb hx => ?_, fun b o e nn hb hx => ?_, un.free, fun b o e hx => ?_, un.tups, un.frzs, un.tbls⟩, hok_rest hok st6 hfree⟩
      · have e1 := un.keep b o e nn hb hx
        refine st6 b o (PySem.W.hideAll_get _ e1 fun z => ?_)
        rcases List.mem_cons.mp z with y | z
        · rw [y, na] at e; cases e
        · rcases List.mem_cons.mp z with y | z
          · rw [y, nT] at e; cases e
          · exact hb (by rw [hstk]; exact z)
      · obtain ⟨sl, e1⟩ := un.slot b o e nn hb hx
        have m : b ∈ frs (X.env :: X.outer) := by rw [← hstk]; exact hb
        obtain ⟨_, o2, e2, nf⟩ := hst.mem m
        rw [e1] at e2
        cases e2
        obtain ⟨sl2, e3⟩ := up6 b _ e1 nf
        exact ⟨sl2, e3⟩
      · obtain ⟨o', e1⟩ := un.there b o e hx
        by_cases m : b ∈ a :: T :: frs (X.env :: X.outer)
        · rcases List.mem_cons.mp m with y | m
          · rw [y, na] at e; cases e
          · rcases List.mem_cons.mp m with y | m
            · rw [y, nT] at e; cases e
            · obtain ⟨_, o2, e2, nf⟩ := hst.mem m
              obtain ⟨sl2, e3⟩ := up6 b _ e2 nf
              exact ⟨_, e3⟩
        · exact ⟨o', st6 b o' (PySem.W.hideAll_get _ e1 m)⟩
    have up45 := up4.trans up5
    obtain ⟨un5, hok5⟩ := after h5 fl5.1 up45
    have J5 : Inv X pins σ1 H' { s' with heap := h5 } := J1.call' (ch := []) (s' := { s' with heap := h5 }) hos un5 hok5 hbare (fun b z => absurd z (by simp))
    obtain ⟨oe5, he5, hc5⟩ := fl5.there
    refine wpAny_handleBy_cons (codeAny_handlers_test ?_) (by intro q; cases q)
    refine ld_glob (X := X.hand a) (J5.hand) hgl hm ?_ hdb
    have LT : PySem.W.Looks (model X.prog X.w) h5 (typeOf (.ref a)) (.ref C) := hc5 ▸ (PySem.W.Looks.ld he5).andThen .now
    have LM := PySem.W.exm_one (M := model X.prog X.w) (h := h5) J5.kIn LT hex
    refine LM.here ?_
    refine codeAny_handlers_suite_as ?_
    refine lands_againD fl5 fun h6 fl6 up6 kd6 => ?_
    have up46 := up45.trans up6
    obtain ⟨un6, hok6⟩ := after h6 fl6.1 up46
    obtain ⟨oe6, vs6, he6, hc6, hd6, _⟩ := fl6.first
    have hdd6 : oe6.dict = d := by
      obtain ⟨oe0, _, _, _, e0, _, _, _, _, _, _, _, d0⟩ := fl
      obtain ⟨o', e1, d1⟩ := ((kd4.trans kd5).trans kd6) a oe0 e0
      have e2 := he6.symm.trans e1
      cases e2
      exact d1.trans d0
    have J6 := J1.caught (s' := { s' with heap := h6 }) (a := a) (C := C) hos hbare un6 hok6 na ha he6 hc6 hd6 hdd6
    have J6' := J6.forget
    refine store_ok (X := X.hand a) (v := .ref a) (J6'.hand) hN hi (.inl hlo) rfl (fun s7 J7 => ?_) (.inr hlo)
    have suite := hs a pins s7 _ _ (handD D i) J7 (hq a ha)
    refine wpAny_mono suite (fun f s8 h8 => ?_) fun _ _ z => z.elim
    -- the name goes
    have gone : ∀ {σ8 : St} {H8 : Hp}, Inv (X.hand a) pins σ8 H8 s8 → ∀ (R : Shared → Prop), (∀ s9, Inv X pins (σ8.set i none) H8 s9 → R s9) → wpAny (model X.prog X.w) X.A (do bindName X.env n .none; unbindBehindTheSuite X.env n hpos) (fun _ s9 => R s9) X.xe s8 := by
      intro σ8 H8 J8 R hR
      have K8 : Inv X pins σ8 H8 s8 := J8.unhand J1.ok
      refine wpAny_bind (wpAny_bindName (store_ok (v := .non) K8 hN hi (.inl hlo) rfl (fun s9 J9 => ?_) (.inr hlo)))
      unfold unbindBehindTheSuite
      refine wpAny_onRaise ?_
      obtain ⟨m, hn, hl⟩ := id J9.loc
      have hiσ : i < σ8.length := by rw [K8.len]; exact (List.getElem?_eq_some_iff.mp hi).1
      obtain ⟨u, ru, lk⟩ := hl i n .non hi (by rw [List.getElem?_set_self hiσ]) (.inl hlo)
      have hmn : m n = some u := by
        rcases lk with ⟨_, e⟩ | ⟨k, _⟩
        · exact e
        · rcases k with k | k <;> rw [show X.env.kindOf n = some .local from hlo] at k <;> cases k
      have hcls : (X.env.scope.kind == .class || (X.env.scope.kind == .module && X.env.locals != X.env.globals)) = false := by rw [J9.ok.kind]; rfl
      refine wpAny_unbindName_local hlo hn hmn hcls fun h' u' hn' hsb => ?_
      have J10 := J9.unbound hN hi hn hn' hsb
      rw [List.set_set] at J10
      exact hR _ J10
    cases f with
    | next => obtain ⟨σ8, H8, J8, q8⟩ := h8; exact gone J8 _ fun s9 J9 => ⟨_, _, J9, q8⟩
    | brk => obtain ⟨σ8, H8, J8, q8⟩ := h8; exact gone J8 _ fun s9 J9 => ⟨_, _, J9, q8⟩
    | cont => obtain ⟨σ8, H8, J8, q8⟩ := h8; exact gone J8 _ fun s9 J9 => ⟨_, _, J9, q8⟩
    | ret u => obtain ⟨v, σ8, H8, J8, r8, q8⟩ := h8; exact gone J8 _ fun s9 J9 => ⟨_, _, _, J9, r8, q8⟩
  have hb' := hb (X.pn ++ pins) EB _ pass [] s σ H D I.toTry h
  refine wpAny_mono hb' (fun f s1 q => ?_) fun _ _ z => z
  cases f with
  | next => exact wpAny_execs_nil (SP.ofTry q)
  | brk => exact SP.ofTry q
  | cont => exact SP.ofTry q
  | ret u => exact SP.ofTry q
end
end L2
set_option Elab.async false
set_option linter.all false
set_option maxRecDepth 100000
set_option maxHeartbeats 0
namespace L2
open PySem PySem.Spec PySem.Calls PyProof.Rows PySem.W PySem.Builtin PySem.Builtin.ObjectAttr PySem.Builtin.Getset_descriptor
section
variable {prog : Program} {w : World} {A : Around} {E : Value → Shared → Prop} {s : Shared} {K : PySem.W.Frag} {a C : Addr} {d : Option Addr} {R : Result → Shared → Prop}
structure ExcF (K : PySem.W.Frag) (C : Addr) : Prop where
  ga : PySem.W.findIn K (.ref C) "__getattribute__" = some (some (.builtin "BaseException.__getattribute__"))
  gt : PySem.W.findIn K (.ref C) "__getattr__" = some none
  cl : PySem.W.findIn K (.ref C) "__class__" = some (some (.builtin "object.__class__"))
  ob : PySem.W.mroIn K C (.type "object") = some true
  be : PySem.W.mroIn K C (.type "BaseException") = some true
  ci : (PySem.W.clsIn K C).isSome = true
theorem exc_class_get {tp : Value} (X : K.In s.heap) (x : ExcO a C d s.heap) (F : ExcF K C) (h : R (.ok (.ret (.ref C))) s) :
    codeAny (model prog w) A (.call (.builtin "getset_descriptor.__get__") ⟨[.builtin "object.__class__", .ref a, tp], []⟩) R s := by
  obtain ⟨hh, g, dr, t, os⟩ := s
  obtain ⟨o, ho, hc, _⟩ := x
  have L0 : Looks (model prog w) hh (typeOf (.ref a)) (.ref C) := hc ▸ (Looks.ld ho).andThen .now
  have L1 := looks_mroIn (M := model prog w) X F.ob
  refine codeAny_call_builtin KF.slot_gs.plain KF.entry_gs (KF.slot_gs.check _ _ _ _ _ _ _ _ KF.type_class (KF.args_gs _ _ _) ?_)
  unfold Builtin.«getset_descriptor.__get__» descrGet
  rw [dga_obj]
  refine wpAny_bind (wpAny_pure ?_)
  unfold descrGetter descrCheckInstance descrNameAndClass isInstance
  simp only [KF.owner_class]
  repeat lk
  refine ⟨Code.quiet_builtin _ (by decide +kernel), codeAny_builtin KF.entry_class ?_⟩
  unfold Builtin.«object.__class__» shownTypeOf
  repeat lk
  exact h
theorem exc_class_entry {tk : Tok} {Q : Fin → Shared → Prop} (X : K.In s.heap) (x : ExcO a C d s.heap) (F : ExcF K C) (h : Q (.done (.ret (.ref C))) s) : wpAny (model prog w) A (Builtin.«object.__getattribute__» ⟨[.ref a, .str "__class__" tk], []⟩) Q E s := by
  obtain ⟨hh, g, dr, t, os⟩ := s
  obtain ⟨o, ho, hc, _⟩ := id x
  have L0 : Looks (model prog w) hh (typeOf (.ref a)) (.ref C) := hc ▸ (Looks.ld ho).andThen .now
  have L1 := looks_findIn (M := model prog w) X F.cl
  have hT5 : (⟨hh, g, dr, t, os⟩ : Shared).TypeIs (.builtin "object.__class__") "getset_descriptor" := PySem.F.typeOf_object_class
  have f5 := PySem.F.typeOf_object_class
  have f6 := PySem.F.slot_gs_get.lookup
  have f7 := PySem.F.slot_gs_set.lookup
  repeat (any_goals (first | assumption | with_reducible refine Looks.at L0 ?_ | with_reducible refine Looks.at L1 ?_ | wp_step))
  refine exc_class_get X x F ?_
  exact wpAny_pure h
theorem exc_ga_check {M : Model} {nameV : Value} {Q : Unit → Shared → Prop} (X : K.In s.heap) (x : ExcO a C d s.heap) (F : ExcF K C) (hq : Q () s) : wpAny M A (checkBuiltinCall "BaseException.__getattribute__" ⟨[.ref a, nameV], []⟩) Q E s := by
  obtain ⟨hh, g, dr, t, os⟩ := s
  obtain ⟨o, ho, hc, _⟩ := id x
  have L0 : Looks M hh (typeOf (.ref a)) (.ref C) := hc ▸ (Looks.ld ho).andThen .now
  have L1 := looks_mroIn (M := M) X F.be
  have hk : builtinKind "BaseException.__getattribute__" = some .slot := by decide +kernel
  have hsplit : splitId "BaseException.__getattribute__" = some ("BaseException", "__getattribute__") := by decide +kernel
  have ha := PySem.F.args_bexc_ga (.ref a) nameV
  simp only [checkBuiltinCall, hk, hsplit]
  refine wpAny_bind ?_
  · unfold isInstance
    repeat (first | with_reducible refine Looks.at L0 ?_ | with_reducible refine Looks.at L1 ?_ | wp_step)
    exact hq
theorem exc_class_by {tk : Tok} {fill expr : Bool} {Q : Value → Shared → Prop} (X : K.In s.heap) (x : ExcO a C d s.heap) (F : ExcF K C) (hq : Q (.ref C) s) : wpAny (model prog w) A (getAttrBy (.ref a) (.str "__class__" tk) fill expr) Q E s := by
  obtain ⟨hh, g, dr, t, os⟩ := s
  obtain ⟨o, ho, hc, _⟩ := id x
  have L0 : Looks (model prog w) hh (typeOf (.ref a)) (.ref C) := hc ▸ (Looks.ld ho).andThen .now
  have L1 := looks_findIn (M := model prog w) X F.ga
  have L2 := looks_findIn (M := model prog w) X F.gt
  have f3 := PySem.F.attrBase_ValueError.ga.bind (.ref a)
  have hx0 : (expr && onTheHeap (Value.builtin "BaseException.__getattribute__")) = false := by cases expr <;> rfl
  have hx2 : (Value.builtin "BaseException.__getattribute__" == Value.builtin "object.__getattribute__") = false := by decide +kernel
  have hx1 : (onTheHeap (Value.ref C) && Value.builtin "BaseException.__getattribute__" == Value.builtin "object.__getattribute__") = false := by rw [hx2]; rfl
  repeat (any_goals (first | assumption | with_reducible refine Looks.at L0 ?_ | with_reducible refine Looks.at L1 ?_ | with_reducible refine Looks.at L2 ?_ | wp_step))
  refine codeAny_call_builtin PySem.F.attrBase_ValueError.ga.plain PySem.F.entry_bexc_ga (exc_ga_check X x F (exc_class_entry X x F ?_))
  repeat (any_goals (first | assumption | wp_step))
theorem exc_class {Q : Option Value → Shared → Prop} (X : K.In s.heap) (x : ExcO a C d s.heap) (F : ExcF K C) (hq : Q (some (.ref C)) { s with toks := s.toks + 1 }) : wpAny (model prog w) A (getAttr? (.ref a) "__class__") Q E s := by
  obtain ⟨hh, g, dr, t, os⟩ := s
  unfold getAttr? getAttrBy?
  refine wpAny_bind (wpAny_mkText (wpAny_bind (wpAny_attempt (exc_class_by (s := ⟨hh, g, dr, t + 1, os⟩) X x F ?_))))
  exact wpAny_pure hq
theorem kitx_exc (F : ExcF K C) : KitX K (.ref a) (.ref C) (ExcO a C d) where
  ty := fun M h _ ⟨o, ho, hc, _⟩ => hc ▸ (Looks.ld ho).andThen .now
  it := fun _ _ X _ => by
    have hcD := F.ci
    unfold PySem.W.clsIn at hcD
    split at hcD
    · rename_i c' d' cd' sl' ho
      intro A' Q' E' s' k q
      unfold isType loadHead
      exact wpAny_bind (wpAny_loadPart (k _ _ (X _ _ ho)) (wpAny_pure q))
    · cases hcD
  ne := fun h tp dd its n sl X htp => by
    have hcD := F.ci
    refine Bool.eq_false_iff.mpr fun q => ?_
    have e : C = tp := Value.ref.inj (beq_iff_eq.mp q)
    subst e
    unfold PySem.W.clsIn at hcD
    split at hcD
    · rename_i c' d' cd' sl' ho
      have z := (X _ _ ho).symm.trans htp
      cases z
    · cases hcD
  ca := fun X x k => exc_class X x F k
end
section
variable {X : Cx}
def rIsiE (K : PySem.W.Frag) : List V → Hp → VK → Prop := fun xs H Q => ∃ a C d c cv b, xs = [.ref a, c] ∧ H a = some (excHO a C d) ∧ ExcF K C ∧ clsVal c = some cv ∧ PySem.W.kitOne K (.ref C) cv = some b ∧ Q (.bl b) H
theorem call_isinstE : CallR X (.builtin "isinstance") (rIsiE X.K) := by
  intro pins s σ H xs us Q I r h
  obtain ⟨a, C, d, c, cv, b, rfl, ha, F, hc, hk, q⟩ := h
  obtain ⟨u, w', rfl, r1, r2⟩ := vals2 r
  cases r1
  have e : w' = cv := by
    cases c with
    | ty n => cases hc; exact r2
    | ref C => cases hc; exact r2
    | _ => cases hc
  subst e
  obtain ⟨x, _, _⟩ := (show ObjOk X.prog X.w H s.heap a (excHO a C d) from I.hok a _ ha)
  exact PySem.W.kia_one (kitx_exc F) I.kIn x hk (fun z => nomatch z) fun tk => ⟨.bl b, H, I.tok _, rfl, q⟩
end
end L2
set_option Elab.async false
set_option linter.all false
set_option maxRecDepth 100000
set_option maxHeartbeats 0
namespace L2
open PySem PySem.Spec PyProof.Rows
structure RoomH (k : Nat) (A : Around) : Prop where
  dp : A.depth + 3 * k + 5 < recursionLimit
  un : A.units + 16 * k + 200 < cLine
theorem RoomH.mono {j k : Nat} {A : Around} (r : RoomH k A) (h : j ≤ k) : RoomH j A := ⟨by have := r.dp; omega, by have := r.un; omega⟩
theorem RoomH.deeper {k : Nat} {A : Around} (r : RoomH (k + 1) A) (env : Env) : RoomH k (A.deeper env) :=
  ⟨by have := r.dp; show A.depth + 1 + 3 * k + 5 < _; omega, by have := r.un; show A.units + 3 + 16 * k + 200 < _; omega⟩
theorem RoomH.depth {k : Nat} {A : Around} (r : RoomH k A) : A.depth < recursionLimit := by have := r.dp; omega
theorem RoomH.units {k : Nat} {A : Around} (r : RoomH k A) : A.units + 64 < cLine := by have := r.un; omega
theorem Room.hand {k : Nat} {A : Around} {h : Option Value} (r : Room k A) : RoomH k (A.mark h) := ⟨r.dp, r.un⟩
theorem hu16H {A : Around} {k : Nat} (hr : RoomH k A) : A.units + 16 < cLine := Nat.lt_of_le_of_lt (Nat.add_le_add_left (by decide : 16 ≤ 64) _) hr.units
def cxH (CX : CXT) (P : Program) (w : World) (K : PySem.W.Frag) (mg : Str → Option Value) (base : Heap) (N : List Str) (qual : Str) (scope : Scope) (f : Addr) (cd : Value) (A : Around) (outer : List Env) (s : Shared) (H : Hp) (E : XK) : Cx := { cxOf CX P w K mg base N qual scope f cd A outer s H E with calm := false }
structure FnOkH (P : Program) (w : World) (K : PySem.W.Frag) (mg : Str → Option Value) (base : Heap) (CX : CXT) (k : Nat) (f : Addr) (fd : FuncData) (ps : List Str) (sp : Sp) : Prop where
  len : ∀ vs H Q E, sp vs H Q E → vs.length = ps.length
  run : ∀ (A : Around) (outer : List Env) (s : Shared) (H : Hp) (args : Args) (us : List Value) (vs : List V) (Q : VK) (E : XK), RoomH k A → Env0 P w K mg base A outer s H → BindsTo s fd args (ps.zip us) → Vals vs us → sp vs H Q E →
    codeAny (model P w) A (.call (.ref f) args) (CR CX outer P w H s Q E) s
theorem inv_startH {CX : CXT} {P : Program} {w : World} {K : PySem.W.Frag} {mg : Str → Option Value} {base : Heap} {N ps : List Str} {qual : Str} {scope : Scope} {f : Addr} {cd : Value} {A : Around} {outer : List Env} {s s1 : Shared} {H : Hp} {E : XK} {us : List Value} {vs : List V}
    (S : FnScope N ps scope) (e0 : Env0 P w K mg base A outer s H) (hl : vs.length = ps.length) (r : Vals vs us)
    (x : InCallC s s.heap.objs.size (bindL (envOfC qual scope s.heap.objs.size f cd).kindOf (ps.zip us) fun _ => none) (cellsFrom (s.heap.objs.size + 1) scope.names []) (bindC (envOfC qual scope s.heap.objs.size f cd).kindOf (ps.zip us) fun _ => none) s1) :
    Inv (cxH CX P w K mg base N qual scope f cd A outer s H E) [] (start N vs) H s1 := by
  have hpl : ps.length ≤ N.length := by have := congrArg List.length S.pre; rw [List.length_take] at this; omega
  obtain ⟨h1, tk, rfl, hk⟩ := x.done
  have noA : ∀ b : Addr, b ∉ (cxH CX P w K mg base N qual scope f cd A outer s H E).ex := fun b z => absurd (show b ∈ ([] : List Addr) from z) (by simp)
  refine ⟨⟨e0.mod, S.kind, rfl, rfl, Nat.le_refl _, fun y z c h1 h2 => ?_, fun y hy => ?_, fun y c _ h => ?_, (fun z => nomatch z), Around.frames_deeper e0.frames, .inr ⟨rfl, rfl⟩, fun b z => absurd z (noA b), e0.bs, e0.bsz, fun b _ _ => noA b, fun b z => absurd z (noA b), e0.funs, e0.frf⟩,
    rfl, e0.bare, Un.kept hk, ⟨_, x.toInCall.ns, fun i y v h1 h2 h3 => ?_⟩, fun y c h => ⟨_, x.cell y c h⟩, e0.hok.fresh (Nat.le_refl _), fun y c h => ?_, fun p hp => absurd (show p ∈ ([] : List (Addr × Obj)) from hp) (by simp), e0.hok.kept hk, ?_⟩
  · exact name_of_addr x.apart (PySem.mem_of_lookup h1) (PySem.mem_of_lookup h2)
  · have hy : scope.names.lookup y = some .cell ∨ scope.names.lookup y = some .free := hy
    rcases hy with hy | hy
    · exact cell_has hy
    · exact absurd rfl (S.nofree _ (PySem.mem_of_lookup hy))
  · exact Nat.le_of_lt (x.above y c (PySem.mem_of_lookup h))
  · have hi : i < vs.length := by
      unfold start at h2
      by_cases hi : i < vs.length
      · exact hi
      · rw [List.getElem?_append_right (by simpa using hi)] at h2
        rw [List.getElem?_replicate] at h2
        split at h2 <;> cases h2
    have ha : vs[i]? = some v := by
      unfold start at h2
      rw [List.getElem?_append_left (by simpa using hi), List.getElem?_map] at h2
      cases e : vs[i]? with
      | none => rw [e] at h2; cases h2
      | some a => rw [e] at h2; cases h2; rfl
    obtain ⟨u, hu, rv⟩ := r.get ha
    have hp : ps[i]? = some y := by
      rw [← S.pre, List.getElem?_take_of_lt (by omega)]; exact h1
    have ndP : ps.Nodup := by rw [← S.pre]; exact S.nd.sublist (List.take_sublist _ _)
    refine ⟨u, rv, ?_⟩
    rcases S.par y (List.mem_of_getElem? hp) with k | k
    · exact .inl ⟨k, bindL_get ndP hp hu k⟩
    · obtain ⟨c, e⟩ := cell_has (n := s.heap.objs.size + 1) k
      refine .inr ⟨.inl k, c, e, ?_⟩
      have q := x.cell y c e
      rw [bindC_get ndP hp hu (by show scope.names.lookup y ≠ _; rw [k]; decide)] at q
      exact q
  · exact e0.hok.fresh (Nat.le_of_lt (x.above y c (PySem.mem_of_lookup h)))
  · unfold start
    show _ = N.length
    rw [List.length_append, List.length_map, List.length_replicate]
    omega
theorem fn_ofH {CX : CXT} {P : Program} {w : World} {K : PySem.W.Frag} {mg : Str → Option Value} {base : Heap} {k : Nat} {f : Addr} {name qual : Str} {params : Arguments} {body : List Stmt} {scope : Scope} {dV kV doc pm cdv ct oc : Value} {an od : Option Addr}
    {osl : Array (Option Value)} {N ps : List Str} {sp : Sp} (lk : K.lookup f = some ⟨oc, od, .func (PySem.W.fnOf name qual params body scope dV kV doc pm an cdv ct), osl⟩) (hcd : PySem.W.codeIn K cdv qual = true) (S : FnScope N ps scope)
    (len : ∀ vs H Q E, sp vs H Q E → vs.length = ps.length)
    (hbody : ∀ (A : Around) (outer : List Env) (s : Shared) (H : Hp) (vs : List V) (Q : VK) (E : XK), RoomH k (A.deeper (envOfC qual scope s.heap.objs.size f cdv)) → sp vs H Q E →
      ∃ t, PSs (cxH CX P w K mg base N qual scope f cdv A outer s H E) body t ∧ t { nx := fun _ H' => Q .non H', rt := Q } (start N vs) H) :
    FnOkH P w K mg base CX (k + 1) f (PySem.W.fnOf name qual params body scope dV kV doc pm an cdv ct) ps sp := by
  refine ⟨len, fun A outer s H args us vs Q E hr e0 hb r hsp => ?_⟩
  have hl := len _ _ _ _ hsp
  have KX : K.In s.heap := e0.mod.kin.keeps fun b o e => (e0.bs b o e).1
  have lim : s.heap.NoLimit := e0.mod.nolimit.keeps fun b o e => (e0.bs b o e).1
  have hkind : ∀ y ∈ ps.zip us, scope.names.lookup y.1 = some .local ∨ (scope.names.lookup y.1 = some .cell ∧ ((cellsFrom (s.heap.objs.size + 1) scope.names []).lookup y.1).isSome = true) := fun ⟨n, v⟩ hy => by
    rcases S.par n (List.of_mem_zip hy).1 with q | q
    · exact .inl q
    · exact .inr ⟨q, PySem.W.cellsFrom_some _ _ _ (.inl q)⟩
  refine codeAny_call_function hr.depth (KX _ _ lk) rfl S.co S.gen rfl (PySem.W.codeRec_of KX hcd) (hb _ _ _ _ ?_)
  refine wpAny_newFunctionEnv_cells S.kind hkind fun env he s1 x => ?_
  subst he
  refine ⟨lim.keeps x.toInCall.keep, codeAny_func ?_⟩
  obtain ⟨t, ht, hq⟩ := hbody A outer s H vs Q E (hr.deeper _) hsp
  have I : Inv (cxH CX P w K mg base N qual scope f cdv A outer s H E) [] (start N vs) H s1 := inv_startH S e0 hl r x
  refine wpAny_mono (ht [] s1 (start N vs) H _ I hq) (fun fl s' hs => ?_) fun e s' hs => hs
  have fin : ∀ {σ' : St} {H' : Hp} {v : V} {u : Value}, Inv (cxH CX P w K mg base N qual scope f cdv A outer s H E) [] σ' H' s' → RelV v u → Q v H' → CE outer P w H s Q u s' :=
    fun {σ' H' v u} J rv q => ⟨v, H', J.os, J.bare, J.base, J.hok, rv, q⟩
  cases fl with
  | ret u =>
    obtain ⟨v, σ', H', J, rv, q⟩ := hs
    exact fin J rv q
  | next =>
    obtain ⟨σ', H', J, q⟩ := hs
    exact fin (v := V.non) (u := Value.none) J rfl q
  | brk =>
    obtain ⟨_, _, _, q⟩ := hs
    exact False.elim q
  | cont =>
    obtain ⟨_, _, _, q⟩ := hs
    exact False.elim q
structure FnAllH (P : Program) (w : World) (K : PySem.W.Frag) (mg : Str → Option Value) (base : Heap) (x : Str) (k : Nat) (ps : List Str) (sp : Sp) : Prop where
  ex : ∃ f fd, FnOkH P w K mg base CX0 k f fd ps sp ∧ mg x = some (.ref f) ∧ PySem.W.keepIn K (.ref f) = true ∧ Binds K fd ps []
section
variable {P : Program} {w : World} {K : PySem.W.Frag} {mg : Str → Option Value} {base : Heap}
theorem Fn.okH {x : Str} {st : Stmt} {N ps : List Str} {k : Nat} {sp : Sp} (F : Fn K mg x st ps) (S : FnScope N ps (defScope st)) (len : ∀ vs H Q E, sp vs H Q E → vs.length = ps.length)
    (hbody : ∀ (f : Addr) (cdv : Value) (A : Around) (outer : List Env) (s : Shared) (H : Hp) (vs : List V) (Q : VK) (E : XK), RoomH k (A.deeper (envOfC x (defScope st) s.heap.objs.size f cdv)) → sp vs H Q E →
      ∃ t, PSs (cxH CX0 P w K mg base N x (defScope st) f cdv A outer s H E).nox (defBody st) t ∧ t { nx := fun _ H' => Q .non H', rt := Q } (start N vs) H) : FnAllH P w K mg base x (k + 1) ps sp := by
  obtain ⟨f, fd, F, hm, hb⟩ := F.ex
  obtain ⟨oc, od, kV, doc, pm, an, cdv, ct, osl, rfl, lk, hcd⟩ := F.ex
  exact ⟨f, _, fn_ofH lk hcd S len fun A outer s H vs Q E hr hsp => let ⟨t, h, q⟩ := hbody f cdv A outer s H vs Q E hr hsp; ⟨t, h.nox, q⟩, hm, F.kp, hb⟩
end
section
variable {X : Cx} {x : Str} {k n : Nat} {ps : List Str} {sp : Sp} {e : Expr} {es : List Expr} {t : TA} {p pos : Pos}
theorem pe_callH (F : FnAllH X.prog X.w X.K X.mg X.base x k ps sp) (hr : RoomH n X.A) (ha : PA X (e :: es) t) (hk : k ≤ n := by decide) (hg : Gl X x := by rfl) (hdb : (x == ("__debug__" : Str)) = false := by decide)
    (he : starEach (e :: es) X.env = (false, eval e X.env) :: starEach es X.env := by rfl) (hpl : (backTo pos (starEach es X.env)).any (·.1) = false := by rfl) : PE X (.Call (.Name x p) (e :: es) [] pos) (tCall0 sp t) := by
  obtain ⟨f, fd, G, hm, hkp, hb⟩ := F.ex
  intro pins s σ H Q I h
  refine wpAny_Call_Name_kw (ld_glob I hg hm ?_ hdb)
  refine PySem.W.callWith_K (h₀ := X.base) I.ok.mod.kin hkp (thn (ha pos pins s σ H _ I h) fun us s1 ⟨vs, H1, I1, r, q⟩ => ⟨I1.kIn, ?_⟩) he hpl
  have hl : us.length = ps.length := by rw [← r.length]; exact G.len _ _ _ _ q
  have hb' := hb s1 us I1.kIn (by simpa using hl)
  rw [List.append_nil] at hb'
  refine wpAny_call (codeAny_mono (G.run X.A X.stack s1 H1 ⟨us, []⟩ us vs Q E0 (hr.mono hk) I1.env0 hb' r q) fun r s' hq => ?_)
  cases r with
  | error e => exact (hq : False).elim
  | ok fl =>
    cases fl with
    | ret u => exact I1.after hq
    | _ => exact (hq : False).elim
end
end L2
set_option Elab.async false
set_option linter.all false
set_option maxRecDepth 100000
set_option maxHeartbeats 0
namespace L2
open PySem PySem.Spec PySem.Calls PyProof.Rows PySem.W PySem.Builtin PySem.Builtin.ObjectAttr PySem.Builtin.Getset_descriptor
def exiIn (K : PySem.W.Frag) (C : Addr) (bmB : List Value) (newId : String) : Bool :=
  (List.lookup C K).any fun o => o.cls == Value.type "type" && (decide (o.slots.size = 6) && (o.slots[4]? == some (some (Value.builtin newId)) &&
    match o.data with
    | .cls c => c.mro.head? == some (Value.ref C) && (PySem.W.tailIn K bmB c.mro.tail && (PySem.W.nsOkIn K c.ns && c.hasDel == false))
    | _ => false))
theorem exi_obj {K : PySem.W.Frag} {h : Heap} {C : Addr} {bmB : List Value} {newId : String} (X : K.In h) (q : exiIn K C bmB newId = true) :
    ∃ bm N nm qn bs hd sn sub ab col dd k0 k1 k2 k3 k5 mN, h.get? C = some (excClassObj nm qn C N bs bm hd sn sub ab col dd k0 k1 k2 k3 k5 newId) ∧ h.Ns N mN ∧ OwnTail h bmB bm := by
  unfold exiIn at q
  cases ho : List.lookup C K with
  | none => rw [ho] at q; cases q
  | some o =>
    rw [ho] at q
    obtain ⟨cl, dd, dt, sl⟩ := o
    rw [Option.any_some] at q
    dsimp only at q
    obtain ⟨q1, r1⟩ := Bool.and_eq_true_iff.mp q
    obtain ⟨q2, r2⟩ := Bool.and_eq_true_iff.mp r1
    obtain ⟨q3, r3⟩ := Bool.and_eq_true_iff.mp r2
    clear q r1 r2
    obtain rfl : cl = Value.type "type" := beq_iff_eq.mp q1
    cases dt with
    | cls c =>
      obtain ⟨q4, r4⟩ := Bool.and_eq_true_iff.mp r3
      obtain ⟨q5, r5⟩ := Bool.and_eq_true_iff.mp r4
      obtain ⟨q6, q7⟩ := Bool.and_eq_true_iff.mp r5
      clear r3 r4 r5
      obtain ⟨nm, bs, mro, ns, qn, hd, sn, sub, ab, col, del⟩ := c
      have p4 := beq_iff_eq.mp q4
      have p7 : del = false := beq_iff_eq.mp q7
      clear q4 q7
      dsimp only at p4 q5 q6
      subst p7
      obtain ⟨bm, rfl⟩ : ∃ bm, mro = Value.ref C :: bm := by
        cases mro with
        | nil => cases p4
        | cons a l => cases p4; exact ⟨l, rfl⟩
      have p2 : sl.size = 6 := of_decide_eq_true q2
      have p3 : sl[4]? = some (some (Value.builtin newId)) := beq_iff_eq.mp q3
      clear q2 q3
      obtain ⟨k0, k1, k2, k3, k5, rfl⟩ : ∃ k0 k1 k2 k3 k5, sl = #[k0, k1, k2, k3, some (.builtin newId), k5] := by
        obtain ⟨l⟩ := sl
        match l, p2, p3 with
        | [k0, k1, k2, k3, k4, k5], _, p3 => cases p3; exact ⟨k0, k1, k2, k3, k5, rfl⟩
      exact ⟨bm, ns, nm, qn, bs, hd, sn, sub, ab, col, dd, k0, k1, k2, k3, k5, _, X _ _ ho, .of_isNs (PySem.W.isNs_of_in X q6), PySem.W.tail_of_in X q5⟩
    | _ => cases r3
def excHp (h : Heap) (C : Addr) (rest : List Value) : Heap := (h.push { cls := .type "tuple", data := .seq rest.toArray }).push { cls := .ref C, data := .fields #[.ref h.objs.size, .none, .none, .none, .bool false, .none] }
theorem excHp_keeps {h : Heap} {C : Addr} {rest : List Value} : ∀ b o, h.get? b = some o → (excHp h C rest).get? b = some o := fun b o e => Heap.get?_push_of_some _ (Heap.get?_push_of_some _ e)
theorem excHp_at {h : Heap} {C : Addr} {rest : List Value} : (excHp h C rest).get? (h.objs.size + 1) = some { cls := .ref C, data := .fields #[.ref h.objs.size, .none, .none, .none, .bool false, .none] } := by
  have := Heap.get?_push_size (h.push { cls := .type "tuple", data := .seq rest.toArray }) (o := { cls := .ref C, data := .fields #[.ref h.objs.size, .none, .none, .none, .bool false, .none] }) rfl
  rwa [Heap.size_push] at this
section
variable {prog : Program} {w : World} {A : Around} {E : Value → Shared → Prop} {s : Shared} {K : PySem.W.Frag} {a C f : Addr} {d : Option Addr} {R : Result → Shared → Prop} {rest : List Value}
theorem exi_type_call {Q : Fin → Shared → Prop} (X : K.In s.heap) (hC : exiIn K C bmV "ValueError.__new__" = true) (hi : PySem.W.findIn K (.ref C) "__init__" = some (some (.ref f))) (hf : PySem.W.typeIn K (.ref f) = some (.type "function")) (hz : rest.length ≤ sizeLine)
    (h : wpAny (model prog w) A (call (.ref f) (.ref (s.heap.objs.size + 1) :: rest)) (fun r s' => r = .none ∧ Q (.done (.ret (.ref (s.heap.objs.size + 1)))) s') E { s with heap := excHp s.heap C rest }) :
    wpAny (model prog w) A (Builtin.«type.__call__» ⟨.ref C :: rest, []⟩) Q E s := by
  obtain ⟨hh, g, dr, t, os⟩ := s
  obtain ⟨bm, Nn, nm, qn, bs, hd, sn, sub, ab, col, dd, k0, k1, k2, k3, k5, mN, hC1, hN1, TL1⟩ := exi_obj X hC
  have LM : Looks (model prog w) hh (mroOf (.ref C)) (.ref C :: bm) := by
    unfold mroOf classData
    exact ((Looks.ld hC1).andThen .now).andThen .now
  have LS : Looks (model prog w) hh (slotAt C 4) (some (.builtin "ValueError.__new__")) := by
    unfold slotAt
    exact (Looks.ld hC1).andThen .now
  have LB : Looks (model prog w) hh (Bind.madeBy (.ref C)) (some "ValueError.__new__") := by
    unfold Bind.madeBy
    refine LM.andThen ?_
    rw [List.forIn_cons]
    refine Looks.andThen (a := (some (some "ValueError.__new__"), Value.ref C)) (Looks.andThen (a := ForInStep.done (some (some "ValueError.__new__"), Value.ref C)) ?_ .now) .now
    exact LS.andThen .now
  have LF := looks_findIn (M := model prog w) X hi
  have base := PySem.F.excBase_ValueError
  unfold Builtin.«type.__call__»
  simp only [show ((Value.ref C) == Value.type "type") = false from rfl, Bool.false_eq_true, if_false]
  refine wpAny_bind (Looks.at LM ?_)
  simp only [List.isEmpty_cons, Bool.false_eq_true, if_false]
  refine wpAny_bind (Looks.at LB ?_)
  refine wpAny_bind (wpAny_pure ?_)
  refine wpAny_bind (wpAny_holding (wpAny_call (codeAny_call_builtin_code (Code.quiet_builtin _ (by decide +kernel)) (wpAny_check_new_subU base (by decide) TL1 hC1 (codeAny_exc_new_subU base (by decide) base TL1 hC1 ?_ hz)))))
  have kp : ∀ b o, hh.get? b = some o → (excHp hh C rest).get? b = some o := excHp_keeps
  have e2 : (excHp hh C rest).get? (hh.objs.size + 1) = some { cls := .ref C, data := .fields #[.ref hh.objs.size, .none, .none, .none, .bool false, .none] } := excHp_at
  have q : wpAny (model prog w) A (call (.ref f) (.ref (hh.objs.size + 1) :: rest)) (fun r s' => r = .none ∧ Q (.done (.ret (.ref (hh.objs.size + 1)))) s') E ⟨excHp hh C rest, g, dr, t, os⟩ := h
  show wpAny _ _ _ _ _ ⟨excHp hh C rest, g, dr, t, os⟩
  generalize excHp hh C rest = h2 at kp e2 q ⊢
  have X2 : K.In h2 := X.keeps kp
  have LM2 : Looks (model prog w) h2 (mroOf (.ref C)) (.ref C :: bm) := by
    unfold mroOf classData
    exact ((Looks.ld (kp _ _ hC1)).andThen .now).andThen .now
  have LI : Looks (model prog w) h2 (isInstance (.ref (hh.objs.size + 1)) (.ref C)) true := by
    unfold isInstance
    refine Looks.andThen (a := Value.ref C) ((Looks.ld e2).andThen .now) ?_
    unfold isSubtype
    refine LM2.andThen ?_
    simp only [List.isEmpty_cons, Bool.false_eq_true, if_false, List.contains_cons, beq_self_eq_true, Bool.true_or]
    exact .now
  refine wpAny_bind (Looks.at LI ?_)
  simp only [Bool.not_true, Bool.false_eq_true, if_false]
  refine wpAny_bind (wpAny_holding (special_fn (od := none) X2 ⟨e2, rfl, rfl, True.intro⟩ hi hf (wpAny_mono q (fun v s' z => ?_) fun _ _ z => z)))
  obtain ⟨rfl, z⟩ := z
  exact wpAny_pure z
structure ExcI (K : PySem.W.Frag) (C f : Addr) : Prop where
  ex : exiIn K C bmV "ValueError.__new__" = true
  init : PySem.W.findIn K (.ref C) "__init__" = some (some (.ref f))
  fn : PySem.W.typeIn K (.ref f) = some (.type "function")
  call : PySem.W.specialIn K (.ref C) "__call__" = some (some (.builtin "type.__call__"))
  typ : PySem.W.instIn K (.ref C) (.type "type") = some true
theorem exi_call (X : K.In s.heap) (F : ExcI K C f) (hz : rest.length ≤ sizeLine)
    (h : codeAny (model prog w) (A.under (.builtin "type.__call__" ⟨.ref C :: rest, []⟩)) (.call (.ref f) ⟨.ref (s.heap.objs.size + 1) :: rest, []⟩) (PySem.W.InitBack (s.heap.objs.size + 1) R) { s with heap := excHp s.heap C rest }) :
    codeAny (model prog w) A (.call (.ref C) ⟨rest, []⟩) R s := by
  obtain ⟨bm, Nn, nm, qn, bs, hd, sn, sub, ab, col, dd, k0, k1, k2, k3, k5, mN, hC1, hN1, TL1⟩ := exi_obj X F.ex
  have LC := looks_specialIn (M := model prog w) X F.call
  have LT := looks_instIn (M := model prog w) X F.typ
  obtain ⟨hh, g, dr, t, os⟩ := s
  refine codeAny_of_tree ?_
  show wpAny _ _ (callAny (.ref C) ⟨rest, []⟩) _ _ _
  unfold callAny
  refine nd_load hC1 ?_
  show wpAny _ _ (callAny.viaDunder (.ref C) ⟨rest, []⟩) _ _ _
  unfold callAny.viaDunder
  refine wpAny_bind (Looks.at LC ?_)
  show wpAny _ _ (bindSpecial _ _ >>= _) _ _ _
  rw [tc_bind]
  refine wpAny_bind (wpAny_pure (wpAny_bind (wpAny_pure (wpAny_pure ⟨rfl, ?_⟩))))
  show codeAny _ _ (.call (.builtin "type.__call__") ⟨.ref C :: rest, []⟩) _ _
  refine codeAny_call_builtin_at (Code.quiet_builtin _ (by decide +kernel)) entry_typeCall ?_
  have ar := tc_args (.ref C) rest []
  with_reducible refine PySem.W.check_slot tc_kind tc_split LT ar ?_
  refine exi_type_call X F.ex F.init F.fn hz (wpAny_call (codeAny_mono h fun r s' q => ?_))
  cases r with
  | error e => exact q
  | ok fl => cases fl <;> first | exact q | exact q.elim
theorem exi_init {e t0 : Addr} {oe : Obj} {vs : Array Value} {Q : Value → Shared → Prop} (X : K.In s.heap) (hC : exiIn K C bmV "ValueError.__new__" = true) (he : s.heap.get? e = some oe) (hcl : oe.cls = .ref C) (hd : oe.data = .fields vs) (h0 : vs[0]? = some (.ref t0)) (hz : rest.length ≤ sizeLine)
    (h : Q .none { s with heap := (s.heap.push { cls := .type "tuple", data := .seq rest.toArray }).update e (Obj.mapFields fun x => x.setIfInBounds 0 (.ref s.heap.objs.size)) }) :
    wpAny (model prog w) A (call (.builtin "ValueError.__init__") (.ref e :: rest)) Q E s := by
  obtain ⟨bm, Nn, nm, qn, bs, hdd, sn, sub, ab, col, dd, k0, k1, k2, k3, k5, mN, hC1, hN1, TL1⟩ := exi_obj X hC
  have base := PySem.F.excBase_ValueError
  obtain ⟨hh, g, dr, t, os⟩ := s
  refine wpAny_call (codeAny_call_builtin (by decide +kernel) base.initEntry (wpAny_check_init_subU base TL1 hC1 he hcl ?_))
  unfold Builtin.«BaseException.__init__»
  simp only [List.isEmpty_nil, Bool.not_true, Bool.false_eq_true, if_false]
  have he1 := Heap.get?_push_of_some { cls := Value.type "tuple", data := Data.seq rest.toArray } he
  have hsz := (Array.getElem?_eq_some_iff.mp h0).1
  refine wpAny_bind (wpAny_newObj_type (wpAny_bind (wpAny_bind (wpAny_field he1 hd h0 (wpAny_bind (wpAny_setField he1 hd hsz (wpAny_letGo (wpAny_pure h))))))) ?_)
  show rest.toArray.size ≤ sizeLine
  rw [List.size_toArray]
  exact hz
end
end L2
set_option Elab.async false
set_option linter.all false
set_option maxRecDepth 100000
set_option maxHeartbeats 0
namespace L2
open PySem PySem.Spec PySem.Calls PyProof.Rows PySem.W PySem.Builtin PySem.Builtin.ObjectAttr PySem.Builtin.Getset_descriptor
section
variable {prog : Program} {w : World} {A : Around} {E : Value → Shared → Prop} {s : Shared} {K : PySem.W.Frag} {a C f : Addr} {d : Option Addr} {R : Result → Shared → Prop} {rest : List Value}
theorem own_sa1 : builtinOwn "ValueError" "__setattr__" = none := by rw [builtinOwn_eq_fast]; decide +kernel
theorem own_sa2 : builtinOwn "Exception" "__setattr__" = none := by rw [builtinOwn_eq_fast]; decide +kernel
theorem own_sa3 : builtinOwn "BaseException" "__setattr__" = none := by rw [builtinOwn_eq_fast]; decide +kernel
theorem refuse_skip {self : Value} {n : String} {l : List Value} (h1 : (n == "_thread._local") = false) (h2 : (n == "_pickle.Pickler" || n == "_pickle.Unpickler") = false) (h3 : builtinOwn n "__setattr__" = none) :
    refuseLoop self "__setattr__" (.type n :: l) = refuseLoop self "__setattr__" l := by
  unfold refuseLoop
  rw [List.forIn_cons]
  simp only [h1, h2, Bool.false_eq_true, if_false, classOwn, h3, Option.isSome_none]
  rfl
theorem refuse_bmV {self : Value} : refuseLoop self "__setattr__" bmV = pure () := by
  rw [refuse_skip (by decide) (by decide) own_sa1, refuse_skip (by decide) (by decide) own_sa2, refuse_skip (by decide) (by decide) own_sa3]
  exact refuse_only self rfl
theorem refuse_tail {self : Value} {h : Heap} {bm : List Value} (o : OwnTail h bmV bm) : refuseLoop self "__setattr__" bm = pure () := by
  induction o with
  | base => exact refuse_bmV
  | own _ _ _ _ ih => rw [refuseLoop_ref]; exact ih
theorem exi_setattr {e : Addr} {oe : Obj} {vs : Array Value} {name : Str} {v : Value} {Q : Unit → Shared → Prop} (X : K.In s.heap) (hC : exiIn K C bmV "ValueError.__new__" = true) (he : s.heap.get? e = some oe) (hcl : oe.cls = .ref C) (hd : oe.data = .fields vs) (hn : oe.dict = none)
    (hs : PySem.W.findIn K (.ref C) "__setattr__" = some (some (.builtin "object.__setattr__"))) (ho : PySem.W.mroIn K C (.type "object") = some true) (ha : PySem.W.findIn K (.ref C) name = some none) (hh : PySem.W.hasDictIn K C = true)
    (h : ∀ h' : Heap, (∀ b u, b ≠ e → s.heap.get? b = some u → h'.get? b = some u) → h'.get? e = some { oe with dict := some s.heap.objs.size } → h'.Ns1 s.heap.objs.size (fun y => if y = name then some v else none) → Q () { s with heap := h', toks := s.toks + 2 }) :
    wpAny (model prog w) A (setAttr (.ref e) name v) Q E s := by
  obtain ⟨bm, Nn, nm, qn, bs, hdd, sn, sub, ab, col, dd, k0, k1, k2, k3, k5, mN, hC1, hN1, TL1⟩ := exi_obj X hC
  have nc : notCls oe = true := by unfold notCls; rw [hd]
  have IA : InstAt s.heap e oe C none := ⟨he, hcl, nc, by rw [hn]; exact True.intro⟩
  have SF := PySem.F.store_object
  refine set_plain X IA hs ?_
  have sub : Looks (model prog w) s.heap (isInstance (.ref e) (.type "object")) true := Looks.andThen (InstAt.type IA) (looks_mroIn X ho)
  refine codeAny_call_builtin SF.slot.plain SF.entry ?_
  have ar := SF.args (.ref e) (.str name s.toks) v
  with_reducible refine PySem.W.check_slot SF.kind SF.split sub ar ?_
  rw [osa_eq]
  have LM : Looks (model prog w) s.heap (mroOf (.ref C)) (.ref C :: bm) := by
    unfold mroOf classData
    exact ((Looks.ld hC1).andThen .now).andThen .now
  have LR : Looks (model prog w) s.heap (refuseIfOverridden (.ref e) "__setattr__") () := by
    unfold refuseIfOverridden
    refine Looks.andThen (InstAt.type IA) (LM.andThen ?_)
    show Looks _ _ (refuseLoop (.ref e) "__setattr__" (.ref C :: bm)) ()
    rw [refuseLoop_ref, refuse_tail TL1]
    exact .now
  obtain ⟨hp, g, dr, t, os⟩ := s
  refine wpAny_bind (Looks.at LR (wpAny_bind (Looks.at (InstAt.type IA) (wpAny_bind (Looks.at (looks_findIn X ha) (wpAny_bind (wpAny_pure ?_)))))))
  show wpAny _ _ (storeInOwnDict (.ref e) (.ref C) (.str name t) name v false) _ _ _
  obtain ⟨cd, hc, hd'⟩ := any_some hh
  have LD : Looks (model prog w) hp (classData C) cd := looks_clsIn X hc
  have hx : hp.get? e = some oe := he
  unfold storeInOwnDict
  refine wpAny_bind (wpAny_pure ?_)
  show wpAny _ _ (ownDictForStores (.ref e) >>= _) _ _ _
  unfold ownDictForStores instanceDict
  refine wpAny_bind (wpAny_bind (wpAny_loadPart hx ?_))
  rw [hcl]
  refine wpAny_bind (Looks.at LD ?_)
  rw [hd']
  simp only [Bool.not_true, Bool.false_eq_true, if_false]
  rw [hn, hd]
  refine wpAny_bind (wpAny_alloc ?_)
  refine wpAny_bind (wpAny_update (o := oe) (Heap.get?_push_of_some _ hx) ?_)
  refine wpAny_pure ?_
  have e1 : (hp.push { cls := Value.type "dict", data := Data.dict #[] }).get? hp.objs.size = some { cls := Value.type "dict", data := Data.dict #[] } := Heap.get?_push_size hp rfl
  have ne : e ≠ hp.objs.size := Nat.ne_of_lt (Heap.lt_size hx)
  have nf : Obj.isFreed { cls := oe.cls, dict := some hp.objs.size, data := oe.data, slots := oe.slots } = false := Obj.isFreed_of_fields hd
  have e2 := Heap.get?_update_self (h := hp.push { cls := Value.type "dict", data := Data.dict #[] }) (fun o => { cls := o.cls, dict := some hp.objs.size, data := o.data, slots := o.slots }) (Heap.get?_push_of_some _ hx) nf
  have e3 : ((hp.push { cls := Value.type "dict", data := Data.dict #[] }).update e fun o => { cls := o.cls, dict := some hp.objs.size, data := o.data, slots := o.slots }).get? hp.objs.size = some { cls := Value.type "dict", data := Data.dict #[] } := (Heap.get?_update_other _ _ ne).trans e1
  have kp : ∀ b u, b ≠ e → hp.get? b = some u → ((hp.push { cls := Value.type "dict", data := Data.dict #[] }).update e fun o => { cls := o.cls, dict := some hp.objs.size, data := o.data, slots := o.slots }).get? b = some u := fun b u q z => (Heap.get?_update_other _ _ (Ne.symm q)).trans (Heap.get?_push_of_some _ z)
  show wpAny _ _ (storeInDict hp.objs.size (.str name t) name v) _ _ ⟨(hp.push { cls := Value.type "dict", data := Data.dict #[] }).update e (fun o => { cls := o.cls, dict := some hp.objs.size, data := o.data, slots := o.slots }), g, dr, t + 1, os⟩
  generalize ((hp.push { cls := Value.type "dict", data := Data.dict #[] }).update e fun o => { cls := o.cls, dict := some hp.objs.size, data := o.data, slots := o.slots }) = h2 at e2 e3 kp ⊢
  have n0 : h2.Ns1 hp.objs.size (fun _ => none) := Heap.Ns1.of_empty ⟨_, #[], _, e3, rfl, (fun e he => absurd he (by simp)), fun _ => rfl⟩
  unfold storeInDict
  refine wpAny_bind (wpAny_pure (wpAny_bind ?_))
  refine wpAny_nsSet1 (s := ⟨h2, g, dr, t + 1, os⟩) n0 fun h3 hn3 hs3 => ?_
  have w0 : PySem.Within (fun _ : Str => (none : Option Value)) [] := fun y hy => absurd rfl hy
  obtain ⟨oD, esD, epD, hoD, hdD, hcD⟩ := hn3.count (PySem.Within.cons name v w0)
  refine wpAny_bind (wpAny_lookBehind hoD (by rw [hdD]; exact pastItsLine_dict (Nat.le_trans hcD (by simp [sizeLine]))) ?_)
  refine wpAny_pure (h h3 (fun b u q z => (hs3.2 b ?_).trans (kp b u q z)) ((hs3.2 e ne).trans e2) hn3)
  exact Nat.ne_of_lt (Heap.lt_size z)
theorem exd_entry {e dx : Addr} {oe : Obj} {vs : Array Value} {name : Str} {v : Value} {m : Str → Option Value} {tk : Tok} {Q : Fin → Shared → Prop} (X : K.In s.heap) (he : s.heap.get? e = some oe) (hcl : oe.cls = .ref C) (hd : oe.data = .fields vs) (hn : oe.dict = some dx) (hm : s.heap.Ns1 dx m) (hv : m name = some v)
    (ha : PySem.W.findIn K (.ref C) name = some none) (hh : PySem.W.hasDictIn K C = true) (h : Q (.done (.ret v)) s) :
    wpAny (model prog w) A (Builtin.«object.__getattribute__» ⟨[.ref e, .str name tk], []⟩) Q E s := by
  obtain ⟨hp, g, dr, t, os⟩ := s
  have L0 : Looks (model prog w) hp (typeOf (.ref e)) (.ref C) := hcl ▸ (Looks.ld he).andThen .now
  have L1 := looks_findIn (M := model prog w) X ha
  obtain ⟨cd, hc, hd'⟩ := any_some hh
  have LD : Looks (model prog w) hp (classData C) cd := looks_clsIn X hc
  have hx : hp.get? e = some oe := he
  refine wpAny_bind (wpAny_pure ?_)
  refine wpAny_bind (wpAny_pure (wpAny_bind (Looks.at L0 (wpAny_bind ?_))))
  unfold find
  refine wpAny_bind (Looks.at L1 (wpAny_bind (wpAny_pure (wpAny_bind (wpAny_pure ?_)))))
  show wpAny _ _ (ownThenClass (.ref e) name none none) _ _ _
  unfold ownThenClass inOwnDict ObjectAttr.ownDict loadHead
  refine wpAny_bind (wpAny_bind (wpAny_bind (wpAny_loadPart hx ?_)))
  rw [hd]
  show wpAny _ _ (instanceDict e false) _ _ _
  unfold instanceDict
  refine wpAny_bind (wpAny_loadPart hx ?_)
  rw [hcl]
  refine wpAny_bind (Looks.at LD ?_)
  rw [hd']
  simp only [Bool.not_true, Bool.false_eq_true, if_false]
  rw [hn]
  refine wpAny_pure ?_
  show wpAny _ _ (nsGet dx name) _ _ _
  refine wpAny_nsGet hm.ns ?_
  rw [hv]
  exact wpAny_bind (wpAny_rule (wpAny_pure (wpAny_pure h)))
theorem exd_by {e dx : Addr} {oe : Obj} {vs : Array Value} {name : Str} {v : Value} {m : Str → Option Value} {tk : Tok} {fill expr : Bool} {Q : Value → Shared → Prop} (X : K.In s.heap) (he : s.heap.get? e = some oe) (hcl : oe.cls = .ref C) (hd : oe.data = .fields vs) (hn : oe.dict = some dx) (hm : s.heap.Ns1 dx m) (hv : m name = some v)
    (F : ExcF K C) (ha : PySem.W.findIn K (.ref C) name = some none) (hh : PySem.W.hasDictIn K C = true) (hq : wpAny (model prog w) A (handedOut v) Q E s) : wpAny (model prog w) A (getAttrBy (.ref e) (.str name tk) fill expr) Q E s := by
  obtain ⟨hp, g, dr, t, os⟩ := s
  have L0 : Looks (model prog w) hp (typeOf (.ref e)) (.ref C) := hcl ▸ (Looks.ld he).andThen .now
  have L1 := looks_findIn (M := model prog w) X F.ga
  have L2 := looks_findIn (M := model prog w) X F.gt
  have f3 := PySem.F.attrBase_ValueError.ga.bind (.ref e)
  have hx0 : (expr && onTheHeap (Value.builtin "BaseException.__getattribute__")) = false := by cases expr <;> rfl
  have hx2 : (Value.builtin "BaseException.__getattribute__" == Value.builtin "object.__getattribute__") = false := by decide +kernel
  have hx1 : (onTheHeap (Value.ref C) && Value.builtin "BaseException.__getattribute__" == Value.builtin "object.__getattribute__") = false := by rw [hx2]; rfl
  repeat (any_goals (first | assumption | with_reducible refine Looks.at L0 ?_ | with_reducible refine Looks.at L1 ?_ | with_reducible refine Looks.at L2 ?_ | wp_step))
  refine codeAny_call_builtin PySem.F.attrBase_ValueError.ga.plain PySem.F.entry_bexc_ga (exc_ga_check (d := some dx) X ⟨oe, he, hcl, hn, _, hd⟩ F (exd_entry X he hcl hd hn hm hv ha hh ?_))
  exact hq
theorem raise_own {M : Model} {x : Expr} {env : Env} {pos : Pos} {Q : Flow → Shared → Prop} (hh : A.handled = none) (be : PySem.W.mroIn K C (.type "BaseException") = some true) (ty : PySem.W.typeIn K (.ref C) = some (.type "type"))
    (h : wpAny M A (eval x env) (fun v s1 => ∃ (e : Addr) (oe : Obj) (vs : Array Value), v = .ref e ∧ K.In s1.heap ∧ s1.heap.get? e = some oe ∧ oe.cls = .ref C ∧ oe.data = .fields vs ∧ vs[1]? = some .none ∧ E (.ref e) s1) E s) :
    wpAny M A (exec (.Raise (some x) none pos) env) Q E s := by
  rw [arm_exec_Raise]
  refine wpAny_bind (wpAny_standAt ?_)
  show wpAny M A (raiseStmt env (some (do let v ← eval x env; standAt pos; pure v)) none) Q E s
  unfold raiseStmt
  refine wpAny_bind (wpAny_bind (wpAny_mono h (fun v s1 z => ?_) fun _ _ z => z))
  obtain ⟨e, oe, vs, rfl, X, he, hc, hd, h1, q⟩ := z
  obtain ⟨hp, g, dr, t, os⟩ := s1
  have L0 : Looks M hp (typeOf (.ref e)) (.ref C) := hc ▸ (Looks.ld he).andThen .now
  have LB := looks_mroIn (M := M) X be
  have LT := looks_typeIn (M := M) X ty
  have LI : Looks M hp (isType (.ref e)) false := by
    unfold isType loadHead
    refine (Looks.ld he).andThen ?_
    rw [hd]
    exact .now
  refine wpAny_bind (wpAny_standAt (wpAny_pure ?_))
  refine wpAny_bind (wpAny_pure (wpAny_bind (wpAny_holding ?_)))
  unfold excFromValue isExcClass isInstance
  refine wpAny_bind (wpAny_bind (Looks.at LI (wpAny_pure (wpAny_bind (wpAny_bind (Looks.at L0 (Looks.at LB (wpAny_pure ?_))))))))
  refine wpAny_bind (Looks.at LI ?_)
  simp only [Bool.false_eq_true, if_false]
  unfold raisedInstance
  refine wpAny_bind (wpAny_bind (Looks.at L0 (wpAny_bind (Looks.at LT ?_))))
  rw [if_pos (by decide)]
  refine wpAny_pure ?_
  unfold setFlight
  refine wpAny_bind (wpAny_bind (wpAny_field he hd h1 ?_))
  rw [if_neg (by decide)]
  refine wpAny_pure ?_
  unfold raiseNew
  refine wpAny_bind (wpAny_handled ?_)
  rw [hh]
  exact wpAny_throw q
end
end L2
set_option Elab.async false
set_option linter.all false
set_option maxRecDepth 100000
set_option maxHeartbeats 0
namespace L2
open PySem PySem.Spec PyProof.Rows
def ExcN (a C : Addr) (d : Option Addr) (h : Heap) : Prop := ∃ o vs t, h.get? a = some o ∧ o.cls = .ref C ∧ o.dict = d ∧ o.data = .fields vs ∧ vs[0]? = some (.ref t) ∧ vs[1]? = some .none
def excN (a C : Addr) (d : Option Addr) : HO := .ext (ExcN a C d)
theorem excN_ok {P : Program} {w : World} {H : Hp} {h : Heap} {a C t : Addr} {d : Option Addr} {o : Obj} {vs : Array Value} (h1 : h.get? a = some o) (h2 : o.cls = .ref C) (h3 : o.dict = d) (h4 : o.data = .fields vs) (h5 : vs[0]? = some (.ref t)) (h6 : vs[1]? = some .none) : ObjOk P w H h a (excN a C d) :=
  ⟨⟨o, vs, t, h1, h2, h3, h4, h5, h6⟩, ⟨o, h1⟩, fun _ _ ⟨o, vs, t, e, r⟩ k => ⟨o, vs, t, k o e, r⟩⟩
theorem upd_id {H : Hp} {a : Addr} {o : HO} (h : H a = some o) : upd H a o = H := by
  funext b
  unfold upd
  split
  · rename_i e; rw [e, h]
  · rfl
structure BaseI (K : PySem.W.Frag) (CB : Addr) : Prop where
  ga : PySem.W.specialIn K (.ref CB) "__getattribute__" = some (some (.builtin "type.__getattribute__"))
  rd : PySem.W.readsIn K CB (.type "type") = true
  fd : PySem.W.findCls K (.ref CB) (.type "type") "__init__" = some (.val (.builtin "ValueError.__init__"))
structure ExcS (K : PySem.W.Frag) (C : Addr) (f : Str) : Prop where
  ex : exiIn K C bmV "ValueError.__new__" = true
  sa : PySem.W.findIn K (.ref C) "__setattr__" = some (some (.builtin "object.__setattr__"))
  ob : PySem.W.mroIn K C (.type "object") = some true
  no : PySem.W.findIn K (.ref C) f = some none
  hd : PySem.W.hasDictIn K C = true
def rInit (K : PySem.W.Frag) : List V → Hp → VK → Prop := fun xs H Q => ∃ a C d ys, xs = .ref a :: ys ∧ H a = some (excN a C d) ∧ exiIn K C bmV "ValueError.__new__" = true ∧ ys.length ≤ sizeLine ∧ Q .non H
section
variable {X : Cx} {x f : Str} {np apos pos pos' : Pos} {e o value : Expr} {es : List Expr} {t : TA} {ta tv : TE} {CB : Addr}
theorem call_exInit : CallR X (.builtin "ValueError.__init__") (rInit X.K) := by
  intro pins s σ H xs us Q I r h
  obtain ⟨a, C, d, ys, rfl, ha, hC, hz, q⟩ := h
  cases r with
  | cons r1 r2 =>
    rename_i u us'
    obtain rfl : u = Value.ref a := r1
    obtain ⟨⟨ob, vs, t, h1, h2, h3, h4, h5, h6⟩, _, _⟩ := (show ObjOk X.prog X.w H s.heap a (excN a C d) from I.hok a _ ha)
    refine exi_init I.kIn hC h1 h2 h4 h5 (by rw [← r2.length]; exact hz) ?_
    have ha1 := Heap.get?_push_of_some { cls := Value.type "tuple", data := Data.seq us'.toArray } h1
    have sz : 1 < vs.size := (Array.getElem?_eq_some_iff.mp h6).1
    have nf : (Obj.mapFields (fun x => x.setIfInBounds 0 (.ref s.heap.objs.size)) ob).isFreed = false := (df_map _ ob).2 (get_alive h1)
    have ha2 := Heap.get?_update_self (Obj.mapFields fun x => x.setIfInBounds 0 (.ref s.heap.objs.size)) ha1 nf
    have eo : Obj.mapFields (fun x => x.setIfInBounds 0 (.ref s.heap.objs.size)) ob = { ob with data := .fields (vs.setIfInBounds 0 (.ref s.heap.objs.size)) } := by
      obtain ⟨c, dd, dt, sl⟩ := ob
      cases h4
      rfl
    rw [eo] at ha2
    have I2 := I.write (x := a) (e := a) (o := excN a C d) (t' := s.toks) (h' := (s.heap.push { cls := Value.type "tuple", data := Data.seq us'.toArray }).update a (Obj.mapFields fun x => x.setIfInBounds 0 (.ref s.heap.objs.size))) (by rw [ha]; exact True.intro) (.inl rfl)
      (fun b u ne q => (Heap.get?_update_other _ _ (Ne.symm ne)).trans (Heap.get?_push_of_some _ q)) ⟨_, ha2⟩
      (excN_ok ha2 h2 h3 rfl (t := s.heap.objs.size) (by rw [Array.getElem?_setIfInBounds_self_of_lt (by omega)]) (by rw [Array.getElem?_setIfInBounds_ne (by decide)]; exact h6))
    rw [upd_id ha] at I2
    exact ⟨.non, H, I2, rfl, q⟩
theorem pe_baseInit {pl : Sem Bool} (F : BaseI X.K CB) (hm : X.mg x = some (.ref CB)) (ha : PA X (e :: es) t) (hg : Gl X x := by rfl) (hdb : (x == ("__debug__" : Str)) = false := by decide)
    (hst : starEach (e :: es) X.env = (false, eval e X.env) :: starEach es X.env := by rfl) (hpl : (backTo pos (starEach es X.env)).any (·.1) = false := by rfl)
    (ht : eval (.Call (.Attribute (.Name x np) "__init__" apos) (e :: es) [] pos) X.env = (do
      let ov ← eval (.Name x np) X.env
      standAt apos.atName
      let (f, first) ← holding [ov] (getMethod ov "__init__" pl)
      callWith pos f first (backTo pos (starEach (e :: es) X.env)) (backToKw pos (keywordEach [] X.env))) := by rfl) :
    PE X (.Call (.Attribute (.Name x np) "__init__" apos) (e :: es) [] pos) (tCB (rInit X.K) t) := by
  intro pins s σ H Q I h
  refine PySem.W.methodCall_KW (pl := pl) (ld_glob I hg hm ?_ hdb) ht
  refine PySem.W.method_cls I.kIn F.ga (PySem.W.cls_value I.kIn F.rd F.fd rfl ?_)
  have I1 : Inv X pins σ H { s with toks := s.toks + 1 } := I.tok _
  exact PyProof.Rows.callWith_builtin1 (thn (ha pos pins _ σ H _ I1 h) fun us s1 ⟨vs, H1, I2, r1, q1⟩ => call_exInit pins s1 σ H1 vs us Q I2 r1 q1) hst hpl
def sExc (K : PySem.W.Frag) (ta tv : TE) (f : Str) : TS := fun D σ H => tv σ H fun y H1 => ta σ H1 fun x H2 => ∃ a C, x = .ref a ∧ H2 a = some (excN a C none) ∧ ExcS K C f ∧ ∀ dx, H2 dx = none → dx ≠ a →
  D.nx σ (upd (upd H2 dx (.xd [(f, y)])) a (excN a C (some dx)))
theorem ps_exc (ha : PE X o ta) (hv : PE X value tv) (hs : swapsWith value (some (.Attribute o f pos')) pos.line X.env = pure false) : PS X (.Assign [.Attribute o f pos'] value pos) (sExc X.K ta tv f) := by
  intro pins s σ H D I h
  refine plainObj_wpAny_Assign_Attribute (thn (hv pins s σ H _ I h) fun u s1 ⟨y, H1, I1, ry, q⟩ => thn (ha pins s1 σ H1 _ I1 q) fun ov s2 ⟨x, H2, I2, rx, a, C, ex, ea, S, q2⟩ => ?_) hs
  subst ex
  obtain rfl : ov = Value.ref a := rx
  obtain ⟨⟨ob, vs, t, h1, h2, h3, h4, h5, h6⟩, _, _⟩ := (show ObjOk X.prog X.w H2 s2.heap a (excN a C none) from I2.hok a _ ea)
  refine exi_setattr I2.kIn S.ex h1 h2 h4 h3 S.sa S.ob S.no S.hd fun h' kp e1 n1 => ?_
  have ne : s2.heap.objs.size ≠ a := fun z => Nat.lt_irrefl _ (z ▸ Heap.lt_size h1)
  have fr : H2 s2.heap.objs.size = none := I2.hok.fresh (Nat.le_refl _)
  -- the heap with the exception as it was
  have e0 : (h'.update a fun _ => ob).get? a = some ob := Heap.get?_update_self (fun _ => ob) e1 (get_alive h1)
  have eo : ∀ b, b ≠ a → (h'.update a fun _ => ob).get? b = h'.get? b := fun b z => Heap.get?_update_other _ _ (Ne.symm z)
  have J1 : Inv X pins σ (upd H2 s2.heap.objs.size (.xd [(f, y)])) { s2 with heap := h'.update a fun _ => ob, toks := s2.toks } := I2.laid (a := s2.heap.objs.size) (o := .xd [(f, y)]) (h' := h'.update a fun _ => ob) (t' := s2.toks)
    (fun b u z => by
      by_cases w : b = a
      · subst w; rw [h1] at z; cases z; exact e0
      · exact (eo b w).trans (kp b u w z)) (Nat.le_refl _)
    ⟨_, n1.at fun o z => (eo _ ne).trans z, fun g => by
      by_cases z : g = f
      · subst z
        simp only [List.lookup, beq_self_eq_true, if_true]
        exact ry
      · have z' : (g == f) = false := beq_eq_false_iff_ne.mpr z
        simp only [List.lookup, z', if_neg z]
        exact True.intro⟩
  have J2 := J1.write (x := a) (e := a) (o := excN a C (some s2.heap.objs.size)) (h' := h') (t' := s2.toks + 2) (by rw [upd_ne (Ne.symm ne), ea]; exact True.intro) (.inl rfl) (fun b u z r => (eo b z) ▸ r) ⟨_, e1⟩
    (excN_ok e1 h2 rfl h4 h5 h6)
  exact ⟨σ, _, J2, q2 _ fr ne⟩
def tExcAt (K : PySem.W.Frag) (ta : TE) (f : Str) : TE := fun σ H Q => ta σ H fun x H1 => ∃ a C dx fs n, x = .ref a ∧ H1 a = some (excHO a C (some dx)) ∧ H1 dx = some (.xd fs) ∧ fs.lookup f = some (.int n) ∧ ExcF K C ∧ ExcS K C f ∧ Q (.int n) H1
theorem pe_excAt (ha : PE X o ta) (hb : attributeBase o f X.env (eval o X.env) = eval o X.env := by rfl) : PE X (.Attribute o f pos) (tExcAt X.K ta f) := by
  intro pins s σ H Q I h
  refine attr_of hb (thn (ha pins s σ H _ I h) fun u s1 ⟨x, H1, I1, rx, a, C, dx, fs, n, ex, ea, ed, l, F, S, q⟩ => ?_)
  subst ex
  obtain rfl : u = Value.ref a := rx
  obtain ⟨⟨ob, h1, h2, h3, vs, h4⟩, _, _⟩ := (show ObjOk X.prog X.w H1 s1.heap a (excHO a C (some dx)) from I1.hok a _ ea)
  obtain ⟨mA, hm, hr⟩ := (show ObjOk X.prog X.w H1 s1.heap dx (.xd fs) from I1.hok dx _ ed)
  have r := hr f
  rw [l] at r
  cases hv : mA f with
  | none => rw [hv] at r; exact r.elim
  | some v =>
    rw [hv] at r
    obtain ⟨tk, rfl⟩ := (show ∃ tk, v = Value.int n tk from r)
    unfold getAttr
    refine wpAny_bind (wpAny_mkText ?_)
    have I2 : Inv X pins σ H1 { s1 with toks := s1.toks + 1 } := I1.tok _
    exact exd_by (s := { s1 with toks := s1.toks + 1 }) I2.kIn h1 h2 h4 h3 hm hv F S.no S.hd (wpAny_pure ⟨.int n, H1, I2, ⟨tk, rfl⟩, q⟩)
end
def delH (H : Hp) (a : Addr) : Hp := fun b => if b = a then none else H b
theorem delH_same {H : Hp} {a : Addr} : delH H a a = none := by unfold delH; rw [if_pos rfl]
theorem delH_ne {H : Hp} {a b : Addr} (h : b ≠ a) : delH H a b = H b := by unfold delH; rw [if_neg h]
section
variable {X : Cx} {pins : List (Addr × Obj)} {σ : St} {H : Hp} {s : Shared} {a : Addr} {φ : Heap → Prop}
theorem Inv.del (I : Inv X pins σ H s) (ha : H a = some (.ext φ)) : Inv X pins σ (delH H a) s := by
  have ne : ∀ b u, H b = some u → (∀ ψ, u ≠ .ext ψ) → b ≠ a := fun b u e n z => by
    rw [z, ha] at e
    cases e
    exact n φ rfl
  have nn : ∀ b, H b = none → delH H a b = none := fun b e => by
    by_cases z : b = a
    · rw [z]; exact delH_same
    · rw [delH_ne z]; exact e
  refine ⟨I.ok, I.os, I.bare, ⟨I.base.keep, I.base.slot, fun b o e n hx => nn b (I.base.free b o e n hx), I.base.there, fun b xs e => ?_, fun b q u e => ?_, fun b ps e => ?_⟩, I.loc, I.cell, nn _ I.free, fun x c e => nn _ (I.freeC x c e), fun p hp => ?_, fun b u e => ?_, I.len⟩
  · have := I.base.tups b xs e
    rw [delH_ne (ne b _ this (by intro ψ z; cases z))]; exact this
  · have := I.base.frzs b q u e
    rw [delH_ne (ne b _ this (by intro ψ z; cases z))]; exact this
  · obtain ⟨more, h1⟩ := I.base.tbls b ps e
    exact ⟨more, by rw [delH_ne (ne b _ h1 (by intro ψ z; cases z))]; exact h1⟩
  · obtain ⟨e, n, r⟩ := I.pin p hp
    exact ⟨e, nn _ n, r⟩
  · have z : b ≠ a := fun z => by rw [z, delH_same] at e; cases e
    rw [delH_ne z] at e
    refine (I.hok b u e).stay (fun _ _ _ r => r) (fun c r => ?_) fun c xs r => ?_
    · rw [delH_ne (ne c _ r (by intro ψ z; cases z))]; exact r
    · rw [delH_ne (ne c _ r (by intro ψ z; cases z))]; exact r
end
def tRaiseI (E : XK) (C : Addr) (sp : Sp) (t : TA) : TS := fun _ σ H => t σ H fun xs H1 => xs.length ≤ sizeLine ∧ ∀ a, H1 a = none → sp (.ref a :: xs) (upd H1 a (excN a C none)) (fun v H2 => v = .non ∧ ∃ d, H2 a = some (excN a C d) ∧ E (.ref C) d (delH H2 a)) (fun _ _ _ => False)
structure ExcR (K : PySem.W.Frag) (C f : Addr) : Prop extends ExcI K C f where
  be : PySem.W.mroIn K C (.type "BaseException") = some true
  ty : PySem.W.typeIn K (.ref C) = some (.type "type")
  kp : PySem.W.keepIn K (.ref C) = true
section
variable {P : Program} {w : World} {K : PySem.W.Frag} {mg : Str → Option Value} {base : Heap} {N : List Str} {qual : Str} {scope : Scope} {f : Addr} {cd : Value} {A : Around} {outer : List Env} {s : Shared} {H : Hp} {E : XK}
theorem ps_raiseI {x : Str} {np cpos pos : Pos} {e : Expr} {es : List Expr} {t : TA} {C fI : Addr} {k : Nat} {fd : FuncData} {ps : List Str} {sp : Sp} (F : ExcR K C fI) (G : FnOk P w K mg base (CXE P w) k fI fd ps sp) (hb : Binds K fd ps []) (hr : Room (k + 1) (cxE P w K mg base N qual scope f cd A outer s H E).A)
    (hm : mg x = some (.ref C)) (ha : PA (cxE P w K mg base N qual scope f cd A outer s H E) (e :: es) t)
    (hg : Gl (cxE P w K mg base N qual scope f cd A outer s H E) x := by rfl) (hdb : (x == ("__debug__" : Str)) = false := by decide) (he : starEach (e :: es) (cxE P w K mg base N qual scope f cd A outer s H E).env = (false, eval e (cxE P w K mg base N qual scope f cd A outer s H E).env) :: starEach es (cxE P w K mg base N qual scope f cd A outer s H E).env := by rfl)
    (hpl : (backTo cpos (starEach es (cxE P w K mg base N qual scope f cd A outer s H E).env)).any (·.1) = false := by rfl) :
    PS (cxE P w K mg base N qual scope f cd A outer s H E) (.Raise (some (.Call (.Name x np) (e :: es) [] cpos)) none pos) (tRaiseI E C sp t) := by
  intro pins s1 σ H1 D I h
  refine raise_own (K := K) (C := C) hr.hd F.be F.ty ?_
  refine wpAny_Call_Name_kw (ld_glob I hg hm ?_ hdb)
  refine PySem.W.callWith_K (h₀ := base) I.ok.mod.kin F.kp (thn (ha cpos pins s1 σ H1 _ I h) fun us s2 ⟨vs, H2, I2, r, hz, q⟩ => ⟨I2.kIn, ?_⟩) he hpl
  have fr : H2 (s2.heap.objs.size + 1) = none := I2.hok.fresh (Nat.le_succ _)
  have hq := q _ fr
  have sz : us.length ≤ sizeLine := by rw [← r.length]; exact hz
  have I3 : Inv (cxE P w K mg base N qual scope f cd A outer s H E) pins σ (upd H2 (s2.heap.objs.size + 1) (excN (s2.heap.objs.size + 1) C none)) { s2 with heap := excHp s2.heap C us, toks := s2.toks } :=
    I2.laid (a := s2.heap.objs.size + 1) (o := excN (s2.heap.objs.size + 1) C none) (h' := excHp s2.heap C us) (t' := s2.toks) excHp_keeps (Nat.le_succ _) (excN_ok (t := s2.heap.objs.size) excHp_at rfl rfl rfl rfl rfl)
  have r2 : Vals (V.ref (s2.heap.objs.size + 1) :: vs) (Value.ref (s2.heap.objs.size + 1) :: us) := .cons rfl r
  have hl : (Value.ref (s2.heap.objs.size + 1) :: us ++ []).length = ps.length := by
    have z := r2.length
    rw [G.len _ _ _ _ hq] at z
    rw [List.append_nil]
    exact z.symm
  have ne0 : s.heap.get? (s2.heap.objs.size + 1) = none := Heap.get?_none_of_le (Nat.le_trans I2.sz (Nat.le_succ _))
  refine wpAny_call (exi_call (f := fI) I2.kIn F.toExcI sz (codeAny_mono (G.run _ (cxE P w K mg base N qual scope f cd A outer s H E).stack _ _ ⟨Value.ref (s2.heap.objs.size + 1) :: us, []⟩ (Value.ref (s2.heap.objs.size + 1) :: us) _ _ (fun _ _ _ => False) (hr.make C us [])
    (I3.env0.make C us []) (by have := hb _ (Value.ref (s2.heap.objs.size + 1) :: us) I3.kIn hl; rw [List.append_nil] at this; exact this) r2 hq) fun rr s' hq' => ?_))
  cases rr with
  | error ev =>
    obtain ⟨_, _, _, _, _, _, _, _, _, _, _, _, _, _, _, _, z⟩ := hq'
    exact z.elim
  | ok fl =>
    cases fl with
    | ret u =>
      obtain ⟨v, H', I4, rv, ev, d, hd, q3⟩ := I3.after hq'
      subst ev
      refine ⟨rv, ?_⟩
      obtain ⟨⟨ob, ws, tt, h1, h2, h3, h4, h5, h6⟩, _, _⟩ := (show ObjOk P w H' s'.heap (s2.heap.objs.size + 1) (excN (s2.heap.objs.size + 1) C d) from I4.hok _ _ hd)
      have I5 := I4.del hd
      exact ⟨s2.heap.objs.size + 1, ob, ws, rfl, I5.kIn, h1, h2, h4, h6, leave_own I5 ne0 delH_same h1 h2 h4 h6 h5 h3 q3⟩
    | next => exact False.elim hq'
    | brk => exact False.elim hq'
    | cont => exact False.elim hq'
end
end L2
set_option Elab.async false
set_option linter.all false
set_option maxRecDepth 100000
namespace L2
open PySem PySem.Spec PyProof.Rows
section
variable {X : Cx} {pins : List (Addr × Obj)} {σ : St} {H : Hp} {s : Shared} {a : Addr} {y v : V} {u r : Value} {o : Option V} {A : Around} {E : Value → Shared → Prop}
end
end L2
set_option Elab.async false
set_option linter.all false
set_option maxRecDepth 100000
set_option maxHeartbeats 1000000
namespace Hd
open PySem PySem.Spec PyProof.Rows
end Hd
set_option Elab.async false
set_option linter.all false
set_option maxRecDepth 100000
set_option maxHeartbeats 0
namespace L2
open PySem PySem.Spec PyProof.Rows
end L2
set_option Elab.async false
set_option linter.all false
set_option maxRecDepth 100000
set_option maxHeartbeats 0
namespace L2
open PySem PySem.Spec PyProof.Rows
section
variable {X : Cx}
def EN : XK := fun _ _ _ => False
theorem passN : Passes (CXE X.prog X.w) X EN := by
  intro pins σ H1 s1 e s' I h
  obtain ⟨a, C, T, a0, d, H', _, _, _, _, _, _, _, _, _, _, q⟩ := h
  exact q.elim
end
end L2
set_option Elab.async false
set_option linter.all false
set_option maxRecDepth 100000
set_option maxHeartbeats 0
namespace L2
open PySem PySem.Spec PyProof.Rows
section
variable {X : Cx} {e : Expr} {te : TE} {p p2 pos pos2 : Pos}
theorem PS.nox {st : Stmt} {t : TS} (h : PS X.nox st t) : PS X st t := fun pins s σ H D I hw =>
  wpAny_mono (h pins s σ H D (I.wish _) hw) (fun _ _ q => q.unwish) fun _ _ z => False.elim z
end
end L2
set_option Elab.async false
set_option linter.all false
set_option maxRecDepth 100000
set_option maxHeartbeats 0
namespace L2
open PySem PySem.Spec PyProof.Rows
section
variable {σ : St} {H H' : Hp} {Q : VK} {D : Ends} {c : Cl} {v x y : V} {k o n j : Int} {K : PySem.W.Frag} {C : Addr} {ta tb : TE}
def rIsN : R2 := fun x y H Q => y = .non ∧ Q (.bl (decide (x = .non))) H
theorem op_isN' {X : Cx} : OpR X (compareOp .Is) rIsN := op_isN
theorem wp_isNn (h : Q (.bl true) H) : rIsN .non .non H Q := ⟨rfl, by rw [decide_eq_true rfl]; exact h⟩
end
end L2
namespace L2
open PySem PySem.Spec PyProof.Rows
end L2
namespace L2
open PySem PySem.Spec PyProof.Rows
section
variable {σ : St} {H H' : Hp} {D : Ends} {K : PySem.W.Frag} {x a : Addr}
theorem wp_try' {CB : Addr} {i : Nat} {z : St} {tb : XK → TS} {ts : TS} (h : ∀ HE : XK, HE = handE K CB i z ts D → tb HE D σ H) : tTry K CB i z tb ts D σ H := h _ rfl
theorem none_same (s : Same H H') (h : H' a = none) : H a = none := by
  cases q : H a with
  | none => rfl
  | some o => have := s _ _ q; rw [h] at this; cases this
theorem wp_lstF {xs : List V} {Q : VK} (hz : xs.length ≤ 1000) (h : ∀ a H', Same H H' → H' a = some (.lst xs) → H a = none → Q (.ref a) H') : lstK xs H Q := ⟨Nat.le_of_lt (small1000 hz), fun p hp => h p _ (Same.upd hp) upd_same hp⟩
theorem wp_callE {sp : Sp} {E : XK} {t : TA} {Q : VK} (h : t σ H fun vs H1 => sp vs H1 Q E) : tCallE sp E t σ H Q := h
end
end L2
set_option Elab.async false
set_option linter.all false
set_option maxRecDepth 100000
set_option maxHeartbeats 0
namespace L2
open PySem PySem.Spec PyProof.Rows
theorem strs_of_vals : ∀ {ss : List Str} {us : List Value}, Vals (ss.map V.str) us → ∃ l : List (Str × Tok), us = strValues l ∧ l.map (·.1) = ss
  | [], us, r => by cases r; exact ⟨[], rfl, rfl⟩
  | x :: ss, us, r => by
    cases r with
    | @cons _ u _ us ru rr =>
      obtain ⟨t, rfl⟩ := ru
      obtain ⟨l, rfl, e⟩ := strs_of_vals rr
      exact ⟨(x, t) :: l, rfl, by rw [List.map_cons, e]⟩
section
variable {X : Cx}
def rJoin (K : PySem.W.Frag) : V → List V → Hp → VK → Prop := fun x vs H Q => ∃ (y : Str) (p : Addr) (ss : List Str), x = .str y ∧ vs = [.ref p] ∧ SqL K H p (ss.map V.str) ∧ JoinOk y ss = true ∧ Q (.str (Txt.join y ss)) H
theorem mt_join : MtR X "str.join" (rJoin X.K) := by
  intro pins s σ H x xs v us Q I rx rv h
  obtain ⟨y, p, ss, rfl, rfl, hq, hok, q⟩ := h
  obtain ⟨t, rfl⟩ := rx
  obtain ⟨w, rfl, rw'⟩ := rv.one
  cases rw'
  obtain ⟨its, r, pl, hz⟩ := I.list hq
  obtain ⟨l, rfl, e⟩ := strs_of_vals r
  exact SC.join pl.isList e hok fun t' k => ⟨.str _, H, I.tok k, ⟨t', rfl⟩, q⟩
theorem wp_join {K : PySem.W.Frag} {H : Hp} {Q : VK} {y : Str} {p : Addr} {ss : List Str} (hq : SqL K H p (ss.map V.str)) (hok : JoinOk y ss = true) (q : Q (.str (Txt.join y ss)) H) : rJoin K (.str y) [.ref p] H Q := ⟨y, p, ss, rfl, rfl, hq, hok, q⟩
end
theorem cps_app (a b : Str) : (a ++ b).cps = a.cps ++ b.cps := rfl
theorem str_ext {a b : Str} (h : a.cps = b.cps) : a = b := by cases a; cases b; cases h; rfl
end L2
set_option Elab.async false
set_option linter.all false
set_option maxRecDepth 100000
set_option maxHeartbeats 0
namespace L2
open PySem PySem.Spec PyProof.Rows
section
variable {X : Cx} {K : PySem.W.Frag} {σ : St} {H : Hp} {Q : VK}
def rNotInS : R2 := fun x y H Q => ∃ i j, x = .str i ∧ y = .str j ∧ Q (.bl (!(!(Builtin.Str.occurrences j i 0 j.length 1).isEmpty))) H
theorem op_notInS : OpR X (compareOp .NotIn) rNotInS := op_notin_str
theorem wp_notInS {i j : Str} (h : Q (.bl (!(!(Builtin.Str.occurrences j i 0 j.length 1).isEmpty))) H) : rNotInS (.str i) (.str j) H Q := ⟨i, j, rfl, rfl, h⟩
theorem wp_raiseI {E : XK} {C : Addr} {sp : Sp} {t : TA} {D : Ends} (h : t σ H fun xs H1 => xs.length ≤ sizeLine ∧ ∀ a, H1 a = none → sp (.ref a :: xs) (upd H1 a (excN a C none)) (fun v H2 => v = .non ∧ ∃ d, H2 a = some (excN a C d) ∧ E (.ref C) d (delH H2 a)) (fun _ _ _ => False)) : tRaiseI E C sp t D σ H := h
theorem wp_excAt {ta : TE} {f : Str} (h : ta σ H fun x H1 => ∃ a C dx fs n, x = .ref a ∧ H1 a = some (excHO a C (some dx)) ∧ H1 dx = some (.xd fs) ∧ fs.lookup f = some (.int n) ∧ ExcF K C ∧ ExcS K C f ∧ Q (.int n) H1) : tExcAt K ta f σ H Q := h
theorem wp_sexc {ta tv : TE} {f : Str} {D : Ends} (h : tv σ H fun y H1 => ta σ H1 fun x H2 => ∃ a C, x = .ref a ∧ H2 a = some (excN a C none) ∧ ExcS K C f ∧ ∀ dx, H2 dx = none → dx ≠ a → D.nx σ (upd (upd H2 dx (.xd [(f, y)])) a (excN a C (some dx)))) : sExc K ta tv f D σ H := h
theorem pe_excAtK {K : PySem.W.Frag} {o : Expr} {f : Str} {pos : Pos} {ta : TE} (ha : PE X o ta) (hK : X.K = K := by rfl) (hb : attributeBase o f X.env (eval o X.env) = eval o X.env := by rfl) : PE X (.Attribute o f pos) (tExcAt K ta f) := by
  subst hK
  exact pe_excAt ha hb
def spAtI (C : Addr) : Sp := fun vs H Q _ => ∃ (a : Addr) (n : Int), vs = [.ref a, .int n] ∧ H a = some (excN a C none) ∧ ∀ dx, H dx = none → dx ≠ a → Q .non (upd (upd H dx (.xd [("at", .int n)])) a (excN a C (some dx)))
theorem raise_at {E : XK} {C : Addr} {n : Int} (h : ∀ dx H', Same H H' → H dx = none → H' dx = some (.xd [("at", .int n)]) → E (.ref C) (some dx) H') :
    [V.int n].length ≤ sizeLine ∧ ∀ a, H a = none → spAtI C (.ref a :: [V.int n]) (upd H a (excN a C none)) (fun v H2 => v = .non ∧ ∃ d, H2 a = some (excN a C d) ∧ E (.ref C) d (delH H2 a)) (fun _ _ _ => False) := by
  refine ⟨by rw [sizeLine_eq]; show 1 ≤ _; omega, fun a ha => ⟨a, n, rfl, upd_same, fun dx hdx hne => ⟨rfl, some dx, upd_same, ?_⟩⟩⟩
  rw [upd_ne hne] at hdx
  refine h dx _ (fun b o e => ?_) hdx ?_
  · have n1 : b ≠ a := ne_of_none e ha
    have n2 : b ≠ dx := ne_of_none e hdx
    rw [delH_ne n1, upd_ne n1, upd_ne n2, upd_ne n1]
    exact e
  · rw [delH_ne hne, upd_ne hne]
    exact upd_same
end
section
variable {P : Program} {w : World} {K : PySem.W.Frag} {mg : Str → Option Value} {base : Heap}
theorem Mt.okX {C : Addr} {x qual : Str} {st : Stmt} {N ps : List Str} {k : Nat} {sp : Sp} (F : Mt K C x qual st ps) (S : FnScope N ps (defScope st)) (len : ∀ vs H Q E, sp vs H Q E → vs.length = ps.length)
    (hbody : ∀ (f : Addr) (cdv : Value) (A : Around) (outer : List Env) (s : Shared) (H : Hp) (vs : List V) (Q : VK) (E : XK), Room k (A.deeper (envOfC qual (defScope st) s.heap.objs.size f cdv)) → sp vs H Q E →
      ∃ t, PSs (cxE P w K mg base N qual (defScope st) f cdv A outer s H E) (defBody st) t ∧ t { nx := fun _ H' => Q .non H', rt := Q } (start N vs) H) :
    ∃ f fd, PySem.W.findIn K (.ref C) x = some (some (.ref f)) ∧ FnOk P w K mg base (CXE P w) (k + 1) f fd ps sp ∧ Binds K fd ps [] := by
  obtain ⟨f, fd, F, hf, hi, hb⟩ := F.ex
  obtain ⟨oc, od, kV, doc, pm, an, cdv, ct, osl, rfl, lk, hcd⟩ := F.ex
  exact ⟨f, _, hf, fn_of lk hcd S len fun A outer s H vs Q E hr hsp => hbody f cdv A outer s H vs Q E hr hsp, hb⟩
end
theorem slice_1 (x : Str) : Txt.slice x (some 1) none = ⟨(x.cps.toList.drop 1).toArray⟩ := by
  by_cases h : 1 ≤ x.cps.toList.length
  · refine (StrLaws.sliceText_from (x := x) (i := 1) ⟨by omega, by omega⟩).trans ?_
    rw [List.take_of_length_le (by rw [List.length_drop]; omega)]
    rfl
  · have e : x.cps.toList = [] := List.length_eq_zero_iff.mp (by omega)
    have e2 : x = ⟨#[]⟩ := str_ext (Array.toList_inj.mp e)
    subst e2
    decide
theorem slice_to1 (x : Str) : Txt.slice x none (some 1) = ⟨(x.cps.toList.take 1).toArray⟩ := by
  by_cases h : 1 ≤ x.cps.toList.length
  · exact (StrLaws.sliceText_to (x := x) (j := 1) ⟨by omega, by omega⟩)
  · have e : x.cps.toList = [] := List.length_eq_zero_iff.mp (by omega)
    have e2 : x = ⟨#[]⟩ := str_ext (Array.toList_inj.mp e)
    subst e2
    decide
theorem join_eq (y : Str) (ss : List Str) : Txt.join y ss = Str.join y ss := StrLaws.glued_eq_join y ss
theorem joinOk_few {y : Str} {ss : List Str} (h : ∀ s ∈ ss, s.length ≤ 100) (hn : ss.length ≤ 1000) (hy : y.length ≤ 1) : JoinOk y ss = true := by
  refine joinOk_of ?_
  have h1 : ∀ l : List Str, (∀ s ∈ l, s.length ≤ 100) → (l.map (·.length)).sum ≤ 100 * l.length := by
    intro l
    induction l with
    | nil => intro _; simp
    | cons a l ih =>
      intro h
      have := ih fun s hs => h s (List.mem_cons_of_mem _ hs)
      have := h a List.mem_cons_self
      rw [List.map_cons, List.sum_cons, List.length_cons]
      omega
  have h2 := h1 ss h
  have h3 : ss.length * y.length ≤ ss.length * 1 := Nat.mul_le_mul_left _ hy
  omega
end L2
set_option Elab.async false
set_option linter.all false
set_option maxRecDepth 100000
set_option maxHeartbeats 0
namespace L2
open PySem PySem.Spec PyProof.Rows PySem.NumText
section
variable {X : Cx} {K : PySem.W.Frag} {σ : St} {H : Hp} {Q : VK}
def shI (n : Int) : Str := Str.ofString (toString n)
def rStrI : List V → Hp → VK → Prop := fun xs H Q => ∃ i : Int, xs = [.int i] ∧ i.natAbs.log2 < 1920 ∧ Q (.str (shI i)) H
theorem call_strI : CallR X (.type "str") rStrI := call_str_int
theorem wp_strI {i : Int} (h1 : i.natAbs.log2 < 1920) (h : Q (.str (shI i)) H) : rStrI [.int i] H Q := ⟨i, rfl, h1, h⟩
def rIntS : List V → Hp → VK → Prop := fun xs H Q => ∃ (x : Str) (n : Int), xs = [.str x] ∧ PySem.intText? x = some n ∧ x.length ≤ 640 ∧ Q (.int n) H
theorem call_intS : CallR X (.type "int") rIntS := by
  intro pins s σ H xs us Q I r h
  obtain ⟨x, n, rfl, hn, hl, q⟩ := h
  obtain ⟨u, rfl, rx⟩ := vals1 r
  obtain ⟨t, rfl⟩ := rx
  exact PySem.W.KIN.call_text hn hl ⟨.int n, H, I.tok _, ⟨_, rfl⟩, q⟩
theorem wp_intS {x : Str} {n : Int} (hn : PySem.intText? x = some n) (hl : x.length ≤ 640) (h : Q (.int n) H) : rIntS [.str x] H Q := ⟨x, n, rfl, hn, hl, h⟩
end
theorem log2_lt {m : Nat} (h : m < 10 ^ 100) : m.log2 < 1920 := by
  by_cases h0 : m = 0
  · subst h0; decide
  · refine (Nat.log2_lt h0).mpr (Nat.lt_trans h ?_)
    have h1 : (10 : Nat) ^ 100 < 2 ^ 400 := by decide +kernel
    exact Nat.lt_of_lt_of_le h1 (Nat.pow_le_pow_right (by decide) (by decide))
def figs (m : Nat) : List Nat := (Nat.toDigits 10 m).map Char.toNat
theorem figs_small {m : Nat} (h : m < 10) : figs m = [48 + m] := by
  unfold figs
  rw [Nat.toDigits_of_lt_base h]
  have : ∀ d : Nat, d < 10 → [Nat.digitChar d].map Char.toNat = [48 + d] := by decide
  exact this m h
theorem figs_big {m : Nat} (h : 10 ≤ m) : figs m = figs (m / 10) ++ [48 + m % 10] := by
  have hm : m % 10 < 10 := Nat.mod_lt m (by decide)
  have t : Nat.toDigits 10 (m / 10) ++ Nat.toDigits 10 (m % 10) = Nat.toDigits 10 (10 * (m / 10) + m % 10) := Nat.toDigits_append_toDigits (by decide) (by omega) hm
  rw [Nat.div_add_mod] at t
  unfold figs
  rw [← t, List.map_append]
  have e := figs_small hm
  unfold figs at e
  rw [e]
theorem figs_len {m k : Nat} (hk : 1 ≤ k) (h : m < 10 ^ k) : (figs m).length ≤ k := by
  unfold figs
  rw [List.length_map]
  exact toDigits_len_pow (by decide) hk h
theorem shI_nat (m : Nat) : (shI (m : Int)).cps.toList = figs m := PySem.W.KIN.signs_num m
theorem shI_neg {n : Int} (h : n < 0) : (shI n).cps.toList = 45 :: figs n.natAbs := by
  obtain ⟨m, rfl⟩ : ∃ m : Nat, n = Int.negSucc m := by
    cases n with
    | ofNat m => exact absurd h (by simp)
    | negSucc m => exact ⟨m, rfl⟩
  unfold shI
  rw [signs_ofString]
  show ("-" ++ (Nat.repr (m + 1))).toList.map Char.toNat = 45 :: figs (m + 1)
  unfold figs
  rw [String.toList_append, List.map_append, Nat.toList_repr]
  rfl
theorem shI_pos {n : Int} (h : 0 ≤ n) : (shI n).cps.toList = figs n.natAbs := by
  obtain ⟨m, rfl⟩ := Int.eq_ofNat_of_zero_le h
  exact shI_nat m
theorem figs_digits (m : Nat) : AllDigits (figs m) := by
  intro c hc
  unfold figs at hc
  obtain ⟨ch, hch, e⟩ := List.mem_map.mp hc
  rw [← e]
  exact digit_range (Nat.isDigit_of_mem_toDigits (by decide) (by decide) hch)
theorem figs_ne (m : Nat) : figs m ≠ [] := by
  intro e
  have h := toDigits_len_ge 10 m
  unfold figs at e
  rw [List.map_eq_nil_iff.mp e] at h
  exact absurd h (by decide)
theorem figs_val (m : Nat) : digitsVal (figs m) = m := PySem.W.KIN.val_back m
theorem figs_of {cs : List Nat} (hd : AllDigits cs) (hne : cs ≠ []) (h0 : cs.head? = some 48 → cs = [48]) : figs (digitsVal cs) = cs := by
  unfold figs
  obtain ⟨c, r, rfl⟩ : ∃ c r, cs = c :: r := by
    cases cs with
    | nil => exact absurd rfl hne
    | cons c r => exact ⟨c, r, rfl⟩
  have hc := hd.head
  have e := toDigits_digitsVal r.length (c :: r) rfl hd (by
    by_cases h : c = 48
    · subst h
      have := h0 rfl
      left
      have : r = [] := (List.cons.inj this).2
      rw [this]; rfl
    · exact .inr ⟨c, r, rfl, by omega⟩)
  rw [e, List.map_map]
  have : ∀ l : List Nat, AllDigits l → l.map (Char.toNat ∘ Char.ofNat) = l := by
    intro l
    induction l with
    | nil => intro _; rfl
    | cons d l ih =>
      intro h
      rw [List.map_cons, ih h.tail]
      have hd := h.head
      have : ∀ d : Nat, d < 58 → (Char.toNat ∘ Char.ofNat) d = d := by decide
      rw [this d (by omega)]
  exact this _ hd
theorem figs_head {m : Nat} (h : (figs m).head? = some 48) : m = 0 := by
  induction m using Nat.strongRecOn with
  | _ m ih =>
    by_cases h10 : m < 10
    · rw [figs_small h10] at h
      have : 48 + m = 48 := by simpa using h
      omega
    · rw [figs_big (by omega)] at h
      have hne := figs_ne (m / 10)
      have h2 : (figs (m / 10)).head? = some 48 := by
        cases hf : figs (m / 10) with
        | nil => exact absurd hf hne
        | cons c r => rw [hf] at h; simpa using h
      have := ih (m / 10) (by omega) h2
      omega
end L2
set_option Elab.async false
set_option linter.all false
set_option maxRecDepth 100000
set_option maxHeartbeats 0
namespace L2
open PySem PySem.Spec PyProof.Rows
theorem compScopeC {X : Cx} {scope : Scope} {cl : List (Str × Addr)} {x : Str} {caps : List (Str × Nat)} (kind : scope.kind = .function) (clos : closureFor scope X.env = pure cl) (ncell : ∀ y ∈ scope.names, y.2 ≠ .cell)
    (names : ∀ y ∈ scope.names, y.2 = .local → scope.names.lookup y.1 = some .local) (xl : scope.names.lookup x = some .local) (sub : ∀ y c, cl.lookup y = some c → X.env.cells.lookup y = some c) (hn : ((relabel scope X.env).names.all fun p => !(p.2 == .cell || p.2 == .free) || (cl.map (·.1)).contains p.1) = true)
    (cap : ∀ (k : Nat) y j, caps[k]? = some (y, j) → X.N[j]? = some y ∧ Vis X.env.scope y ∧ (X.env.kindOf y = some .cell ∨ X.env.kindOf y = some .free) ∧ ((relabel scope X.env).names.lookup y = some .cell ∨ (relabel scope X.env).names.lookup y = some .free))
    (nd : (x :: caps.map (·.1)).Nodup) : CompScope X scope cl x caps where
  kind := kind
  clos := clos
  ncell := ncell
  names := names
  xloc := xl
  sub := sub
  has := fun y hy => by
    have hm : y ∈ cl.map (·.1) := by
      have all := List.all_eq_true.mp hn
      rcases hy with hy | hy
      · have z := all _ (PySem.mem_of_lookup hy)
        simpa using z
      · have z := all _ (PySem.mem_of_lookup hy)
        simpa using z
    clear clos sub hn cap nd hy
    induction cl with
    | nil => exact nomatch hm
    | cons p r ih =>
      by_cases h : y = p.1
      · subst h
        exact ⟨p.2, by rw [List.lookup_cons, beq_self_eq_true]⟩
      · have hm' : y ∈ r.map (·.1) := by
          rcases List.mem_cons.mp hm with z | z
          · exact absurd z h
          · exact z
        obtain ⟨c, hc⟩ := ih hm'
        exact ⟨c, by rw [List.lookup_cons, beq_eq_false_iff_ne.mpr h]; exact hc⟩
  cap := cap
  nd := nd
end L2
set_option Elab.async false
set_option linter.all false
set_option maxRecDepth 100000
set_option maxHeartbeats 0
namespace L2
open PySem PySem.Spec PyProof.Rows PySem.NumText
theorem sub_lookup {cl cells : List (Str × Addr)} (h : ∀ p ∈ cl, cells.lookup p.1 = some p.2) : ∀ y c, cl.lookup y = some c → cells.lookup y = some c := fun y c e => h (y, c) (PySem.mem_of_lookup e)
theorem sub1 {cells : List (Str × Addr)} {a : Str} {x : Addr} (h : cells.lookup a = some x) : ∀ y c, List.lookup y [(a, x)] = some c → cells.lookup y = some c := sub_lookup fun p hp => by rw [List.mem_singleton.mp hp]; exact h
theorem comp_range {H : Hp} {Q : VK} {lo : Int} {n : Nat} {tc : TT} {te : TE} {cvs : List V} (hz : n ≤ 100000) (Pv : Addr → Nat → List V → Hp → Prop)
    (h0 : ∀ D, H D = none → Pv D 0 [] (upd H D (.lst []))) (hD : ∀ D i acc H', H D = none → i ≤ n → Pv D i acc H' → H' D = some (.lst acc) ∧ acc.length ≤ i)
    (hs : ∀ D i acc H' (N : List V → Hp → Prop), H D = none → i < n → acc.length < sizeLine → (∀ acc' H2, Pv D (i + 1) acc' H2 → N acc' H2) → Pv D i acc H' → tc (some (.int (lo + i)) :: cvs.map some) H' fun b H2 => if b = true then te (some (.int (lo + i)) :: cvs.map some) H2 fun y H3 => H3 D = some (.lst acc) ∧ acc.length < sizeLine ∧ N (acc ++ [y]) (upd H3 D (.lst (acc ++ [y]))) else N acc H2)
    (hd : ∀ D acc H', H D = none → Pv D n acc H' → Q (.ref D) H') : compK tc te cvs Q (Itr lo n) H := by
  intro D hDn
  refine ⟨fun i m acc H' => m = n - i ∧ i ≤ n ∧ Pv D i acc H', ⟨_, rfl, Nat.zero_le _, h0 D hDn⟩, ?_⟩
  rintro i m acc H' ⟨rfl, hi, hp⟩
  obtain ⟨d1, d2⟩ := hD D i acc H' hDn hi hp
  refine ⟨d1, ?_⟩
  by_cases hlt : i < n
  · refine .inr ⟨hlt, fun v H2 y => ?_⟩
    obtain ⟨rfl, rfl⟩ := y
    exact hs D i acc _ (fun acc' H'' => ∃ m', m' < n - i ∧ (m' = n - (i + 1) ∧ i + 1 ≤ n ∧ Pv D (i + 1) acc' H'')) hDn hlt (by rw [sizeLine_eq]; omega) (fun acc' H'' hp' => ⟨n - (i + 1), by omega, rfl, hlt, hp'⟩) hp
  · have e : i = n := by omega
    subst e
    exact .inl ⟨Nat.le_refl _, hd D acc H' hDn hp⟩
section
variable {X : Cx}
theorem vals_refs : ∀ {Ds : List Addr} {us : List Value}, Vals (Ds.map V.ref) us → us = Ds.map Value.ref
  | [], us, r => by cases r; rfl
  | D :: Ds, us, r => by
    cases r with
    | cons r1 r2 =>
      cases r1
      rw [vals_refs r2]
      rfl
def rIsiET (K : PySem.W.Frag) : List V → Hp → VK → Prop := fun xs H Q => ∃ (a C tp : Addr) (d : Option Addr) (Ds : List Addr) (b : Bool), xs = [.ref a, .ref tp] ∧ H a = some (excHO a C d) ∧ ExcF K C ∧ H tp = some (.tup (Ds.map V.ref)) ∧ PySem.W.kitAny K (.ref C) (Ds.map Value.ref) = some b ∧ Q (.bl b) H
theorem call_isinstET : CallR X (.builtin "isinstance") (rIsiET X.K) := by
  intro pins s σ H xs us Q I r h
  obtain ⟨a, C, tp, d, Ds, b, rfl, ha, F, ht, hk, q⟩ := h
  obtain ⟨u, w', rfl, r1, r2⟩ := vals2 r
  cases r1
  cases r2
  obtain ⟨its, rv, p, hz⟩ := I.tuple (.inl (.inl ht))
  have e := vals_refs rv
  subst e
  obtain ⟨x, _, _⟩ := (show ObjOk X.prog X.w H s.heap a (excHO a C d) from I.hok a _ ha)
  obtain ⟨o, ho, hc, n, hd⟩ := p
  obtain ⟨cls, dd, dat, sl⟩ := o
  have hc' : cls = .type "tuple" := hc
  have hd' : dat = .seq (Ds.map Value.ref).toArray n := hd
  subst hc' hd'
  exact PySem.W.kia_tup (kitx_exc F) I.kIn x ho hk (fun z => nomatch z) fun tk => ⟨.bl b, H, I.tok _, rfl, q⟩
theorem wp_isiET {K : PySem.W.Frag} {H : Hp} {Q : VK} {a C tp : Addr} {d : Option Addr} {Ds : List Addr} {b : Bool} (ha : H a = some (excHO a C d)) (hf : ExcF K C) (ht : H tp = some (.tup (Ds.map V.ref))) (hk : PySem.W.kitAny K (.ref C) (Ds.map Value.ref) = some b) (q : Q (.bl b) H) : rIsiET K [.ref a, .ref tp] H Q := ⟨a, C, tp, d, Ds, b, rfl, ha, hf, ht, hk, q⟩
end
section
variable {X : Cx} {K : PySem.W.Frag} {σ : St} {H : Hp} {Q : VK}
def rStarts : V → List V → Hp → VK → Prop := fun x vs H Q => ∃ (z y : Str), x = .str z ∧ vs = [.str y] ∧ Q (.bl (Txt.startswith z y)) H
theorem mt_starts : MtR X "str.startswith" rStarts := by
  intro pins s σ H x xs v us Q I rx rv h
  obtain ⟨z, y, rfl, rfl, q⟩ := h
  obtain ⟨t, rfl⟩ := rx
  obtain ⟨w, rfl, u, rfl⟩ := rv.one
  exact SC.startswith ⟨.bl _, H, I, rfl, q⟩
theorem wp_starts {z y : Str} (h : Q (.bl (Txt.startswith z y)) H) : rStarts (.str z) [.str y] H Q := ⟨z, y, rfl, rfl, h⟩
def rIndexS : V → List V → Hp → VK → Prop := fun x vs H Q => ∃ (z y : Str) (i : Nat) (rest : List Nat), x = .str z ∧ vs = [.str y] ∧ Builtin.Str.occurrences z y 0 z.length 1 = i :: rest ∧ Q (.int i) H
theorem mt_indexS : MtR X "str.index" rIndexS := by
  intro pins s σ H x xs v us Q I rx rv h
  obtain ⟨z, y, i, rest, rfl, rfl, ho, q⟩ := h
  obtain ⟨t, rfl⟩ := rx
  obtain ⟨w, rfl, u, rfl⟩ := rv.one
  exact SC.index ho ⟨.int i, H, I.tok _, ⟨_, rfl⟩, q⟩
theorem wp_indexS {z y : Str} {i : Nat} {rest : List Nat} (ho : Builtin.Str.occurrences z y 0 z.length 1 = i :: rest) (h : Q (.int i) H) : rIndexS (.str z) [.str y] H Q := ⟨z, y, i, rest, rfl, rfl, ho, h⟩
def rAbs : List V → Hp → VK → Prop := fun xs H Q => ∃ i : Int, xs = [.int i] ∧ Q (.int (if i < 0 then -i else i)) H
theorem call_abs' : CallR X (.builtin "abs") rAbs := call_abs
theorem wp_abs {i : Int} (h : Q (.int i.natAbs) H) : rAbs [.int i] H Q := ⟨i, rfl, by
  have e : (if i < 0 then -i else i) = (i.natAbs : Int) := by split <;> omega
  rw [e]; exact h⟩
def rDivm : List V → Hp → VK → Prop := fun xs H Q => ∃ i j : Int, xs = [.int i, .int j] ∧ CDiv i j ∧ ∀ p, H p = none → Q (.ref p) (upd H p (.tup [.int (i / j), .int (i % j)]))
theorem call_divm : CallR X (.builtin "divmod") rDivm := call_divmod
theorem wp_divm {i j : Int} (hc : CDiv i j) (h : ∀ p H', Same H H' → H' p = some (.tup [.int (i / j), .int (i % j)]) → Q (.ref p) H') : rDivm [.int i, .int j] H Q := ⟨i, j, rfl, hc, fun p hp => h p _ (Same.upd hp) upd_same⟩
end
theorem mi_mk : (Str.ofString "-") = ⟨#[45]⟩ := by decide
theorem fi_cps : ((Str.ofString "0123456789")).cps.toList = [48, 49, 50, 51, 52, 53, 54, 55, 56, 57] := by decide
def inF (c : Nat) : Bool := !(Builtin.Str.occurrences (Str.ofString "0123456789") ⟨#[c]⟩ 0 ((Str.ofString "0123456789")).length 1).isEmpty
theorem inF_iff (c : Nat) : inF c = true ↔ 48 ≤ c ∧ c ≤ 57 := by
  unfold inF
  rw [StrLaws.found_one, decide_eq_true_iff, fi_cps]
  simp only [List.mem_cons, List.not_mem_nil, or_false]
  omega
theorem all_inF {l : List Nat} : l.all inF = true ↔ AllDigits l := by
  rw [List.all_eq_true]
  exact ⟨fun h c hc => (inF_iff c).mp (h c hc), fun h c hc => (inF_iff c).mpr (h c hc)⟩
open Classical in
noncomputable def fg (t : Str) : Str := if Txt.slice t none (some 1) = (Str.ofString "-") then Txt.slice t (some 1) none else t
open Classical in
noncomputable def valN (t : Str) : Int := if Txt.slice t none (some 1) = (Str.ofString "-") then -((digitsVal (fg t).cps.toList : Nat) : Int) else ((digitsVal (fg t).cps.toList : Nat) : Int)
def okN (t : Str) : Prop := fg t ≠ Str.ofString "" ∧ (fg t).length ≤ 60 ∧ ¬ ((fg t).cps.toList.head? = some 48 ∧ t ≠ Str.ofString "0") ∧ (fg t).cps.toList.all inF = true
open Classical in
noncomputable def dueN (t : Str) : Option Int := if okN t then some (valN t) else none
theorem neg_iff (t : Str) : Txt.slice t none (some 1) = (Str.ofString "-") ↔ t.cps.toList.head? = some 45 := by
  rw [slice_to1, mi_mk]
  constructor
  · intro h
    have h2 := congrArg (fun x : Str => x.cps.toList) h
    have h3 : t.cps.toList.take 1 = [45] := by simpa using h2
    cases hl : t.cps.toList with
    | nil => rw [hl] at h3; cases h3
    | cons a r => rw [hl] at h3; simpa using h3
  · intro h
    cases hl : t.cps.toList with
    | nil => rw [hl] at h; cases h
    | cons a r => rw [hl] at h; have e : a = 45 := by simpa using h
                  subst e; rfl
theorem starts_iff (t : Str) : Txt.startswith t (Str.ofString "-") = decide (Txt.slice t none (some 1) = (Str.ofString "-")) := by
  have key : Txt.startswith t (Str.ofString "-") = true ↔ t.cps.toList.head? = some 45 := by
    have e : Txt.startswith t (Str.ofString "-") = (decide (0 + ((Str.ofString "-")).length ≤ t.length) && Builtin.Str.subAt t (Str.ofString "-") 0) := rfl
    have hl : ((Str.ofString "-")).length = 1 := by decide
    have hm : ((Str.ofString "-")).cps = #[45] := by decide
    have hz : t.length = t.cps.toList.length := Array.length_toList.symm
    have hx : (t.cps.extract 0 (0 + 1)).toList = t.cps.toList.take 1 := by
      rw [Array.toList_extract]
      rfl
    rw [e, hl, hz]
    unfold Builtin.Str.subAt
    rw [hl, hm, Bool.and_eq_true, decide_eq_true_iff, beq_iff_eq, ← Array.toList_inj, hx]
    generalize t.cps.toList = l
    cases l with
    | nil => simp
    | cons a r => simp
  rw [Bool.eq_iff_iff, decide_eq_true_iff]
  exact key.trans (neg_iff t).symm
theorem fg_len (t : Str) : (fg t).length ≤ t.length := by
  unfold fg
  split
  · exact Txt.slice_le _ _ _
  · exact Nat.le_refl _
theorem fg_neg {t : Str} (h : Txt.slice t none (some 1) = (Str.ofString "-")) : t.cps.toList = 45 :: (fg t).cps.toList := by
  have h1 := (neg_iff t).mp h
  unfold fg
  rw [if_pos h, slice_1]
  cases hl : t.cps.toList with
  | nil => rw [hl] at h1; cases h1
  | cons a r => rw [hl] at h1; have e : a = 45 := by simpa using h1
                subst e; rfl
theorem fg_pos {t : Str} (h : ¬ Txt.slice t none (some 1) = (Str.ofString "-")) : fg t = t := by unfold fg; rw [if_neg h]
theorem empty_iff (x : Str) : x = Str.ofString "" ↔ x.cps.toList = [] := by
  constructor
  · intro h; rw [h]; rfl
  · intro h; exact str_ext (Array.toList_inj.mp h)
theorem read_int {t : Str} (hl : t.length ≤ 4000) (hne : fg t ≠ Str.ofString "") (hd : (fg t).cps.toList.all inF = true) : PySem.intText? t = some (valN t) := by
  have hd := all_inF.mp hd
  have hne : (fg t).cps.toList ≠ [] := fun e => hne ((empty_iff _).mpr e)
  unfold valN
  by_cases h : Txt.slice t none (some 1) = (Str.ofString "-")
  · rw [if_pos h]
    exact intText_neg (fg_neg h) hd hne (by omega)
  · rw [if_neg h]
    rw [fg_pos h] at hd hne ⊢
    exact intText_digits hd hne (by omega)
theorem zero_cps : (Str.ofString "0").cps.toList = [48] := by decide
theorem canon {t : Str} (hne : fg t ≠ Str.ofString "") (hd : (fg t).cps.toList.all inF = true) : shI (valN t) = t ↔ ¬ ((fg t).cps.toList.head? = some 48 ∧ t ≠ Str.ofString "0") := by
  have hd := all_inF.mp hd
  have hne : (fg t).cps.toList ≠ [] := fun e => hne ((empty_iff _).mpr e)
  have tz : t = Str.ofString "0" ↔ t.cps.toList = [48] := ⟨fun h => by rw [h]; exact zero_cps, fun h => str_ext (Array.toList_inj.mp (h.trans zero_cps.symm))⟩
  unfold valN
  by_cases h : Txt.slice t none (some 1) = (Str.ofString "-")
  · rw [if_pos h]
    have ht := fg_neg h
    have hnz : t ≠ Str.ofString "0" := fun e => by
      have := tz.mp e
      rw [ht] at this
      cases this
    by_cases hz : digitsVal (fg t).cps.toList = 0
    · have hh : (fg t).cps.toList.head? = some 48 := by
        cases hc : (fg t).cps.toList with
        | nil => exact absurd hc hne
        | cons c r =>
          rw [hc] at hd hz
          have h1 := hd.head
          by_cases h49 : 49 ≤ c
          · have := digitsVal_pos (cs := r) h49
            omega
          · have : c = 48 := by omega
            rw [this]; rfl
      rw [hz]
      constructor
      · intro e
        exfalso
        have e2 : (shI (-((0 : Nat) : Int))).cps.toList = figs 0 := shI_nat 0
        rw [e, ht, figs_small (by decide)] at e2
        cases e2
      · intro e
        exact absurd ⟨hh, hnz⟩ e
    · have hlt : -((digitsVal (fg t).cps.toList : Nat) : Int) < 0 := by omega
      have e1 := shI_neg hlt
      have e2 : (-((digitsVal (fg t).cps.toList : Nat) : Int)).natAbs = digitsVal (fg t).cps.toList := by omega
      rw [e2] at e1
      constructor
      · intro e ⟨hh, _⟩
        rw [e, ht] at e1
        have e3 := (List.cons.inj e1).2
        rw [e3] at hh
        exact hz (figs_head hh)
      · intro e
        refine str_ext (Array.toList_inj.mp ?_)
        rw [e1, ht, figs_of hd hne fun hh => absurd ⟨hh, hnz⟩ e]
  · rw [if_neg h]
    have hf := fg_pos h
    rw [hf] at hd hne ⊢
    constructor
    · intro e ⟨hh, hnz⟩
      have e1 := shI_nat (digitsVal t.cps.toList)
      rw [e] at e1
      have e2 : digitsVal t.cps.toList = 0 := figs_head (by rw [← e1]; exact hh)
      rw [e2, figs_small (by decide)] at e1
      exact hnz (tz.mpr e1)
    · intro e
      refine str_ext (Array.toList_inj.mp ?_)
      rw [shI_nat]
      exact figs_of hd hne fun hh => by
        have : t = Str.ofString "0" := by
          by_cases hq : t = Str.ofString "0"
          · exact hq
          · exact absurd ⟨hh, hq⟩ e
        exact tz.mp this
theorem natlt {n : Int} {k : Nat} (hk : 1 ≤ k) (h : n.natAbs < 10 ^ k) : (figs n.natAbs).length ≤ k := figs_len hk h
theorem shI_len {n : Int} (h : n.natAbs < 10 ^ 60) : (shI n).length ≤ 61 := by
  have h1 := natlt (by decide) h
  show (shI n).cps.size ≤ 61
  rw [← Array.length_toList]
  by_cases h0 : n < 0
  · rw [shI_neg h0, List.length_cons]; omega
  · rw [shI_pos (by omega)]; omega
theorem due_shI {n : Int} (h : n.natAbs < 10 ^ 60) : dueN (shI n) = some n := by
  have h1 := natlt (by decide) h
  have hd := figs_digits n.natAbs
  have hn := figs_ne n.natAbs
  have key : (fg (shI n)).cps.toList = figs n.natAbs ∧ valN (shI n) = n := by
    by_cases h0 : n < 0
    · have e := shI_neg h0
      have hneg : Txt.slice (shI n) none (some 1) = (Str.ofString "-") := (neg_iff _).mpr (by rw [e]; rfl)
      have e2 := fg_neg hneg
      rw [e] at e2
      have e3 := (List.cons.inj e2).2
      refine ⟨e3.symm, ?_⟩
      unfold valN
      rw [if_pos hneg, ← e3, figs_val]
      omega
    · have e := shI_pos (n := n) (by omega)
      have hneg : ¬ Txt.slice (shI n) none (some 1) = (Str.ofString "-") := fun hh => by
        have := (neg_iff _).mp hh
        rw [e] at this
        cases hc : figs n.natAbs with
        | nil => exact hn hc
        | cons c r =>
          rw [hc] at this hd
          have := hd.head
          have e4 : c = 45 := by simpa using ‹(c :: r).head? = some 45›
          omega
      refine ⟨by rw [fg_pos hneg]; exact e, ?_⟩
      unfold valN
      rw [if_neg hneg, fg_pos hneg, e, figs_val]
      omega
  have hne : fg (shI n) ≠ Str.ofString "" := fun e => hn (key.1.symm.trans ((empty_iff _).mp e))
  have hall : (fg (shI n)).cps.toList.all inF = true := by rw [key.1]; exact all_inF.mpr hd
  have hc := (canon hne hall).mp (by rw [key.2])
  unfold dueN
  rw [if_pos ⟨hne, by show (fg (shI n)).cps.size ≤ 60; rw [← Array.length_toList, key.1]; exact h1, hc, hall⟩, key.2]
end L2
set_option Elab.async false
set_option linter.all false
set_option maxRecDepth 100000
set_option maxHeartbeats 0
namespace My
open PySem L2 PyProof.Rows
local macro_rules | `(tactic| walk_at "isp") => `(tactic| (first | assumption | exact IsP.same (by assumption) (by assumption) | exact IsP.same (by assumption) (Same.trans (by assumption) (by assumption)) | (refine IsP.same (by assumption) ?_; (repeat (first | assumption | refine Same.trans (by assumption) ?_)); done)))
local macro_rules | `(tactic| walk_at "sam") => `(tactic| (first | assumption | exact Same.refl _ | exact Same.trans (by assumption) (by assumption) | (refine Same.trans (by assumption) ?_; (repeat (first | assumption | refine Same.trans (by assumption) ?_)); done)))
local macro_rules | `(tactic| walk_at "isd") => `(tactic| (first | assumption | exact IsD.same (by assumption) (by assumption) | (refine IsD.same (by assumption) ?_; (repeat (first | assumption | refine Same.trans (by assumption) ?_)); done)))
local macro_rules | `(tactic| walk_at "ist") => `(tactic| (first | assumption | exact IsT.same (by assumption) (by assumption) | (refine IsT.same (by assumption) ?_; (repeat (first | assumption | refine Same.trans (by assumption) ?_)); done)))
local macro_rules | `(tactic| walk_at "ats") => `(tactic| (first | assumption | exact upd_same | (refine at_same (by assumption) ?_; (repeat (first | assumption | refine Same.trans (by assumption) ?_)); done)))
local macro_rules | `(tactic| walk_at "prune") => `(tactic| (exfalso; first | contradiction | omega | (rename_i hh; exact absurd hh (by decide)) | (rename_i hh; exact hh rfl)))
local macro_rules | `(tactic| walk_at "side") => `(tactic| (first | assumption | omega | (have hsz := sizeLine_eq; have := lit_ab; have := lit_q; have := lit_az; have := lit_a; have := lit_0; simp only [str_app_len]; omega) | (have hsz := sizeLine_eq; have := lit_ab; have := lit_q; have := lit_az; have := lit_a; have := lit_0; omega)))
local macro_rules | `(tactic| walk_at "rd0") => `(tactic| (first
  | ((with_reducible refine' wp_var ?hv ?_); (case hv => exact rfl))
  | (with_reducible refine wp_seq ?_)
  | (with_reducible refine wp_asg ?_)
  | (with_reducible refine wp_name ?_)
  | (with_reducible refine wp_op ?_)
  | (with_reducible refine wp_c ?_)
  | (with_reducible refine wp_test ?_)
  | (with_reducible refine wp_tB ?_)
  | (with_reducible refine wp_ifS ?_)
  | (with_reducible refine wp_ret ?_)
  | (with_reducible refine wp_retN ?_)
  | (with_reducible refine wp_next ?_)
  | (with_reducible refine wp_drop ?_)
  | (with_reducible refine wp_un ?_)
  | (with_reducible refine wp_rU ?_)
  | (with_reducible refine wp_rI0 ?_)
  | (with_reducible refine wp_rEqI ?_)
  | (with_reducible refine wp_rNeI ?_)
  | (with_reducible refine wp_rEqS ?_)
  | (with_reducible refine wp_rNeS ?_)
  | (with_reducible refine wp_rEqB ?_)
  | (with_reducible refine wp_rNeB ?_)
  | (with_reducible refine wp_bl ?_)
  | (with_reducible refine wp_int ?_)
  | (with_reducible refine wp_and ?_)
  | (with_reducible refine wp_or ?_)
  | (with_reducible refine wp_not ?_)
  | (with_reducible refine wp_andV ?_)
  | (with_reducible refine wp_orV ?_)
  | (with_reducible refine wp_notV ?_)
  | (with_reducible refine wp_ifE ?_)
  | (with_reducible refine wp_chain ?_)
  | (with_reducible refine wp_nil ?_)
  | (with_reducible refine wp_cons ?_)
  | (with_reducible refine wp_cB ?_)
  | (with_reducible refine wp_call ?_)
  | (with_reducible refine wp_noPart ?_)
  | (with_reducible refine wp_part ?_)
  | (with_reducible refine wp_sl ?_)
  | (with_reducible refine wp_for ?_)
  | (with_reducible refine wp_rng1 ?_)
  | (with_reducible refine wp_list ?_)
  | (with_reducible refine wp_ituple ?_)
  | (with_reducible refine wp_tup ?_)
  | (with_reducible refine wp_lst ?_)
  | ((with_reducible refine wp_rI ?hc ?_); (case hc => first | decide | (show CMul _ _; unfold CMul; omega) | (show CDiv _ _; unfold CDiv; omega) | (show (0:Int) < _; omega) | (show CPow _ _; unfold CPow; decide)))))
local macro_rules | `(tactic| walk_at "rdt") => `(tactic| (first
  | ((with_reducible refine wp_iteP ?_ ?_) <;> intro _ <;> try walk_at "prune")
  | ((with_reducible refine wp_iteN ?_ ?_) <;> intro _ <;> try walk_at "prune")
  | ((with_reducible refine wp_iteNB ?_ ?_) <;> intro _ <;> try walk_at "prune")
  | ((with_reducible refine wp_iteB ?_ ?_) <;> intro _ <;> try walk_at "prune")
  | (with_reducible refine iteT ?_)
  | (with_reducible refine iteF ?_)))
local macro_rules | `(tactic| walk_at "rds") => `(tactic| (first
  | ((with_reducible refine wp_ixS' ?a ?b ?c ?_); (case a => walk_at "side"); (case b => walk_at "side"); (case c => walk_at "side"); intro _ _ _)
  | ((with_reducible refine wp_slS ?a ?_); (case a => walk_at "side"); intro _ _ _)
  | ((with_reducible refine wp_addS ?a ?_); (case a => walk_at "side"))
  | ((with_reducible refine wp_lenS ?a ?_); (case a => walk_at "side"))
  | ((with_reducible refine wp_mulS ?a ?b ?c ?_); (case a => walk_at "side"); (case b => walk_at "side"); (case c => walk_at "side"); intro _)
  | (with_reducible refine wp_ltS ?_)
  | (with_reducible refine wp_gtS ?_)
  | ((with_reducible refine wp_rng1' ?a ?b ?_); (case a => walk_at "side"); (case b => walk_at "side"))))
local macro_rules | `(tactic| walk_at "rdp") => `(tactic| (first
  | ((with_reducible refine' wp_lenP ?hp ?_); (case hp => walk_at "isp"))
  | ((with_reducible refine' wp_eqP ?hp ?hq ?_); (case hp => walk_at "isp"); (case hq => walk_at "isp"))
  | ((with_reducible refine' wp_neP ?hp ?hq ?_); (case hp => walk_at "isp"); (case hq => walk_at "isp"))
  | ((with_reducible refine' wp_catP ?hp ?hq ?hl ?_); (case hp => walk_at "isp"); (case hq => walk_at "isp"); (case hl => walk_at "side"); intro _ _ _ _ _ _ _)
  | ((with_reducible refine' wp_slP ?hp ?_); (case hp => walk_at "isp"); intro _ _ _ _ _ _ _)
  | ((with_reducible refine wp_tupP0 ?_); intro _ _ _ _)
  | ((with_reducible refine wp_tupP1 ?_); intro _ _ _ _ _ _ _)
  | ((with_reducible refine wp_tupP2 ?_); intro _ _ _ _ _ _ _)
  | ((with_reducible refine' wp_isiP ?hp ?hk ?_); (case hp => walk_at "isp"); (case hk => rfl))
  | ((with_reducible refine wp_isiS ?hk ?_); (case hk => rfl))
  | ((with_reducible refine wp_isiB ?hk ?_); (case hk => rfl))))
local macro_rules | `(tactic| walk_at "rdo") => `(tactic| (first
  | (with_reducible refine wp_make ?_)
  | (with_reducible refine wp_methD ?_)
  | (with_reducible refine wp_fld ?_)
  | (with_reducible refine wp_sfld ?_)
  | ((with_reducible refine' wp_fldK ?ha ?hc ?hn ?hl ?_); (case ha => walk_at "ats"); (case hc => assumption); (case hn => assumption); (case hl => exact rfl))
  | ((with_reducible refine' wp_sfK ?ha ?hc ?hn ?hl ?_); (case ha => walk_at "ats"); (case hc => assumption); (case hn => assumption); (case hl => first | decide | (show (0:Nat) < 1000; decide) | (show (1:Nat) < 1000; decide) | (show (2:Nat) < 1000; decide) | (show (3:Nat) < 1000; decide)))
  | ((with_reducible refine' wp_ixT ?ha ?hv ?_); (case ha => walk_at "ats"); (case hv => exact rfl))
  | ((with_reducible refine' mk_put ?hp ?_); (case hp => walk_at "isp"); intro _ _ _ _)
  | ((with_reducible refine' mk_cut ?hp ?_); (case hp => walk_at "isp"); intro _ _ _ _)
  | ((with_reducible refine' mk_set ?hp ?_); (case hp => walk_at "isp"); intro _ _ _ _)
  | ((with_reducible refine' mk_move ?hp ?hq ?_); (case hp => walk_at "isp"); (case hq => walk_at "isp"); intro _ _ _ _)
  | ((with_reducible refine' wp_tput ?hp ?_); (case hp => walk_at "isp"); intro _ _ _ _)
  | ((with_reducible refine' wp_tcut ?hp ?_); (case hp => walk_at "isp"); intro _ _ _ _)
  | ((with_reducible refine' wp_tset ?hp ?_); (case hp => walk_at "isp"); intro _ _ _ _)
  | ((with_reducible refine' wp_tmove ?hp ?hq ?_); (case hp => walk_at "isp"); (case hq => walk_at "isp"); intro _ _ _ _)
  | ((with_reducible refine' use_told ?hd ?_); (case hd => walk_at "isd"); intro _ _ _ _)
  | ((with_reducible refine' use_back ?hd ?_); (case hd => walk_at "isd"); intro _ _ _ _)))
local macro_rules | `(tactic| walk_at "st") => `(tactic| (first
  | walk_at "rd0"
  | walk_at "rdt"
  | walk_at "rds"
  | walk_at "rdp"
  | walk_at "rdo"))
def top (i : Nat) : Stmt := PySem.Challenge.pw_boughback_k81_numbers_written.main.body.getD i (.Pass ⟨0, 0, 0, 0⟩)
abbrev sshow_number : Stmt := top 15
abbrev sread_number : Stmt := top 16
abbrev s_law_at : Stmt := top 18
abbrev s_law_is : Stmt := top 19
abbrev s_law_number : Stmt := top 20
abbrev s_law_figures : Stmt := top 21
abbrev s_law_sign : Stmt := top 22
abbrev s_law_spoiled : Stmt := top 23
abbrev s_law_text : Stmt := top 24
abbrev s_law_due : Stmt := top 25
abbrev s_law_refused : Stmt := top 26
abbrev slaw : Stmt := top 27
abbrev sNoText___init__ : Stmt := inClass (top 3) 0
structure Ek where
  xBoughError : Addr
  xUnfit : Addr
  xNoText : Addr
  xClash : Addr
  xHangs : Addr
  xNoStand : Addr
  xNoDeed : Addr
  xEmpty : Addr
  xNoWord : Addr
  xTwice : Addr
  xNoRoom : Addr
structure Txt (K : PySem.W.Frag) (mg : Str → Option Value) (e : Ek) : Prop where
  b_len : mg "len" = none
  b_range : mg "range" = none
  b_isinstance : mg "isinstance" = none
  b_bool : mg "bool" = none
  b_all : mg "all" = none
  b_int : mg "int" = none
  b_str : mg "str" = none
  b_abs : mg "abs" = none
  b_divmod : mg "divmod" = none
  b_ValueError : mg "ValueError" = none
  mBoughError : mg "BoughError" = some (.ref e.xBoughError)
  mUnfit : mg "Unfit" = some (.ref e.xUnfit)
  mNoText : mg "NoText" = some (.ref e.xNoText)
  mClash : mg "Clash" = some (.ref e.xClash)
  mHangs : mg "Hangs" = some (.ref e.xHangs)
  mNoStand : mg "NoStand" = some (.ref e.xNoStand)
  mNoDeed : mg "NoDeed" = some (.ref e.xNoDeed)
  mEmpty : mg "Empty" = some (.ref e.xEmpty)
  mNoWord : mg "NoWord" = some (.ref e.xNoWord)
  mTwice : mg "Twice" = some (.ref e.xTwice)
  mNoRoom : mg "NoRoom" = some (.ref e.xNoRoom)
  g_FIGURES : ∃ t, mg "FIGURES" = some (.str (Str.ofString "0123456789") t)
  g_MOST_FIGURES : ∃ t, mg "MOST_FIGURES" = some (.int 60 t)
  baseI : BaseI K e.xBoughError
  xs : ExcS K e.xNoText "at"
  xf : ExcF K e.xNoText
  exm : PySem.W.exmOne K (.ref e.xNoText) (.ref e.xBoughError) = some true
  kn : PySem.W.kitOne K (.ref e.xNoText) (.ref e.xNoText) = some true
  kv : PySem.W.kitOne K (.ref e.xNoText) (.type "ValueError") = some true
  ka : PySem.W.kitAny K (.ref e.xNoText) [.ref e.xClash, .ref e.xEmpty, .ref e.xHangs, .ref e.xNoDeed, .ref e.xNoRoom, .ref e.xNoStand, .ref e.xNoWord, .ref e.xTwice, .ref e.xUnfit] = some false
theorem lit_fi : (Str.ofString "0123456789").length = 10 := by decide
theorem lit_mi : (Str.ofString "-").length = 1 := by decide
theorem lit_e : (Str.ofString "").length = 0 := by decide
theorem lit_sg : (Str.ofString "01235-+ /a_\t").length = 12 := by decide
theorem fi_at (r : Nat) : atI (Str.ofString "0123456789").cps.toList ((r : Int) % 10) = some (48 + r % 10) := by
  have e : ((r : Int) % 10) = ((r % 10 : Nat) : Int) := by omega
  rw [e]
  have h : ∀ d : Nat, d < 10 → atI (Str.ofString "0123456789").cps.toList (d : Int) = some (48 + d) := by decide
  exact h _ (Nat.mod_lt _ (by decide))
theorem fi_ix (c : Nat) (h : 48 ≤ c ∧ c ≤ 57) : Builtin.Str.occurrences (Str.ofString "0123456789") ⟨#[c]⟩ 0 (Str.ofString "0123456789").length 1 = [c - 48] := by
  have h2 : ∀ d : Nat, d < 58 → 48 ≤ d → Builtin.Str.occurrences (Str.ofString "0123456789") ⟨#[d]⟩ 0 (Str.ofString "0123456789").length 1 = [d - 48] := by decide +kernel
  exact h2 c (by omega) h.1
theorem digitsVal_lt : ∀ (n : Nat) (cs : List Nat), cs.length = n → PySem.NumText.AllDigits cs → PySem.NumText.digitsVal cs < 10 ^ n := by
  intro n
  induction n with
  | zero => intro cs h _; rw [List.length_eq_zero_iff.mp h]; decide
  | succ n ih =>
    intro cs h hd
    obtain ⟨init, last, rfl⟩ : ∃ i l, cs = i ++ [l] := by
      rcases List.eq_nil_or_concat cs with h2 | ⟨i, l, h2⟩
      · rw [h2] at h; cases h
      · exact ⟨i, l, by rw [h2]; exact List.concat_eq_append⟩
    have hl : init.length = n := by rw [List.length_append] at h; simpa using h
    have h1 := ih init hl fun c hc => hd c (List.mem_append_left _ hc)
    have h2 := hd last (List.mem_append_right _ (List.mem_singleton.mpr rfl))
    rw [PySem.NumText.digitsVal_snoc, Nat.pow_succ]
    omega
theorem valN_lt {t : Str} (hl : (fg t).length ≤ 60) (hd : (fg t).cps.toList.all inF = true) : (valN t).natAbs < 10 ^ 60 := by
  have h1 := digitsVal_lt _ (fg t).cps.toList rfl (all_inF.mp hd)
  have h2 : (10 : Nat) ^ (fg t).cps.toList.length ≤ 10 ^ 60 := Nat.pow_le_pow_right (by decide) (by rw [Array.length_toList]; exact hl)
  have h3 := Nat.lt_of_lt_of_le h1 h2
  unfold valN
  generalize (10 : Nat) ^ 60 = B at *
  split <;> omega
theorem n60_100 {m : Nat} (h : m < 10 ^ 60) : m < 10 ^ 100 := Nat.lt_of_lt_of_le h (Nat.pow_le_pow_right (by decide) (by decide))
theorem wp_slF {t : Str} {H : Hp} {Q : VK} (hneg : Txt.slice t none (some 1) = (Str.ofString "-")) (hz : t.length ≤ sizeLine) (h : Q (.str (fg t)) H) : rSlS (.str t) (some 1) none H Q :=
  wp_slS hz fun y ey _ => by
    have e : fg t = y := by rw [ey]; unfold fg; rw [if_pos hneg]
    rw [← e]; exact h
def spShow : Sp := fun vs H Q _ => ∃ n : Int, vs = [.int n] ∧ n.natAbs < 10 ^ 100 ∧ Q (.str (shI n)) H
def spRead (e : Ek) : Sp := fun vs H Q E => ∃ t : Str, vs = [.str t] ∧ t.length ≤ 600 ∧ (dueN t = none → ∀ dx H', Same H H' → H dx = none → H' dx = some (.xd [("at", .int 0)]) → E (.ref e.xNoText) (some dx) H') ∧ ∀ n, dueN t = some n → ∀ H', Same H H' → Q (.int n) H'
def spAt (K : PySem.W.Frag) : Sp := fun vs H Q _ => ∃ (a : Addr) (ns : List Int) (i : Int), vs = [.ref a, .int i] ∧ 0 ≤ i ∧ SqL K H a (ns.map V.int) ∧ ∀ m : Int, Q (.int m) H
def spIs : Sp := fun vs H Q _ => ∃ m n : Int, vs = [.int m, .int n] ∧ Q (.bl (decide (m = n))) H
def spNum : Sp := fun vs H Q _ => ∃ n : Int, vs = [.int n] ∧ ∀ m : Int, m.natAbs < 10 ^ 60 → Q (.int m) H
def spFigs : Sp := fun vs H Q _ => ∃ n : Int, vs = [.int n] ∧ n.natAbs < 10 ^ 60 ∧ ∀ H', Same H H' → Q (.str (shI n)) H'
def figW (H : Hp) (n : Int) (m : Nat) (σ' : L2.St) (H' : Hp) : Prop := Same H H' ∧ ∃ (r : Nat) (f : Str) (o : Option V), σ' = [some (.int n), some (.str f), some (.int r), o] ∧ m = (if f = Str.ofString "" then r + 1 else r) ∧
  ((f = Str.ofString "" ∧ r = n.natAbs) ∨ (f ≠ Str.ofString "" ∧ (if r = 0 then [] else figs r) ++ f.cps.toList = figs n.natAbs))
theorem figs_step (r : Nat) : (if r / 10 = 0 then [] else figs (r / 10)) ++ [48 + r % 10] = figs r := by
  by_cases h : r / 10 = 0
  · rw [if_pos h, figs_small (by omega), Nat.mod_eq_of_lt (by omega)]; rfl
  · rw [if_neg h]; exact (figs_big (by omega)).symm
def spSign : Sp := fun vs H Q _ => ∃ n : Int, vs = [.int n] ∧ ∀ y : Str, y.length = 1 → Q (.str y) H
theorem use_sign {n : Int} {H : Hp} {Q : VK} {E : XK} (h : ∀ y : Str, y.length = 1 → Q (.str y) H) : spSign [.int n] H Q E := ⟨n, rfl, h⟩
def spSpoil : Sp := fun vs H Q _ => ∃ (t : Str) (n : Int), vs = [.str t, .int n] ∧ t.length ≤ 100 ∧ ∀ x : Str, x.length ≤ 300 → Q (.str x) H
def spText (K : PySem.W.Frag) : Sp := fun vs H Q _ => ∃ (a : Addr) (ns : List Int) (t : Str), vs = [.ref a, .str t] ∧ SqL K H a (ns.map V.int) ∧ t.length ≤ 100 ∧ ∀ x H', Same H H' → x.length ≤ 600 → Q (.str x) H'
noncomputable def dueV (t : Str) : V := match dueN t with | none => .non | some n => .int n
def spDue : Sp := fun vs H Q _ => ∃ t : Str, vs = [.str t] ∧ t.length ≤ 600 ∧ Q (dueV t) H
def spRef : Sp := fun vs H Q _ => ∃ t : Str, vs = [.str t] ∧ t.length ≤ 600 ∧ dueN t = none ∧ ∀ H', Same H H' → Q (.bl true) H'
theorem due_no {t : Str} (h : ¬ okN t) : dueN t = none := by unfold dueN; rw [if_neg h]
theorem due_ok {t : Str} (h : okN t) : dueN t = some (valN t) := by unfold dueN; rw [if_pos h]
theorem dueV_no {t : Str} (h : ¬ okN t) : dueV t = .non := by unfold dueV; rw [due_no h]
theorem dueV_ok {t : Str} (h : okN t) : dueV t = .int (valN t) := by unfold dueV; rw [due_ok h]
theorem use_at {K : PySem.W.Frag} {H : Hp} {Q : VK} {E : XK} {a : Addr} {ns : List Int} {i : Int} (hS : SqL K H a (ns.map V.int)) (h0 : 0 ≤ i) (h : ∀ m : Int, Q (.int m) H) : spAt K [.ref a, .int i] H Q E := ⟨a, ns, i, rfl, h0, hS, h⟩
theorem join_len2 {ss : List Str} (h : ∀ s ∈ ss, s.length ≤ 2) : (Str.join (Str.ofString "") ss).length ≤ 2 * ss.length := by
  have h0 := StrLaws.join_length_le (Str.ofString "") ss
  have h1 : ∀ l : List Str, (∀ s ∈ l, s.length ≤ 2) → (l.map (·.length)).sum ≤ 2 * l.length := by
    intro l
    induction l with
    | nil => intro _; simp
    | cons a l ih =>
      intro h
      have := ih fun s hs => h s (List.mem_cons_of_mem _ hs)
      have := h a List.mem_cons_self
      rw [List.map_cons, List.sum_cons, List.length_cons]
      omega
  have h2 := h1 ss h
  rw [lit_e] at h0
  omega
theorem one_zero (c : Nat) : (⟨#[c]⟩ : Str) = Str.ofString "0" ↔ c = 48 := by
  constructor
  · intro h
    have h2 := congrArg (fun x : Str => x.cps.toList) h
    rw [zero_cps] at h2
    simpa using h2
  · intro h; subst h; decide
theorem atI_0 {l : List Nat} {c : Nat} (h : atI l 0 = some c) : l.head? = some c := by
  cases l with
  | nil => cases h
  | cons a r =>
    have e : atI (a :: r) 0 = some a := by
      unfold atI ixN
      rw [if_pos (by omega), if_pos (by rw [List.length_cons]; omega)]
      rfl
    rw [e] at h
    rw [← h]; rfl
theorem wp_slS1 {z : Str} {lo hi : Option Int} {H : Hp} {Q : VK} (hz : z.length ≤ sizeLine) (h : Q (.str (Txt.slice z lo hi)) H) : rSlS (.str z) lo hi H Q := ⟨z, rfl, hz, h⟩
def SlE (z : Str) (lo hi : Option Int) (y : Str) : Prop := Txt.slice z lo hi = y
theorem wp_slE {z y : Str} {lo hi : Option Int} {H : Hp} {Q : VK} (e : SlE z lo hi y) (hz : z.length ≤ sizeLine) (h : Q (.str y) H) : rSlS (.str z) lo hi H Q := ⟨z, rfl, hz, by rw [show Txt.slice z lo hi = y from e]; exact h⟩
theorem slE1 (t : Str) : ∃ y, SlE t none (some 1) y := ⟨_, rfl⟩
def FgE (t u : Str) : Prop := fg t = u
theorem fgE (t : Str) : ∃ u, FgE t u := ⟨_, rfl⟩
theorem fgE_len {t u : Str} (h : FgE t u) : u.length ≤ t.length := by
  have e : fg t = u := h
  rw [← e]; exact fg_len t
theorem fgE_neg {t u s1 : Str} (h1 : SlE t none (some 1) s1) (hn : s1 = (Str.ofString "-")) (h : FgE t u) : SlE t (some 1) none u := by
  have e : fg t = u := h
  have e1 : Txt.slice t none (some 1) = s1 := h1
  show Txt.slice t (some 1) none = u
  rw [← e]; unfold fg; rw [if_pos (e1.trans hn)]
theorem fgE_pos {t s1 : Str} (h1 : SlE t none (some 1) s1) (hn : ¬ s1 = (Str.ofString "-")) : FgE t t := by
  have e1 : Txt.slice t none (some 1) = s1 := h1
  exact fg_pos (by rw [e1]; exact hn)
theorem ite_pT {p A B : Prop} {inst : Decidable p} (h : p) (a : A) : if decide p = true then A else B := wp_iteP (fun _ => a) (fun z => absurd h z)
theorem ite_pF {p A B : Prop} {inst : Decidable p} (h : ¬ p) (b : B) : if decide p = true then A else B := wp_iteP (fun z => absurd z h) (fun _ => b)
theorem ite_nT {p A B : Prop} {inst : Decidable p} (h : ¬ p) (a : A) : if (!decide p) = true then A else B := wp_iteN (fun _ => a) (fun z => absurd z h)
theorem ite_nF {p A B : Prop} {inst : Decidable p} (h : p) (b : B) : if (!decide p) = true then A else B := wp_iteN (fun z => absurd h z) (fun _ => b)
theorem ite_sh {p A B : Prop} {inst : Decidable p} (hA : p → B → A) (b : B) : if decide p = true then A else B := wp_iteP (fun z => hA z b) (fun _ => b)
theorem iteF' {A B : Prop} (h : if false = true then A else B) : B := h
theorem wp_niF {c : Nat} {H : Hp} {Q : VK} (hc : 48 ≤ c ∧ c ≤ 57) (h : Q (.bl false) H) : rNotInS (.str ⟨#[c]⟩) (.str (Str.ofString "0123456789")) H Q := by
  have e : inF c = true := (inF_iff c).mpr hc
  refine wp_notInS ?_
  show Q (.bl (!inF c)) H
  rw [e]; exact h
theorem wp_niT {c : Nat} {H : Hp} {Q : VK} (hc : ¬ (48 ≤ c ∧ c ≤ 57)) (h : Q (.bl true) H) : rNotInS (.str ⟨#[c]⟩) (.str (Str.ofString "0123456789")) H Q := by
  have e : inF c = false := Bool.eq_false_iff.mpr fun z => hc ((inF_iff c).mp z)
  refine wp_notInS ?_
  show Q (.bl (!inF c)) H
  rw [e]; exact h
theorem wp_ixN {c : Nat} {H : Hp} {Q : VK} (hc : 48 ≤ c ∧ c ≤ 57) (h : Q (.int ((c - 48 : Nat) : Int)) H) : rIndexS (.str (Str.ofString "0123456789")) [.str ⟨#[c]⟩] H Q := wp_indexS (fi_ix c hc) h
theorem at0 {u : Str} (he : ¬ u = Str.ofString "") : ∃ c, atI u.cps.toList 0 = some c := by
  refine atI_some (by omega) ?_
  have h : u.cps.toList.length ≠ 0 := fun z => he ((empty_iff _).mpr (List.length_eq_zero_iff.mp z))
  omega
theorem dv_step {l : List Nat} {i c : Nat} (h : l[i]? = some c) : PySem.NumText.digitsVal (l.take (i + 1)) = PySem.NumText.digitsVal (l.take i) * 10 + (c - 48) := by
  rw [List.take_add_one, h]
  exact PySem.NumText.digitsVal_snoc _ _
theorem ad_step {l : List Nat} {i c : Nat} (h : l[i]? = some c) (hd : PySem.NumText.AllDigits (l.take i)) (hc : 48 ≤ c ∧ c ≤ 57) : PySem.NumText.AllDigits (l.take (i + 1)) := by
  rw [List.take_add_one, h]
  intro d hd2
  rcases List.mem_append.mp hd2 with h1 | h1
  · exact hd d h1
  · have : d = c := by simpa using h1
    rw [this]; exact hc
def dueW (H : Hp) (t u : Str) (i : Nat) (σ' : L2.St) (H' : Hp) : Prop := H' = H ∧ ∃ (o : Option V) (v : Nat), σ' = [some (.str t), some (.str u), some (.int ((v : Nat) : Int)), o] ∧ v = PySem.NumText.digitsVal (u.cps.toList.take i) ∧ PySem.NumText.AllDigits (u.cps.toList.take i)
theorem dueW_0 {H : Hp} {t u : Str} : dueW H t u 0 [some (.str t), some (.str u), some (.int 0), none] H := ⟨rfl, none, 0, rfl, rfl, fun c hc => nomatch hc⟩
theorem dueW_step {H : Hp} {t u : Str} {i c v : Nat} (hi : u.cps[i]? = some c) (hc : 48 ≤ c ∧ c ≤ 57) (hd : PySem.NumText.AllDigits (u.cps.toList.take i)) (hv : v = PySem.NumText.digitsVal (u.cps.toList.take i)) : dueW H t u (i + 1) [some (.str t), some (.str u), some (.int (10 * (v : Int) + ((c - 48 : Nat) : Int))), some (.str ⟨#[c]⟩)] H := by
  have hci : u.cps.toList[i]? = some c := by rw [Array.getElem?_toList]; exact hi
  refine ⟨rfl, some (.str ⟨#[c]⟩), v * 10 + (c - 48), ?_, by rw [dv_step hci, hv], ad_step hci hd hc⟩
  have e2 : 10 * (v : Int) + ((c - 48 : Nat) : Int) = ((v * 10 + (c - 48) : Nat) : Int) := by omega
  rw [e2]
theorem due_b1 {t u : Str} (h : FgE t u) (he : u = Str.ofString "") : dueV t = .non := dueV_no fun z => z.1 ((show fg t = u from h).trans he)
theorem due_b2 {t u : Str} (h : FgE t u) (he : (u.length : Int) > 60) : dueV t = .non := dueV_no fun z => by
  have e : fg t = u := h
  have z2 := z.2.1
  rw [e] at z2
  omega
theorem due_b3 {t u : Str} {c0 : Nat} (h : FgE t u) (hc0 : atI u.cps.toList 0 = some c0) (hz : c0 = 48 ∧ ¬ t = (Str.ofString "0")) : dueV t = .non := dueV_no fun z => by
  have e : fg t = u := h
  have z2 := z.2.2.1
  rw [e, atI_0 hc0, hz.1] at z2
  exact z2 ⟨rfl, hz.2⟩
theorem due_b4 {t u : Str} {i c : Nat} (h : FgE t u) (hi : u.cps[i]? = some c) (hc : ¬ (48 ≤ c ∧ c ≤ 57)) : dueV t = .non := dueV_no fun z => by
  have e : fg t = u := h
  have z2 := z.2.2.2
  rw [e] at z2
  exact hc (all_inF.mp z2 c (List.mem_of_getElem? (by rw [Array.getElem?_toList]; exact hi)))
theorem due_end {t u s1 : Str} {c0 v : Nat} (h : FgE t u) (h1 : SlE t none (some 1) s1) (he : ¬ u = Str.ofString "") (h60 : ¬ (u.length : Int) > 60) (hc0 : atI u.cps.toList 0 = some c0) (hz : ¬ (c0 = 48 ∧ ¬ t = (Str.ofString "0")))
    (hv : v = PySem.NumText.digitsVal (u.cps.toList.take u.cps.size)) (hd : PySem.NumText.AllDigits (u.cps.toList.take u.cps.size)) : (s1 = (Str.ofString "-") → dueV t = .int (-(v : Int))) ∧ (¬ s1 = (Str.ofString "-") → dueV t = .int (v : Int)) := by
  have e : fg t = u := h
  have e1 : Txt.slice t none (some 1) = s1 := h1
  have hsz3 : u.cps.size = u.cps.toList.length := Array.length_toList.symm
  rw [hsz3, List.take_length] at hd hv
  have hok : okN t := by
    refine ⟨by rw [e]; exact he, by rw [e]; omega, ?_, by rw [e]; exact all_inF.mpr hd⟩
    rw [e, atI_0 hc0]
    intro z
    have z1 : c0 = 48 := by simpa using z.1
    exact hz ⟨z1, z.2⟩
  have e3 := dueV_ok hok
  unfold valN at e3
  rw [e, ← hv, e1] at e3
  exact ⟨fun hn => by rw [if_pos hn] at e3; exact e3, fun hn => by rw [if_neg hn] at e3; exact e3⟩
theorem wp_startsE {t s1 : Str} {H : Hp} {Q : VK} (h1 : SlE t none (some 1) s1) (h : Q (.bl (decide (s1 = (Str.ofString "-")))) H) : rStarts (.str t) [.str (Str.ofString "-")] H Q := by
  have e1 : Txt.slice t none (some 1) = s1 := h1
  refine wp_starts ?_
  have e2 := starts_iff t
  rw [e1] at e2
  rw [e2]
  exact h
def AllE (u : Str) (b : Bool) : Prop := u.cps.toList.all inF = b
theorem allE (u : Str) : ∃ b, AllE u b := ⟨_, rfl⟩
theorem allE_map {u : Str} {b : Bool} (h : AllE u b) : (u.cps.toList.map inF).all id = b := by rw [List.all_map]; exact h
theorem ri_no1 {t u : Str} (h : FgE t u) (h1 : ¬ 1 ≤ u.length) : dueN t = none := due_no fun z => by
  have e : fg t = u := h
  have z1 := z.1
  rw [e] at z1
  exact z1 ((empty_iff u).mpr (List.length_eq_zero_iff.mp (by rw [Array.length_toList]; show u.length = 0; omega)))
theorem ri_no2 {t u : Str} (h : FgE t u) (h1 : ¬ u.length ≤ 60) : dueN t = none := due_no fun z => by
  have e : fg t = u := h
  have z1 := z.2.1
  rw [e] at z1
  exact h1 z1
theorem ri_no4 {t u : Str} (h : FgE t u) (h1 : AllE u false) : dueN t = none := due_no fun z => by
  have e : fg t = u := h
  have z1 := z.2.2.2
  rw [e, show u.cps.toList.all inF = false from h1] at z1
  cases z1
theorem ri_end {t u : Str} (hl : t.length ≤ 600) (h : FgE t u) (h1 : 1 ≤ u.length) (h60 : u.length ≤ 60) (ha : AllE u true) : ∃ n : Int, PySem.intText? t = some n ∧ n.natAbs < 10 ^ 100 ∧ (shI n = t → dueN t = some n) ∧ (¬ shI n = t → dueN t = none) := by
  have e : fg t = u := h
  have hall : (fg t).cps.toList.all inF = true := by rw [e]; exact ha
  have hne : fg t ≠ Str.ofString "" := fun e0 => by
    have h7 : (fg t).length = 0 := by rw [e0]; exact lit_e
    rw [e] at h7
    omega
  have h6 : (fg t).length ≤ 60 := by rw [e]; exact h60
  exact ⟨valN t, read_int (by omega) hne hall, n60_100 (valN_lt h6 hall), fun hx => due_ok ⟨hne, h6, (canon hne hall).mp hx, hall⟩, fun hx => due_no fun z => hx ((canon hne hall).mpr z.2.2.1)⟩
theorem wp_isNi {i : Int} {H : Hp} {Q : VK} (h : Q (.bl false) H) : rIsN (.int i) .non H Q := ⟨rfl, by rw [decide_eq_false (fun z => nomatch z)]; exact h⟩
section
variable {P : Program} {w : World} {K : PySem.W.Frag} {mg : Str → Option Value} {base : Heap} {e : Ek}
theorem scshow_number : FnScope ["number"] ["number"] (defScope sshow_number) := ⟨rfl, rfl, rfl, by decide +kernel, rfl, by decide +kernel, by decide +kernel⟩
theorem okshow_number (F : Fn K mg "show_number" sshow_number ["number"]) (T : Txt K mg e)  : FnAll P w K mg base "show_number" 1 ["number"] (spShow) := by
  refine F.ok (k := 0) scshow_number (fun vs H Q E h => ?_) (fun f cdv A outer s H vs Q E hr h => ?_)
  · obtain ⟨n, rfl, hn, k⟩ := h
    rfl
  · obtain ⟨n, rfl, hn, k⟩ := h
    have hu := hu16 hr
    have nd := scshow_number.nd
    refine ⟨_, (pss_one (ps_ret (pe_callTy call_strI (by rfl) T.b_str PyProof.Rows.boot_str (pa_cons (pv 0) pa_nil)))), ?_⟩
    have est : start ["number"] [.int n] = [some (.int n)] := rfl
    rw [est]
    clear est
    repeat' (first | (with_reducible refine wp_istr ?_) | (with_reducible refine wp_istr' ?_) | (with_reducible refine wp_comp0 ?_) | (with_reducible refine wp_inS ?_) | (with_reducible refine wp_notInS ?_) | (with_reducible refine wp_bm ?_) | (with_reducible refine wp_callE ?_) | (with_reducible refine wp_starts ?_) | (with_reducible refine wp_abs ?_) | walk_at "st")
    refine wp_strI (log2_lt hn) ?_
    repeat' (first | (with_reducible refine wp_istr ?_) | (with_reducible refine wp_istr' ?_) | (with_reducible refine wp_comp0 ?_) | (with_reducible refine wp_inS ?_) | (with_reducible refine wp_notInS ?_) | (with_reducible refine wp_bm ?_) | (with_reducible refine wp_callE ?_) | (with_reducible refine wp_starts ?_) | (with_reducible refine wp_abs ?_) | walk_at "st")
    exact k
theorem scI : FnScope ["self", "at"] ["self", "at"] (defScope sNoText___init__) := ⟨rfl, rfl, rfl, by decide +kernel, rfl, by decide +kernel, by decide +kernel⟩
theorem okI (F : Mt K e.xNoText "__init__" "NoText.__init__" sNoText___init__ ["self", "at"]) (T : Txt K mg e) : ∃ f fd, PySem.W.findIn K (.ref e.xNoText) "__init__" = some (some (.ref f)) ∧ FnOk P w K mg base (CXE P w) 1 f fd ["self", "at"] (spAtI e.xNoText) ∧ Binds K fd ["self", "at"] [] := by
  refine Mt.okX (k := 0) F scI (fun vs H Q E h => ?_) (fun f cdv A outer s H vs Q E hr h => ?_)
  · obtain ⟨a, n, rfl, ha, k⟩ := h
    rfl
  · obtain ⟨a, n, rfl, ha, k⟩ := h
    have hu := hu16 hr
    have nd := scI.nd
    refine ⟨_, (pss_cons (ps_expr (pe_baseInit T.baseI T.mBoughError (pa_cons (pv 0) (pa_cons (pv 1) pa_nil))))
      (pss_one (ps_exc (pv 0) (pv 1) rfl))), ?_⟩
    have est : start ["self", "at"] [.ref a, .int n] = [some (.ref a), some (.int n)] := rfl
    rw [est]
    clear est
    repeat' (first | (with_reducible refine wp_istr ?_) | (with_reducible refine wp_istr' ?_) | (with_reducible refine wp_comp0 ?_) | (with_reducible refine wp_inS ?_) | (with_reducible refine wp_notInS ?_) | (with_reducible refine wp_bm ?_) | (with_reducible refine wp_callE ?_) | (with_reducible refine wp_starts ?_) | (with_reducible refine wp_abs ?_) | walk_at "st")
    refine ⟨a, e.xNoText, none, [.int n], rfl, ha, T.xs.ex, by rw [sizeLine_eq]; show 1 ≤ _; omega, ?_⟩
    repeat' (first | (with_reducible refine wp_istr ?_) | (with_reducible refine wp_istr' ?_) | (with_reducible refine wp_comp0 ?_) | (with_reducible refine wp_inS ?_) | (with_reducible refine wp_notInS ?_) | (with_reducible refine wp_bm ?_) | (with_reducible refine wp_callE ?_) | (with_reducible refine wp_starts ?_) | (with_reducible refine wp_abs ?_) | walk_at "st")
    dsimp only
    refine wp_sexc ?_
    repeat' (first | (with_reducible refine wp_istr ?_) | (with_reducible refine wp_istr' ?_) | (with_reducible refine wp_comp0 ?_) | (with_reducible refine wp_inS ?_) | (with_reducible refine wp_notInS ?_) | (with_reducible refine wp_bm ?_) | (with_reducible refine wp_callE ?_) | (with_reducible refine wp_starts ?_) | (with_reducible refine wp_abs ?_) | walk_at "st")
    exact ⟨a, e.xNoText, rfl, ha, T.xs, fun dx hdx hne => k dx hdx hne⟩
theorem scread_number : FnScope ["text", "figures", "number"] ["text"] (defScope sread_number) := ⟨rfl, rfl, rfl, by decide +kernel, rfl, by decide +kernel, by decide +kernel⟩
theorem okread_number (F : Fn K mg "read_number" sread_number ["text"]) (T : Txt K mg e) {fI : Addr} {fdI : FuncData} (RI : ExcR K e.xNoText fI ∧ FnOk P w K mg base (CXE P w) 1 fI fdI ["self", "at"] (spAtI e.xNoText) ∧ Binds K fdI ["self", "at"] []) (Fshow_number : FnAll P w K mg base "show_number" 1 ["number"] (spShow)) : FnAllE P w K mg base "read_number" 3 ["text"] (spRead e) := by
  refine F.okE (k := 2) scread_number (fun vs H Q E h => ?_) (fun f cdv A outer s H vs Q E hr h => ?_)
  · obtain ⟨t, rfl, hl, kE, k⟩ := h
    rfl
  · obtain ⟨t, rfl, hl, kE, k⟩ := h
    have hu := hu16 hr
    have nd := scread_number.nd
    obtain ⟨t_FIGURES, h_FIGURES⟩ := T.g_FIGURES
    obtain ⟨t_MOST_FIGURES, h_MOST_FIGURES⟩ := T.g_MOST_FIGURES
    refine ⟨_, (pss_cons (ps_set (i := 1) nd rfl (Or.inl rfl) (pe_ifExp (pt_val (pe_bm PySem.F.plainAttrs_str PySem.F.slot_str_startswith PySem.F.type_str_startswith mt_starts (pv 0) (pa_cons pe_str pa_nil))) (pe_slice sl_str (pv 0) (po_some pe_int) po_none) (pv 0)))
      (pss_cons (ps_if (PW.pt (pw_or (pt_not (pt_chain op_le op_le pe_int (pe_callB call_lenS (by rfl) T.b_len PySem.boot_len (pa_cons (pv 1) pa_nil)) (pe_glob (v := .int 60) rfl h_MOST_FIGURES ⟨t_MOST_FIGURES, rfl⟩))) (pw_or1 (pt_not (pt_val (pe_callB (call_all rfl) (by rfl) T.b_all boot_all (pa_cons (pe_comp (compScope0 rfl (by decide) (by decide +kernel) rfl) rfl (pi_str (pv 1)) (fun _ _ _ _ => pif_nil) (fun _ _ _ _ => (pe_cmpR op_inS (pv 0) (pe_glob (v := .str (Str.ofString "0123456789")) rfl h_FIGURES ⟨t_FIGURES, rfl⟩) rfl))) pa_nil))))))) (pss_one (ps_raiseI RI.1 RI.2.1 RI.2.2 (hr.mono (by decide)) T.mNoText (pa_cons pe_int pa_nil))) pss_nil)
      (pss_cons (ps_set (i := 2) nd rfl (Or.inl rfl) (pe_callTy call_intS (by rfl) T.b_int PyProof.Rows.boot_int (pa_cons (pv 0) pa_nil)))
      (pss_cons (ps_if (pt_cmpR op_ne (pe_callF Fshow_number hr (pa_cons (pv 2) pa_nil)) (pv 0) (nomark _)) (pss_one (ps_raiseI RI.1 RI.2.1 RI.2.2 (hr.mono (by decide)) T.mNoText (pa_cons pe_int pa_nil))) pss_nil)
      (pss_one (ps_ret (pv 2))))))), ?_⟩
    have est : start ["text", "figures", "number"] [.str t] = [some (.str t), none, none] := rfl
    rw [est]
    clear est
    have hsz := sizeLine_eq
    have hts : t.length ≤ sizeLine := by omega
    obtain ⟨s1, hs1⟩ := slE1 t
    by_cases hneg : s1 = (Str.ofString "-")
    · obtain ⟨u, hfu⟩ := fgE t
      have hsl := fgE_neg hs1 hneg hfu
      have hus : u.length ≤ sizeLine := by have := fgE_len hfu; omega
      have hlen : u.length = u.cps.size := rfl
      by_cases h1 : 1 ≤ u.length
      · by_cases h60 : u.length ≤ 60
        · repeat' (first | (with_reducible refine wp_slE hs1 hts ?_) | (with_reducible refine wp_slE hsl hts ?_) | (with_reducible refine ite_pT hneg ?_) | (with_reducible refine wp_lenS hus ?_) | (with_reducible refine wp_startsE hs1 ?_) | (with_reducible refine wp_istr ?_) | (with_reducible refine wp_istr' ?_) | (with_reducible refine wp_comp0 ?_) | (with_reducible refine wp_inS ?_) | (with_reducible refine wp_notInS ?_) | (with_reducible refine wp_bm ?_) | (with_reducible refine wp_callE ?_) | (with_reducible refine wp_starts ?_) | (with_reducible refine wp_abs ?_) | walk_at "st")
          refine ⟨rfl, ?_⟩
          repeat' (first | (with_reducible refine wp_slE hs1 hts ?_) | (with_reducible refine wp_slE hsl hts ?_) | (with_reducible refine ite_pT hneg ?_) | (with_reducible refine wp_lenS hus ?_) | (with_reducible refine wp_startsE hs1 ?_) | (with_reducible refine wp_istr ?_) | (with_reducible refine wp_istr' ?_) | (with_reducible refine wp_comp0 ?_) | (with_reducible refine wp_inS ?_) | (with_reducible refine wp_notInS ?_) | (with_reducible refine wp_bm ?_) | (with_reducible refine wp_callE ?_) | (with_reducible refine wp_starts ?_) | (with_reducible refine wp_abs ?_) | walk_at "st")
          obtain ⟨b, hb⟩ := allE u
          refine comp_str (fun c => V.bl (inF c)) (by omega) (fun c H' hc hs R hR => ?_) (fun D H2 s2 hD => ?_)
          · repeat' (first | (with_reducible refine wp_istr ?_) | (with_reducible refine wp_istr' ?_) | (with_reducible refine wp_comp0 ?_) | (with_reducible refine wp_inS ?_) | (with_reducible refine wp_notInS ?_) | (with_reducible refine wp_bm ?_) | (with_reducible refine wp_callE ?_) | (with_reducible refine wp_starts ?_) | (with_reducible refine wp_abs ?_) | walk_at "st")
            exact hR
          · repeat' (first | (with_reducible refine wp_istr ?_) | (with_reducible refine wp_istr' ?_) | (with_reducible refine wp_comp0 ?_) | (with_reducible refine wp_inS ?_) | (with_reducible refine wp_notInS ?_) | (with_reducible refine wp_bm ?_) | (with_reducible refine wp_callE ?_) | (with_reducible refine wp_starts ?_) | (with_reducible refine wp_abs ?_) | walk_at "st")
            refine ⟨D, u.cps.toList.map inF, rfl, by rw [hD, List.map_map]; rfl, ?_⟩
            rw [allE_map hb]
            cases b with
            | false =>
              repeat' (first | ((with_reducible refine wp_raiseI ?_)) | (with_reducible refine wp_istr ?_) | (with_reducible refine wp_istr' ?_) | (with_reducible refine wp_comp0 ?_) | (with_reducible refine wp_inS ?_) | (with_reducible refine wp_notInS ?_) | (with_reducible refine wp_bm ?_) | (with_reducible refine wp_callE ?_) | (with_reducible refine wp_starts ?_) | (with_reducible refine wp_abs ?_) | walk_at "st")
              exact raise_at fun dx H4 s4 hdx h4 => kE (ri_no4 hfu hb) dx H4 (Same.trans s2 s4) (none_same s2 hdx) h4
            | true =>
              obtain ⟨n, hn1, hn2, hn3, hn4⟩ := ri_end hl hfu h1 h60 hb
              repeat' (first | ((with_reducible refine wp_raiseI ?_)) | (with_reducible refine wp_istr ?_) | (with_reducible refine wp_istr' ?_) | (with_reducible refine wp_comp0 ?_) | (with_reducible refine wp_inS ?_) | (with_reducible refine wp_notInS ?_) | (with_reducible refine wp_bm ?_) | (with_reducible refine wp_callE ?_) | (with_reducible refine wp_starts ?_) | (with_reducible refine wp_abs ?_) | walk_at "st")
              refine wp_intS hn1 (by omega) ?_
              repeat' (first | ((with_reducible refine wp_raiseI ?_)) | (with_reducible refine wp_istr ?_) | (with_reducible refine wp_istr' ?_) | (with_reducible refine wp_comp0 ?_) | (with_reducible refine wp_inS ?_) | (with_reducible refine wp_notInS ?_) | (with_reducible refine wp_bm ?_) | (with_reducible refine wp_callE ?_) | (with_reducible refine wp_starts ?_) | (with_reducible refine wp_abs ?_) | walk_at "st")
              refine ⟨n, rfl, hn2, ?_⟩
              repeat' (first | ((with_reducible refine wp_raiseI ?_)) | (with_reducible refine wp_istr ?_) | (with_reducible refine wp_istr' ?_) | (with_reducible refine wp_comp0 ?_) | (with_reducible refine wp_inS ?_) | (with_reducible refine wp_notInS ?_) | (with_reducible refine wp_bm ?_) | (with_reducible refine wp_callE ?_) | (with_reducible refine wp_starts ?_) | (with_reducible refine wp_abs ?_) | walk_at "st")
              · rename_i hx
                exact raise_at fun dx H4 s4 hdx h4 => kE (hn4 hx) dx H4 (Same.trans s2 s4) (none_same s2 hdx) h4
              · rename_i hx
                exact k _ (hn3 hx) _ s2
        · repeat' (first | ((with_reducible refine wp_raiseI ?_)) | (with_reducible refine wp_slE hs1 hts ?_) | (with_reducible refine wp_slE hsl hts ?_) | (with_reducible refine ite_pT hneg ?_) | (with_reducible refine wp_lenS hus ?_) | (with_reducible refine wp_startsE hs1 ?_) | (with_reducible refine wp_istr ?_) | (with_reducible refine wp_istr' ?_) | (with_reducible refine wp_comp0 ?_) | (with_reducible refine wp_inS ?_) | (with_reducible refine wp_notInS ?_) | (with_reducible refine wp_bm ?_) | (with_reducible refine wp_callE ?_) | (with_reducible refine wp_starts ?_) | (with_reducible refine wp_abs ?_) | walk_at "st")
          refine ⟨rfl, ?_⟩
          repeat' (first | ((with_reducible refine wp_raiseI ?_)) | (with_reducible refine wp_slE hs1 hts ?_) | (with_reducible refine wp_slE hsl hts ?_) | (with_reducible refine ite_pT hneg ?_) | (with_reducible refine wp_lenS hus ?_) | (with_reducible refine wp_startsE hs1 ?_) | (with_reducible refine wp_istr ?_) | (with_reducible refine wp_istr' ?_) | (with_reducible refine wp_comp0 ?_) | (with_reducible refine wp_inS ?_) | (with_reducible refine wp_notInS ?_) | (with_reducible refine wp_bm ?_) | (with_reducible refine wp_callE ?_) | (with_reducible refine wp_starts ?_) | (with_reducible refine wp_abs ?_) | walk_at "st")
          exact raise_at fun dx H4 s4 hdx h4 => kE (ri_no2 hfu h60) dx H4 (Same.trans (Same.refl _) s4) (none_same (Same.refl _) hdx) h4
      · repeat' (first | ((with_reducible refine wp_raiseI ?_)) | (with_reducible refine wp_slE hs1 hts ?_) | (with_reducible refine wp_slE hsl hts ?_) | (with_reducible refine ite_pT hneg ?_) | (with_reducible refine wp_lenS hus ?_) | (with_reducible refine wp_startsE hs1 ?_) | (with_reducible refine wp_istr ?_) | (with_reducible refine wp_istr' ?_) | (with_reducible refine wp_comp0 ?_) | (with_reducible refine wp_inS ?_) | (with_reducible refine wp_notInS ?_) | (with_reducible refine wp_bm ?_) | (with_reducible refine wp_callE ?_) | (with_reducible refine wp_starts ?_) | (with_reducible refine wp_abs ?_) | walk_at "st")
        refine ⟨rfl, ?_⟩
        repeat' (first | ((with_reducible refine wp_raiseI ?_)) | (with_reducible refine wp_slE hs1 hts ?_) | (with_reducible refine wp_slE hsl hts ?_) | (with_reducible refine ite_pT hneg ?_) | (with_reducible refine wp_lenS hus ?_) | (with_reducible refine wp_startsE hs1 ?_) | (with_reducible refine wp_istr ?_) | (with_reducible refine wp_istr' ?_) | (with_reducible refine wp_comp0 ?_) | (with_reducible refine wp_inS ?_) | (with_reducible refine wp_notInS ?_) | (with_reducible refine wp_bm ?_) | (with_reducible refine wp_callE ?_) | (with_reducible refine wp_starts ?_) | (with_reducible refine wp_abs ?_) | walk_at "st")
        exact raise_at fun dx H4 s4 hdx h4 => kE (ri_no1 hfu h1) dx H4 (Same.trans (Same.refl _) s4) (none_same (Same.refl _) hdx) h4
    · have hfu := fgE_pos hs1 hneg
      have hus : t.length ≤ sizeLine := by have := fgE_len hfu; omega
      have hlen : t.length = t.cps.size := rfl
      by_cases h1 : 1 ≤ t.length
      · by_cases h60 : t.length ≤ 60
        · repeat' (first | (with_reducible refine wp_slE hs1 hts ?_) | (with_reducible refine ite_pF hneg ?_) | (with_reducible refine wp_lenS hus ?_) | (with_reducible refine wp_startsE hs1 ?_) | (with_reducible refine wp_istr ?_) | (with_reducible refine wp_istr' ?_) | (with_reducible refine wp_comp0 ?_) | (with_reducible refine wp_inS ?_) | (with_reducible refine wp_notInS ?_) | (with_reducible refine wp_bm ?_) | (with_reducible refine wp_callE ?_) | (with_reducible refine wp_starts ?_) | (with_reducible refine wp_abs ?_) | walk_at "st")
          refine ⟨rfl, ?_⟩
          repeat' (first | (with_reducible refine wp_slE hs1 hts ?_) | (with_reducible refine ite_pF hneg ?_) | (with_reducible refine wp_lenS hus ?_) | (with_reducible refine wp_startsE hs1 ?_) | (with_reducible refine wp_istr ?_) | (with_reducible refine wp_istr' ?_) | (with_reducible refine wp_comp0 ?_) | (with_reducible refine wp_inS ?_) | (with_reducible refine wp_notInS ?_) | (with_reducible refine wp_bm ?_) | (with_reducible refine wp_callE ?_) | (with_reducible refine wp_starts ?_) | (with_reducible refine wp_abs ?_) | walk_at "st")
          obtain ⟨b, hb⟩ := allE t
          refine comp_str (fun c => V.bl (inF c)) (by omega) (fun c H' hc hs R hR => ?_) (fun D H2 s2 hD => ?_)
          · repeat' (first | (with_reducible refine wp_istr ?_) | (with_reducible refine wp_istr' ?_) | (with_reducible refine wp_comp0 ?_) | (with_reducible refine wp_inS ?_) | (with_reducible refine wp_notInS ?_) | (with_reducible refine wp_bm ?_) | (with_reducible refine wp_callE ?_) | (with_reducible refine wp_starts ?_) | (with_reducible refine wp_abs ?_) | walk_at "st")
            exact hR
          · repeat' (first | (with_reducible refine wp_istr ?_) | (with_reducible refine wp_istr' ?_) | (with_reducible refine wp_comp0 ?_) | (with_reducible refine wp_inS ?_) | (with_reducible refine wp_notInS ?_) | (with_reducible refine wp_bm ?_) | (with_reducible refine wp_callE ?_) | (with_reducible refine wp_starts ?_) | (with_reducible refine wp_abs ?_) | walk_at "st")
            refine ⟨D, t.cps.toList.map inF, rfl, by rw [hD, List.map_map]; rfl, ?_⟩
            rw [allE_map hb]
            cases b with
            | false =>
              repeat' (first | ((with_reducible refine wp_raiseI ?_)) | (with_reducible refine wp_istr ?_) | (with_reducible refine wp_istr' ?_) | (with_reducible refine wp_comp0 ?_) | (with_reducible refine wp_inS ?_) | (with_reducible refine wp_notInS ?_) | (with_reducible refine wp_bm ?_) | (with_reducible refine wp_callE ?_) | (with_reducible refine wp_starts ?_) | (with_reducible refine wp_abs ?_) | walk_at "st")
              exact raise_at fun dx H4 s4 hdx h4 => kE (ri_no4 hfu hb) dx H4 (Same.trans s2 s4) (none_same s2 hdx) h4
            | true =>
              obtain ⟨n, hn1, hn2, hn3, hn4⟩ := ri_end hl hfu h1 h60 hb
              repeat' (first | ((with_reducible refine wp_raiseI ?_)) | (with_reducible refine wp_istr ?_) | (with_reducible refine wp_istr' ?_) | (with_reducible refine wp_comp0 ?_) | (with_reducible refine wp_inS ?_) | (with_reducible refine wp_notInS ?_) | (with_reducible refine wp_bm ?_) | (with_reducible refine wp_callE ?_) | (with_reducible refine wp_starts ?_) | (with_reducible refine wp_abs ?_) | walk_at "st")
              refine wp_intS hn1 (by omega) ?_
              repeat' (first | ((with_reducible refine wp_raiseI ?_)) | (with_reducible refine wp_istr ?_) | (with_reducible refine wp_istr' ?_) | (with_reducible refine wp_comp0 ?_) | (with_reducible refine wp_inS ?_) | (with_reducible refine wp_notInS ?_) | (with_reducible refine wp_bm ?_) | (with_reducible refine wp_callE ?_) | (with_reducible refine wp_starts ?_) | (with_reducible refine wp_abs ?_) | walk_at "st")
              refine ⟨n, rfl, hn2, ?_⟩
              repeat' (first | ((with_reducible refine wp_raiseI ?_)) | (with_reducible refine wp_istr ?_) | (with_reducible refine wp_istr' ?_) | (with_reducible refine wp_comp0 ?_) | (with_reducible refine wp_inS ?_) | (with_reducible refine wp_notInS ?_) | (with_reducible refine wp_bm ?_) | (with_reducible refine wp_callE ?_) | (with_reducible refine wp_starts ?_) | (with_reducible refine wp_abs ?_) | walk_at "st")
              · rename_i hx
                exact raise_at fun dx H4 s4 hdx h4 => kE (hn4 hx) dx H4 (Same.trans s2 s4) (none_same s2 hdx) h4
              · rename_i hx
                exact k _ (hn3 hx) _ s2
        · repeat' (first | ((with_reducible refine wp_raiseI ?_)) | (with_reducible refine wp_slE hs1 hts ?_) | (with_reducible refine ite_pF hneg ?_) | (with_reducible refine wp_lenS hus ?_) | (with_reducible refine wp_startsE hs1 ?_) | (with_reducible refine wp_istr ?_) | (with_reducible refine wp_istr' ?_) | (with_reducible refine wp_comp0 ?_) | (with_reducible refine wp_inS ?_) | (with_reducible refine wp_notInS ?_) | (with_reducible refine wp_bm ?_) | (with_reducible refine wp_callE ?_) | (with_reducible refine wp_starts ?_) | (with_reducible refine wp_abs ?_) | walk_at "st")
          refine ⟨rfl, ?_⟩
          repeat' (first | ((with_reducible refine wp_raiseI ?_)) | (with_reducible refine wp_slE hs1 hts ?_) | (with_reducible refine ite_pF hneg ?_) | (with_reducible refine wp_lenS hus ?_) | (with_reducible refine wp_startsE hs1 ?_) | (with_reducible refine wp_istr ?_) | (with_reducible refine wp_istr' ?_) | (with_reducible refine wp_comp0 ?_) | (with_reducible refine wp_inS ?_) | (with_reducible refine wp_notInS ?_) | (with_reducible refine wp_bm ?_) | (with_reducible refine wp_callE ?_) | (with_reducible refine wp_starts ?_) | (with_reducible refine wp_abs ?_) | walk_at "st")
          exact raise_at fun dx H4 s4 hdx h4 => kE (ri_no2 hfu h60) dx H4 (Same.trans (Same.refl _) s4) (none_same (Same.refl _) hdx) h4
      · repeat' (first | ((with_reducible refine wp_raiseI ?_)) | (with_reducible refine wp_slE hs1 hts ?_) | (with_reducible refine ite_pF hneg ?_) | (with_reducible refine wp_lenS hus ?_) | (with_reducible refine wp_startsE hs1 ?_) | (with_reducible refine wp_istr ?_) | (with_reducible refine wp_istr' ?_) | (with_reducible refine wp_comp0 ?_) | (with_reducible refine wp_inS ?_) | (with_reducible refine wp_notInS ?_) | (with_reducible refine wp_bm ?_) | (with_reducible refine wp_callE ?_) | (with_reducible refine wp_starts ?_) | (with_reducible refine wp_abs ?_) | walk_at "st")
        refine ⟨rfl, ?_⟩
        repeat' (first | ((with_reducible refine wp_raiseI ?_)) | (with_reducible refine wp_slE hs1 hts ?_) | (with_reducible refine ite_pF hneg ?_) | (with_reducible refine wp_lenS hus ?_) | (with_reducible refine wp_startsE hs1 ?_) | (with_reducible refine wp_istr ?_) | (with_reducible refine wp_istr' ?_) | (with_reducible refine wp_comp0 ?_) | (with_reducible refine wp_inS ?_) | (with_reducible refine wp_notInS ?_) | (with_reducible refine wp_bm ?_) | (with_reducible refine wp_callE ?_) | (with_reducible refine wp_starts ?_) | (with_reducible refine wp_abs ?_) | walk_at "st")
        exact raise_at fun dx H4 s4 hdx h4 => kE (ri_no1 hfu h1) dx H4 (Same.trans (Same.refl _) s4) (none_same (Same.refl _) hdx) h4
theorem sc_law_at : FnScope ["_law_script", "_law_k"] ["_law_script", "_law_k"] (defScope s_law_at) := ⟨rfl, rfl, rfl, by decide +kernel, rfl, by decide +kernel, by decide +kernel⟩
theorem ok_law_at (F : Fn K mg "_law_at" s_law_at ["_law_script", "_law_k"]) (T : Txt K mg e)  : FnAll P w K mg base "_law_at" 1 ["_law_script", "_law_k"] (spAt K) := by
  refine F.ok (k := 0) sc_law_at (fun vs H Q E h => ?_) (fun f cdv A outer s H vs Q E hr h => ?_)
  · obtain ⟨a, ns, i, rfl, h0, hS, k⟩ := h
    rfl
  · obtain ⟨a, ns, i, rfl, h0, hS, k⟩ := h
    have hu := hu16 hr
    have nd := sc_law_at.nd
    refine ⟨_, (pss_cons (ps_if (pt_cmpR op_lt (pv 1) (pe_callB call_lenQ (by rfl) T.b_len PySem.boot_len (pa_cons (pv 0) pa_nil)) (nomark _)) (pss_one (ps_ret (pe_ix ix_list (pv 0) (pv 1) (fun _ _ => rfl)))) pss_nil)
      (pss_one (ps_ret pe_int))), ?_⟩
    have est : start ["_law_script", "_law_k"] [.ref a, .int i] = [some (.ref a), some (.int i)] := rfl
    rw [est]
    clear est
    repeat' (first | ((with_reducible refine' wp_lenL ?ha ?_); (case ha => exact hS)) | walk_at "st")
    · rename_i hlt
      rw [List.length_map] at hlt
      refine wp_ixAny hS h0 (by rw [List.length_map]; exact hlt) fun v hv => ?_
      obtain ⟨z, _, rfl⟩ := List.mem_map.mp hv
      exact k _
    · exact k _
theorem sc_law_is : FnScope ["_law_found", "_law_due_here"] ["_law_found", "_law_due_here"] (defScope s_law_is) := ⟨rfl, rfl, rfl, by decide +kernel, rfl, by decide +kernel, by decide +kernel⟩
theorem ok_law_is (F : Fn K mg "_law_is" s_law_is ["_law_found", "_law_due_here"]) (T : Txt K mg e)  : FnAll P w K mg base "_law_is" 1 ["_law_found", "_law_due_here"] (spIs) := by
  refine F.ok (k := 0) sc_law_is (fun vs H Q E h => ?_) (fun f cdv A outer s H vs Q E hr h => ?_)
  · obtain ⟨m, n, rfl, k⟩ := h
    rfl
  · obtain ⟨m, n, rfl, k⟩ := h
    have hu := hu16 hr
    have nd := sc_law_is.nd
    refine ⟨_, (pss_one (ps_ret (pe_and (pe_callB (r := rIsi K) call_isinst (by rfl) T.b_isinstance boot_isinstance (pa_cons (pv 0) (pa_cons (pe_bltn (v := .ty "int") rfl T.b_int boot_int rfl) pa_nil))) (pe_and (pe_not (pe_callB (r := rIsi K) call_isinst (by rfl) T.b_isinstance boot_isinstance (pa_cons (pv 0) (pa_cons (pe_bltn (v := .ty "bool") rfl T.b_bool boot_bool rfl) pa_nil)))) (pe_one (pe_cmpR op_eq (pv 0) (pv 1) (nomark _))))))), ?_⟩
    have est : start ["_law_found", "_law_due_here"] [.int m, .int n] = [some (.int m), some (.int n)] := rfl
    rw [est]
    clear est
    repeat' (first | ((with_reducible refine wp_isiII ?hk ?_); (case hk => rfl)) | ((with_reducible refine wp_isiIB ?hk ?_); (case hk => rfl)) | walk_at "st")
    exact k
theorem sc_law_isH : FnScope ["_law_found", "_law_due_here"] ["_law_found", "_law_due_here"] (defScope s_law_is) := ⟨rfl, rfl, rfl, by decide +kernel, rfl, by decide +kernel, by decide +kernel⟩
theorem ok_law_isH (F : Fn K mg "_law_is" s_law_is ["_law_found", "_law_due_here"]) (T : Txt K mg e)  : FnAllH P w K mg base "_law_is" 1 ["_law_found", "_law_due_here"] (spIs) := by
  refine F.okH (k := 0) sc_law_isH (fun vs H Q E h => ?_) (fun f cdv A outer s H vs Q E hr h => ?_)
  · obtain ⟨m, n, rfl, k⟩ := h
    rfl
  · obtain ⟨m, n, rfl, k⟩ := h
    have hu := hu16H hr
    have nd := sc_law_isH.nd
    refine ⟨_, (pss_one (ps_ret (pe_and (pe_callB (r := rIsi K) call_isinst (by rfl) T.b_isinstance boot_isinstance (pa_cons (pv 0) (pa_cons (pe_bltn (v := .ty "int") rfl T.b_int boot_int rfl) pa_nil))) (pe_and (pe_not (pe_callB (r := rIsi K) call_isinst (by rfl) T.b_isinstance boot_isinstance (pa_cons (pv 0) (pa_cons (pe_bltn (v := .ty "bool") rfl T.b_bool boot_bool rfl) pa_nil)))) (pe_one (pe_cmpR op_eq (pv 0) (pv 1) (nomark _))))))), ?_⟩
    have est : start ["_law_found", "_law_due_here"] [.int m, .int n] = [some (.int m), some (.int n)] := rfl
    rw [est]
    clear est
    repeat' (first | ((with_reducible refine wp_isiII ?hk ?_); (case hk => rfl)) | ((with_reducible refine wp_isiIB ?hk ?_); (case hk => rfl)) | walk_at "st")
    exact k
theorem sc_law_number : FnScope ["_law_load"] ["_law_load"] (defScope s_law_number) := ⟨rfl, rfl, rfl, by decide +kernel, rfl, by decide +kernel, by decide +kernel⟩
theorem ok_law_number (F : Fn K mg "_law_number" s_law_number ["_law_load"]) (T : Txt K mg e)  : FnAll P w K mg base "_law_number" 1 ["_law_load"] (spNum) := by
  refine F.ok (k := 0) sc_law_number (fun vs H Q E h => ?_) (fun f cdv A outer s H vs Q E hr h => ?_)
  · obtain ⟨n, rfl, k⟩ := h
    rfl
  · obtain ⟨n, rfl, k⟩ := h
    have hu := hu16 hr
    have nd := sc_law_number.nd
    refine ⟨_, (pss_cons (ps_if (pt_cmpR op_eq (pe_op op_mod (pv 0) pe_int) pe_int (nomark _)) (pss_one (ps_ret (pe_op op_sub (pe_op op_mod (pe_op op_fdiv (pv 0) pe_int) pe_int) pe_int))) pss_nil)
      (pss_cons (ps_if (pt_cmpR op_eq (pe_op op_mod (pv 0) pe_int) pe_int (nomark _)) (pss_one (ps_ret (pe_op op_sub (pe_op op_mod (pe_op op_fdiv (pv 0) pe_int) pe_int) pe_int))) pss_nil)
      (pss_one (ps_ret (pe_op op_sub (pe_op op_mod (pe_op op_fdiv (pv 0) pe_int) (pe_op op_sub (pe_op op_mul pe_int (pe_op op_pow pe_int pe_int)) pe_int)) (pe_op op_sub (pe_op op_pow pe_int pe_int) pe_int)))))), ?_⟩
    have est : start ["_law_load"] [.int n] = [some (.int n)] := rfl
    rw [est]
    clear est
    obtain ⟨B, hB⟩ : ∃ B : Nat, B = 10 ^ 60 := ⟨_, rfl⟩
    have hB2 : ((B : Nat) : Int) = (10 : Int) ^ (60 : Int).toNat := by rw [hB]; decide +kernel
    have hB3 : 5001 < B := by rw [hB]; decide +kernel
    rw [← hB] at k
    repeat' (first | (with_reducible refine wp_istr ?_) | (with_reducible refine wp_istr' ?_) | (with_reducible refine wp_comp0 ?_) | (with_reducible refine wp_inS ?_) | (with_reducible refine wp_notInS ?_) | (with_reducible refine wp_bm ?_) | (with_reducible refine wp_callE ?_) | (with_reducible refine wp_starts ?_) | (with_reducible refine wp_abs ?_) | walk_at "st")
    · exact k _ (by omega)
    · exact k _ (by omega)
    · rw [← hB2]
      have h1 := Int.emod_nonneg (n / 3) (show (2 * (B : Int) - 1) ≠ 0 by omega)
      have h2 := Int.emod_lt_of_pos (n / 3) (show 0 < (2 * (B : Int) - 1) by omega)
      exact k _ (by omega)
theorem sc_law_sign : FnScope ["_law_load"] ["_law_load"] (defScope s_law_sign) := ⟨rfl, rfl, rfl, by decide +kernel, rfl, by decide +kernel, by decide +kernel⟩
theorem ok_law_sign (F : Fn K mg "_law_sign" s_law_sign ["_law_load"]) (T : Txt K mg e)  : FnAll P w K mg base "_law_sign" 1 ["_law_load"] (spSign) := by
  refine F.ok (k := 0) sc_law_sign (fun vs H Q E h => ?_) (fun f cdv A outer s H vs Q E hr h => ?_)
  · obtain ⟨n, rfl, k⟩ := h
    rfl
  · obtain ⟨n, rfl, k⟩ := h
    have hu := hu16 hr
    have nd := sc_law_sign.nd
    refine ⟨_, (pss_one (ps_ret (pe_ix ix_str pe_str (pe_op op_mod (pv 0) pe_int) (fun _ _ => rfl)))), ?_⟩
    have est : start ["_law_load"] [.int n] = [some (.int n)] := rfl
    rw [est]
    clear est
    repeat' (first | ((with_reducible refine wp_ixS' ?a ?b ?c ?_); (case a => rw [lit_sg]; decide); (case b => omega); (case c => rw [lit_sg]; omega); intro _ _ _) | (with_reducible refine wp_istr ?_) | (with_reducible refine wp_istr' ?_) | (with_reducible refine wp_comp0 ?_) | (with_reducible refine wp_inS ?_) | (with_reducible refine wp_notInS ?_) | (with_reducible refine wp_bm ?_) | (with_reducible refine wp_callE ?_) | (with_reducible refine wp_starts ?_) | (with_reducible refine wp_abs ?_) | walk_at "st")
    exact k _ (by assumption)
theorem sc_law_spoiled : FnScope ["_law_text_here", "_law_load", "_law_way", "_law_place", "_law_sign_here"] ["_law_text_here", "_law_load"] (defScope s_law_spoiled) := ⟨rfl, rfl, rfl, by decide +kernel, rfl, by decide +kernel, by decide +kernel⟩
theorem ok_law_spoiled (F : Fn K mg "_law_spoiled" s_law_spoiled ["_law_text_here", "_law_load"]) (T : Txt K mg e) (F_law_sign : FnAll P w K mg base "_law_sign" 1 ["_law_load"] (spSign)) : FnAll P w K mg base "_law_spoiled" 2 ["_law_text_here", "_law_load"] (spSpoil) := by
  refine F.ok (k := 1) sc_law_spoiled (fun vs H Q E h => ?_) (fun f cdv A outer s H vs Q E hr h => ?_)
  · obtain ⟨t, n, rfl, hl, k⟩ := h
    rfl
  · obtain ⟨t, n, rfl, hl, k⟩ := h
    have hu := hu16 hr
    have nd := sc_law_spoiled.nd
    refine ⟨_, (pss_cons (ps_set (i := 2) nd rfl (Or.inl rfl) (pe_op op_mod (pv 1) pe_int))
      (pss_cons (ps_set (i := 3) nd rfl (Or.inl rfl) (pe_op op_mod (pe_op op_fdiv (pv 1) pe_int) (pe_op op_add (pe_callB call_lenS (by rfl) T.b_len PySem.boot_len (pa_cons (pv 0) pa_nil)) pe_int)))
      (pss_cons (ps_set (i := 4) nd rfl (Or.inl rfl) (pe_callF F_law_sign hr (pa_cons (pe_op op_fdiv (pe_op op_fdiv (pv 1) pe_int) (pe_op op_add (pe_callB call_lenS (by rfl) T.b_len PySem.boot_len (pa_cons (pv 0) pa_nil)) pe_int)) pa_nil)))
      (pss_cons (ps_if (pt_cmpR op_eq (pv 2) pe_int (nomark _)) (pss_one (ps_ret (pe_op op_addS (pe_op op_addS (pe_slice sl_str (pv 0) po_none (po_some (pv 3))) (pv 4)) (pe_slice sl_str (pv 0) (po_some (pv 3)) po_none)))) pss_nil)
      (pss_cons (ps_if (pt_cmpR op_eq (pv 2) pe_int (nomark _)) (pss_one (ps_ret (pe_op op_addS (pe_slice sl_str (pv 0) po_none (po_some (pv 3))) (pe_slice sl_str (pv 0) (po_some (pe_op op_add (pv 3) pe_int)) po_none)))) pss_nil)
      (pss_one (ps_ret (pe_op op_addS (pe_op op_addS (pe_slice sl_str (pv 0) po_none (po_some (pv 3))) (pv 4)) (pe_slice sl_str (pv 0) (po_some (pe_op op_add (pv 3) pe_int)) po_none))))))))), ?_⟩
    have est : start ["_law_text_here", "_law_load", "_law_way", "_law_place", "_law_sign_here"] [.str t, .int n] = [some (.str t), some (.int n), none, none, none] := rfl
    rw [est]
    clear est
    repeat' (first | ((with_reducible refine use_sign ?_); intro _ _) | (with_reducible refine wp_istr ?_) | (with_reducible refine wp_istr' ?_) | (with_reducible refine wp_comp0 ?_) | (with_reducible refine wp_inS ?_) | (with_reducible refine wp_notInS ?_) | (with_reducible refine wp_bm ?_) | (with_reducible refine wp_callE ?_) | (with_reducible refine wp_starts ?_) | (with_reducible refine wp_abs ?_) | walk_at "st")
    all_goals refine k _ ?_
    all_goals walk_at "side"
theorem sc_law_figures : FnScope ["_law_number_here", "_law_found", "_law_rest", "_law_last"] ["_law_number_here"] (defScope s_law_figures) := ⟨rfl, rfl, rfl, by decide +kernel, rfl, by decide +kernel, by decide +kernel⟩
theorem ok_law_figures (F : Fn K mg "_law_figures" s_law_figures ["_law_number_here"]) (T : Txt K mg e)  : FnAll P w K mg base "_law_figures" 1 ["_law_number_here"] (spFigs) := by
  refine F.ok (k := 0) sc_law_figures (fun vs H Q E h => ?_) (fun f cdv A outer s H vs Q E hr h => ?_)
  · obtain ⟨n, rfl, hn, k⟩ := h
    rfl
  · obtain ⟨n, rfl, hn, k⟩ := h
    have hu := hu16 hr
    have nd := sc_law_figures.nd
    refine ⟨_, (pss_cons (ps_set (i := 1) nd rfl (Or.inl rfl) pe_str)
      (pss_cons (ps_set (i := 2) nd rfl (Or.inl rfl) (pe_callB call_abs' (by rfl) T.b_abs PyProof.Rows.boot_abs (pa_cons (pv 0) pa_nil)))
      (pss_cons (PS.nox (ps_while PassesOwn.never (PW.pt (pw_or (pt_cmpR op_gt (pv 2) pe_int (nomark _)) (pw_or1 (pt_cmpR op_eq (pv 1) pe_str (nomark _))))) (pss_cons (ps_asg (pe_callB call_divm (by rfl) T.b_divmod PyProof.Rows.boot_divmod (pa_cons (pv 2) (pa_cons pe_int pa_nil))) (pg_tup rfl (pgs_cons (pg_name (i := 2) nd rfl (Or.inl rfl)) (pgs_cons (pg_name (i := 3) nd rfl (Or.inl rfl)) pgs_nil))))
      (pss_one (ps_set (i := 1) nd rfl (Or.inl rfl) (pe_op op_addS (pe_ix ix_str pe_str (pv 3) (fun _ _ => rfl)) (pv 1)))))))
      (pss_cons (ps_if (pt_cmpR op_lt (pv 0) pe_int (nomark _)) (pss_one (ps_ret (pe_op op_addS pe_str (pv 1)))) pss_nil)
      (pss_one (ps_ret (pv 1))))))), ?_⟩
    have est : start ["_law_number_here", "_law_found", "_law_rest", "_law_last"] [.int n] = [some (.int n), none, none, none] := rfl
    rw [est]
    clear est
    have hfl := natlt (k := 60) (by decide) hn
    have hsz := sizeLine_eq
    repeat' (first | (with_reducible refine wp_istr ?_) | (with_reducible refine wp_istr' ?_) | (with_reducible refine wp_comp0 ?_) | (with_reducible refine wp_inS ?_) | (with_reducible refine wp_notInS ?_) | (with_reducible refine wp_bm ?_) | (with_reducible refine wp_callE ?_) | (with_reducible refine wp_starts ?_) | (with_reducible refine wp_abs ?_) | walk_at "st")
    refine ⟨figW H n, ⟨_, Same.refl _, n.natAbs, Str.ofString "", none, rfl, rfl, .inl ⟨rfl, rfl⟩⟩, ?_⟩
    rintro m _ H1 ⟨s1, r, f, o, rfl, hm, hI⟩
    have hfl2 : f.length ≤ 60 := by
      rcases hI with ⟨h, _⟩ | ⟨_, h⟩
      · rw [h, lit_e]; omega
      · have h9 := congrArg List.length h
        rw [List.length_append] at h9
        have h8 : f.cps.toList.length = f.cps.size := Array.length_toList
        show f.cps.size ≤ 60
        omega
    have hmi := lit_mi
    have hmi2 : (Str.ofString "-").length + f.length ≤ sizeLine := by omega
    repeat' (first | (with_reducible refine wp_addS hmi2 ?_) | (with_reducible refine wp_istr ?_) | (with_reducible refine wp_istr' ?_) | (with_reducible refine wp_comp0 ?_) | (with_reducible refine wp_inS ?_) | (with_reducible refine wp_notInS ?_) | (with_reducible refine wp_bm ?_) | (with_reducible refine wp_callE ?_) | (with_reducible refine wp_starts ?_) | (with_reducible refine wp_abs ?_) | walk_at "st")
    · have hr0 : 0 < r := by omega
      have hfin : figs r ++ f.cps.toList = figs n.natAbs := by
        rcases hI with ⟨h1, h2⟩ | ⟨_, h⟩
        · rw [(empty_iff f).mp h1, List.append_nil, h2]
        · rw [if_neg (by omega)] at h; exact h
      refine ⟨fun σ' H' => ∃ m', m' < m ∧ figW H n m' σ' H', fun _ _ h => h, ?_⟩
      repeat' (first | (with_reducible refine wp_istr ?_) | (with_reducible refine wp_istr' ?_) | (with_reducible refine wp_comp0 ?_) | (with_reducible refine wp_inS ?_) | (with_reducible refine wp_notInS ?_) | (with_reducible refine wp_bm ?_) | (with_reducible refine wp_callE ?_) | (with_reducible refine wp_starts ?_) | (with_reducible refine wp_abs ?_) | walk_at "st")
      refine wp_divm (by unfold CDiv; omega) fun p H2 s2 h2 => ?_
      refine ⟨p, _, rfl, .inl (.inl h2), rfl, _, _, rfl, ?_⟩
      repeat' (first | (with_reducible refine wp_istr ?_) | (with_reducible refine wp_istr' ?_) | (with_reducible refine wp_comp0 ?_) | (with_reducible refine wp_inS ?_) | (with_reducible refine wp_notInS ?_) | (with_reducible refine wp_bm ?_) | (with_reducible refine wp_callE ?_) | (with_reducible refine wp_starts ?_) | (with_reducible refine wp_abs ?_) | walk_at "st")
      refine ⟨_, _, rfl, ?_⟩
      repeat' (first | (with_reducible refine wp_istr ?_) | (with_reducible refine wp_istr' ?_) | (with_reducible refine wp_comp0 ?_) | (with_reducible refine wp_inS ?_) | (with_reducible refine wp_notInS ?_) | (with_reducible refine wp_bm ?_) | (with_reducible refine wp_callE ?_) | (with_reducible refine wp_starts ?_) | (with_reducible refine wp_abs ?_) | walk_at "st")
      refine ⟨rfl, ?_⟩
      repeat' (first | (with_reducible refine wp_istr ?_) | (with_reducible refine wp_istr' ?_) | (with_reducible refine wp_comp0 ?_) | (with_reducible refine wp_inS ?_) | (with_reducible refine wp_notInS ?_) | (with_reducible refine wp_bm ?_) | (with_reducible refine wp_callE ?_) | (with_reducible refine wp_starts ?_) | (with_reducible refine wp_abs ?_) | walk_at "st")
      refine wp_ixS (c := 48 + r % 10) (by rw [lit_fi]; decide) (fi_at r) ?_
      have hone : (⟨#[48 + r % 10]⟩ : Str).length = 1 := rfl
      have hone2 : (⟨#[48 + r % 10]⟩ : Str).length + f.length ≤ sizeLine := by omega
      repeat' (first | (with_reducible refine wp_addS hone2 ?_) | (with_reducible refine wp_istr ?_) | (with_reducible refine wp_istr' ?_) | (with_reducible refine wp_comp0 ?_) | (with_reducible refine wp_inS ?_) | (with_reducible refine wp_notInS ?_) | (with_reducible refine wp_bm ?_) | (with_reducible refine wp_callE ?_) | (with_reducible refine wp_starts ?_) | (with_reducible refine wp_abs ?_) | walk_at "st")
      have hcp : ((⟨#[48 + r % 10]⟩ : Str) ++ f).cps.toList = (48 + r % 10) :: f.cps.toList := by rw [cps_app, Array.toList_append]; rfl
      have hfn : ((⟨#[48 + r % 10]⟩ : Str) ++ f) ≠ Str.ofString "" := fun e0 => by
        have := (empty_iff _).mp e0
        rw [hcp] at this
        cases this
      have er : ((r : Int) / 10) = ((r / 10 : Nat) : Int) := by omega
      refine ⟨_, ?_, s1.trans s2, r / 10, (⟨#[48 + r % 10]⟩ : Str) ++ f, _, by rw [er]; rfl, rfl, .inr ⟨hfn, ?_⟩⟩
      · rw [if_neg hfn, hm]
        split
        · omega
        · first | omega | contradiction
      · rw [hcp, List.append_cons, figs_step]
        exact hfin
    · rename_i hr0 hfe
      have hfin : figs r ++ f.cps.toList = figs n.natAbs := by
        rcases hI with ⟨h1, h2⟩ | ⟨h1, _⟩
        · rw [(empty_iff f).mp h1, List.append_nil, h2]
        · exact absurd hfe h1
      refine ⟨fun σ' H' => ∃ m', m' < m ∧ figW H n m' σ' H', fun _ _ h => h, ?_⟩
      repeat' (first | (with_reducible refine wp_istr ?_) | (with_reducible refine wp_istr' ?_) | (with_reducible refine wp_comp0 ?_) | (with_reducible refine wp_inS ?_) | (with_reducible refine wp_notInS ?_) | (with_reducible refine wp_bm ?_) | (with_reducible refine wp_callE ?_) | (with_reducible refine wp_starts ?_) | (with_reducible refine wp_abs ?_) | walk_at "st")
      refine wp_divm (by unfold CDiv; omega) fun p H2 s2 h2 => ?_
      refine ⟨p, _, rfl, .inl (.inl h2), rfl, _, _, rfl, ?_⟩
      repeat' (first | (with_reducible refine wp_istr ?_) | (with_reducible refine wp_istr' ?_) | (with_reducible refine wp_comp0 ?_) | (with_reducible refine wp_inS ?_) | (with_reducible refine wp_notInS ?_) | (with_reducible refine wp_bm ?_) | (with_reducible refine wp_callE ?_) | (with_reducible refine wp_starts ?_) | (with_reducible refine wp_abs ?_) | walk_at "st")
      refine ⟨_, _, rfl, ?_⟩
      repeat' (first | (with_reducible refine wp_istr ?_) | (with_reducible refine wp_istr' ?_) | (with_reducible refine wp_comp0 ?_) | (with_reducible refine wp_inS ?_) | (with_reducible refine wp_notInS ?_) | (with_reducible refine wp_bm ?_) | (with_reducible refine wp_callE ?_) | (with_reducible refine wp_starts ?_) | (with_reducible refine wp_abs ?_) | walk_at "st")
      refine ⟨rfl, ?_⟩
      repeat' (first | (with_reducible refine wp_istr ?_) | (with_reducible refine wp_istr' ?_) | (with_reducible refine wp_comp0 ?_) | (with_reducible refine wp_inS ?_) | (with_reducible refine wp_notInS ?_) | (with_reducible refine wp_bm ?_) | (with_reducible refine wp_callE ?_) | (with_reducible refine wp_starts ?_) | (with_reducible refine wp_abs ?_) | walk_at "st")
      refine wp_ixS (c := 48 + r % 10) (by rw [lit_fi]; decide) (fi_at r) ?_
      have hone : (⟨#[48 + r % 10]⟩ : Str).length = 1 := rfl
      have hone2 : (⟨#[48 + r % 10]⟩ : Str).length + f.length ≤ sizeLine := by omega
      repeat' (first | (with_reducible refine wp_addS hone2 ?_) | (with_reducible refine wp_istr ?_) | (with_reducible refine wp_istr' ?_) | (with_reducible refine wp_comp0 ?_) | (with_reducible refine wp_inS ?_) | (with_reducible refine wp_notInS ?_) | (with_reducible refine wp_bm ?_) | (with_reducible refine wp_callE ?_) | (with_reducible refine wp_starts ?_) | (with_reducible refine wp_abs ?_) | walk_at "st")
      have hcp : ((⟨#[48 + r % 10]⟩ : Str) ++ f).cps.toList = (48 + r % 10) :: f.cps.toList := by rw [cps_app, Array.toList_append]; rfl
      have hfn : ((⟨#[48 + r % 10]⟩ : Str) ++ f) ≠ Str.ofString "" := fun e0 => by
        have := (empty_iff _).mp e0
        rw [hcp] at this
        cases this
      have er : ((r : Int) / 10) = ((r / 10 : Nat) : Int) := by omega
      refine ⟨_, ?_, s1.trans s2, r / 10, (⟨#[48 + r % 10]⟩ : Str) ++ f, _, by rw [er]; rfl, rfl, .inr ⟨hfn, ?_⟩⟩
      · rw [if_neg hfn, hm]
        split
        · omega
        · first | omega | contradiction
      · rw [hcp, List.append_cons, figs_step]
        exact hfin
    all_goals
      have hfc : f.cps.toList = figs n.natAbs := by
        rcases hI with ⟨h1, h2⟩ | ⟨_, h⟩
        · contradiction
        · rw [if_pos (by omega)] at h; exact h
    · have e1 : (Str.ofString "-") ++ f = shI n := by
        refine str_ext (Array.toList_inj.mp ?_)
        rw [cps_app, Array.toList_append, hfc, shI_neg (by omega)]
        rfl
      rw [e1]
      exact k _ s1
    · have e1 : f = shI n := str_ext (Array.toList_inj.mp (by rw [hfc, shI_pos (by omega)]))
      rw [e1]
      exact k _ s1
theorem sc_law_due : FnScope ["_law_text_here", "_law_figures_here", "_law_due_here", "_law_sign_here"] ["_law_text_here"] (defScope s_law_due) := ⟨rfl, rfl, rfl, by decide +kernel, rfl, by decide +kernel, by decide +kernel⟩
theorem ok_law_due (F : Fn K mg "_law_due" s_law_due ["_law_text_here"]) (T : Txt K mg e)  : FnAll P w K mg base "_law_due" 1 ["_law_text_here"] (spDue) := by
  refine F.ok (k := 0) sc_law_due (fun vs H Q E h => ?_) (fun f cdv A outer s H vs Q E hr h => ?_)
  · obtain ⟨t, rfl, hl, k⟩ := h
    rfl
  · obtain ⟨t, rfl, hl, k⟩ := h
    have hu := hu16 hr
    have nd := sc_law_due.nd
    refine ⟨_, (pss_cons (ps_set (i := 1) nd rfl (Or.inl rfl) (pv 0))
      (pss_cons (ps_if (pt_cmpR op_eq (pe_slice sl_str (pv 0) po_none (po_some pe_int)) pe_str (nomark _)) (pss_one (ps_set (i := 1) nd rfl (Or.inl rfl) (pe_slice sl_str (pv 0) (po_some pe_int) po_none))) pss_nil)
      (pss_cons (ps_if (PW.pt (pw_or (pt_cmpR op_eq (pv 1) pe_str (nomark _)) (pw_or (pt_cmpR op_gt (pe_callB call_lenS (by rfl) T.b_len PySem.boot_len (pa_cons (pv 1) pa_nil)) pe_int (nomark _)) (pw_or1 (PW.pt (pw_and (pt_cmpR op_eq (pe_ix ix_str (pv 1) pe_int (fun _ _ => rfl)) pe_str (nomark _)) (pw_and1 (pt_cmpR op_ne (pv 0) pe_str (nomark _))))))))) (pss_one (ps_ret pe_non)) pss_nil)
      (pss_cons (ps_set (i := 2) nd rfl (Or.inl rfl) pe_int)
      (pss_cons (ps_for PassesOwn.never rfl (pi_str (pv 1)) (pg_name (i := 3) nd rfl (Or.inl rfl)) (pss_cons (ps_if (pt_cmpR op_notInS (pv 3) pe_str rfl) (pss_one (ps_ret pe_non)) pss_nil)
      (pss_one (ps_set (i := 2) nd rfl (Or.inl rfl) (pe_op op_add (pe_op op_mul pe_int (pv 2)) (pe_bm PySem.F.plainAttrs_str PySem.F.slot_str_index PySem.F.type_str_index mt_indexS pe_str (pa_cons (pv 3) pa_nil)))))))
      (pss_cons (ps_if (pt_cmpR op_eq (pe_slice sl_str (pv 0) po_none (po_some pe_int)) pe_str (nomark _)) (pss_one (ps_ret (pe_un un_neg (pv 2)))) pss_nil)
      (pss_one (ps_ret (pv 2))))))))), ?_⟩
    have est : start ["_law_text_here", "_law_figures_here", "_law_due_here", "_law_sign_here"] [.str t] = [some (.str t), none, none, none] := rfl
    rw [est]
    clear est
    have hsz := sizeLine_eq
    have hts : t.length ≤ sizeLine := by omega
    obtain ⟨s1, hs1⟩ := slE1 t
    by_cases hneg : s1 = (Str.ofString "-")
    · obtain ⟨u, hfu⟩ := fgE t
      have hsl := fgE_neg hs1 hneg hfu
      have hus : u.length ≤ sizeLine := by have := fgE_len hfu; omega
      by_cases he : u = Str.ofString ""
      · rw [due_b1 hfu he] at k
        repeat' (first | (with_reducible refine wp_slE hs1 hts ?_) | (with_reducible refine wp_slE hsl hts ?_) | (with_reducible refine ite_pT hneg ?_) | (with_reducible refine wp_lenS hus ?_) | (with_reducible refine ite_pT he ?_) | (with_reducible refine wp_istr ?_) | (with_reducible refine wp_istr' ?_) | (with_reducible refine wp_comp0 ?_) | (with_reducible refine wp_inS ?_) | (with_reducible refine wp_notInS ?_) | (with_reducible refine wp_bm ?_) | (with_reducible refine wp_callE ?_) | (with_reducible refine wp_starts ?_) | (with_reducible refine wp_abs ?_) | walk_at "st")
        exact k
      by_cases h60 : (u.length : Int) > 60
      · rw [due_b2 hfu h60] at k
        repeat' (first | (with_reducible refine wp_slE hs1 hts ?_) | (with_reducible refine wp_slE hsl hts ?_) | (with_reducible refine ite_pT hneg ?_) | (with_reducible refine wp_lenS hus ?_) | (with_reducible refine ite_pF he ?_) | (with_reducible refine ite_pT h60 ?_) | (with_reducible refine wp_istr ?_) | (with_reducible refine wp_istr' ?_) | (with_reducible refine wp_comp0 ?_) | (with_reducible refine wp_inS ?_) | (with_reducible refine wp_notInS ?_) | (with_reducible refine wp_bm ?_) | (with_reducible refine wp_callE ?_) | (with_reducible refine wp_starts ?_) | (with_reducible refine wp_abs ?_) | walk_at "st")
        exact k
      obtain ⟨c0, hc0⟩ := at0 he
      by_cases hz : c0 = 48 ∧ ¬ t = (Str.ofString "0")
      · rw [due_b3 hfu hc0 hz] at k
        have hz0 : (⟨#[c0]⟩ : Str) = (Str.ofString "0") := (one_zero c0).mpr hz.1
        have hz1 := hz.2
        repeat' (first | (with_reducible refine wp_slE hs1 hts ?_) | (with_reducible refine wp_slE hsl hts ?_) | (with_reducible refine ite_pT hneg ?_) | (with_reducible refine wp_lenS hus ?_) | (with_reducible refine ite_pF he ?_) | (with_reducible refine ite_pF h60 ?_) | (with_reducible refine wp_ixS hus hc0 ?_) | (with_reducible refine ite_pT hz0 ?_) | (with_reducible refine ite_nT hz1 ?_) | (with_reducible refine wp_istr ?_) | (with_reducible refine wp_istr' ?_) | (with_reducible refine wp_comp0 ?_) | (with_reducible refine wp_inS ?_) | (with_reducible refine wp_notInS ?_) | (with_reducible refine wp_bm ?_) | (with_reducible refine wp_callE ?_) | (with_reducible refine wp_starts ?_) | (with_reducible refine wp_abs ?_) | walk_at "st")
        exact k
      repeat' (first | (with_reducible refine wp_slE hs1 hts ?_) | (with_reducible refine wp_slE hsl hts ?_) | (with_reducible refine ite_pT hneg ?_) | (with_reducible refine wp_lenS hus ?_) | (with_reducible refine ite_pF he ?_) | (with_reducible refine ite_pF h60 ?_) | (with_reducible refine wp_ixS hus hc0 ?_) | (with_reducible refine ite_sh (p := (⟨#[c0]⟩ : Str) = (Str.ofString "0")) ?_ ?_) | (with_reducible refine wp_istr ?_) | (with_reducible refine wp_istr' ?_) | (with_reducible refine wp_comp0 ?_) | (with_reducible refine wp_inS ?_) | (with_reducible refine wp_notInS ?_) | (with_reducible refine wp_bm ?_) | (with_reducible refine wp_callE ?_) | (with_reducible refine wp_starts ?_) | (with_reducible refine wp_abs ?_) | walk_at "st")
      · intro hp hB
        have htz : t = (Str.ofString "0") := Classical.byContradiction fun h => hz ⟨(one_zero c0).mp hp, h⟩
        repeat' (first | (with_reducible exact ite_nF htz (iteF' hB)) | (with_reducible exact ite_nF htz hB) | (with_reducible refine wp_slE hs1 hts ?_) | (with_reducible refine wp_slE hsl hts ?_) | (with_reducible refine ite_pT hneg ?_) | (with_reducible refine wp_lenS hus ?_) | (with_reducible refine ite_pF he ?_) | (with_reducible refine ite_pF h60 ?_) | (with_reducible refine wp_ixS hus hc0 ?_) | (with_reducible refine wp_istr ?_) | (with_reducible refine wp_istr' ?_) | (with_reducible refine wp_comp0 ?_) | (with_reducible refine wp_inS ?_) | (with_reducible refine wp_notInS ?_) | (with_reducible refine wp_bm ?_) | (with_reducible refine wp_callE ?_) | (with_reducible refine wp_starts ?_) | (with_reducible refine wp_abs ?_) | walk_at "st")
      · refine loop_str (dueW H t u) dueW_0 ?_ ?_
        · rintro i c _ _ hi ⟨rfl, o, v, rfl, hv, hd⟩
          by_cases hdg : 48 ≤ c ∧ c ≤ 57
          · repeat' (first | (with_reducible refine wp_niF hdg ?_) | (with_reducible refine iteF ?_) | (with_reducible refine wp_istr ?_) | (with_reducible refine wp_istr' ?_) | (with_reducible refine wp_comp0 ?_) | (with_reducible refine wp_inS ?_) | (with_reducible refine wp_notInS ?_) | (with_reducible refine wp_bm ?_) | (with_reducible refine wp_callE ?_) | (with_reducible refine wp_starts ?_) | (with_reducible refine wp_abs ?_) | walk_at "st")
            refine ⟨rfl, ?_⟩
            repeat' (first | (with_reducible refine wp_ixN hdg ?_) | (with_reducible refine wp_istr ?_) | (with_reducible refine wp_istr' ?_) | (with_reducible refine wp_comp0 ?_) | (with_reducible refine wp_inS ?_) | (with_reducible refine wp_notInS ?_) | (with_reducible refine wp_bm ?_) | (with_reducible refine wp_callE ?_) | (with_reducible refine wp_starts ?_) | (with_reducible refine wp_abs ?_) | walk_at "st")
            exact dueW_step hi hdg hd hv
          · rw [due_b4 hfu hi hdg] at k
            repeat' (first | (with_reducible refine wp_niT hdg ?_) | (with_reducible refine iteT ?_) | (with_reducible refine wp_istr ?_) | (with_reducible refine wp_istr' ?_) | (with_reducible refine wp_comp0 ?_) | (with_reducible refine wp_inS ?_) | (with_reducible refine wp_notInS ?_) | (with_reducible refine wp_bm ?_) | (with_reducible refine wp_callE ?_) | (with_reducible refine wp_starts ?_) | (with_reducible refine wp_abs ?_) | walk_at "st")
            exact k
        · rintro _ _ ⟨rfl, o, v, rfl, hv, hd⟩
          have hend := due_end hfu hs1 he h60 hc0 hz hv hd
          rw [hend.1 hneg] at k
          repeat' (first | (with_reducible refine wp_slE hs1 hts ?_) | (with_reducible refine wp_slE hsl hts ?_) | (with_reducible refine ite_pT hneg ?_) | (with_reducible refine wp_lenS hus ?_) | (with_reducible refine wp_istr ?_) | (with_reducible refine wp_istr' ?_) | (with_reducible refine wp_comp0 ?_) | (with_reducible refine wp_inS ?_) | (with_reducible refine wp_notInS ?_) | (with_reducible refine wp_bm ?_) | (with_reducible refine wp_callE ?_) | (with_reducible refine wp_starts ?_) | (with_reducible refine wp_abs ?_) | walk_at "st")
          exact k
    · have hfu := fgE_pos hs1 hneg
      have hus : t.length ≤ sizeLine := by have := fgE_len hfu; omega
      by_cases he : t = Str.ofString ""
      · rw [due_b1 hfu he] at k
        repeat' (first | (with_reducible refine wp_slE hs1 hts ?_) | (with_reducible refine ite_pF hneg ?_) | (with_reducible refine wp_lenS hus ?_) | (with_reducible refine ite_pT he ?_) | (with_reducible refine wp_istr ?_) | (with_reducible refine wp_istr' ?_) | (with_reducible refine wp_comp0 ?_) | (with_reducible refine wp_inS ?_) | (with_reducible refine wp_notInS ?_) | (with_reducible refine wp_bm ?_) | (with_reducible refine wp_callE ?_) | (with_reducible refine wp_starts ?_) | (with_reducible refine wp_abs ?_) | walk_at "st")
        exact k
      by_cases h60 : (t.length : Int) > 60
      · rw [due_b2 hfu h60] at k
        repeat' (first | (with_reducible refine wp_slE hs1 hts ?_) | (with_reducible refine ite_pF hneg ?_) | (with_reducible refine wp_lenS hus ?_) | (with_reducible refine ite_pF he ?_) | (with_reducible refine ite_pT h60 ?_) | (with_reducible refine wp_istr ?_) | (with_reducible refine wp_istr' ?_) | (with_reducible refine wp_comp0 ?_) | (with_reducible refine wp_inS ?_) | (with_reducible refine wp_notInS ?_) | (with_reducible refine wp_bm ?_) | (with_reducible refine wp_callE ?_) | (with_reducible refine wp_starts ?_) | (with_reducible refine wp_abs ?_) | walk_at "st")
        exact k
      obtain ⟨c0, hc0⟩ := at0 he
      by_cases hz : c0 = 48 ∧ ¬ t = (Str.ofString "0")
      · rw [due_b3 hfu hc0 hz] at k
        have hz0 : (⟨#[c0]⟩ : Str) = (Str.ofString "0") := (one_zero c0).mpr hz.1
        have hz1 := hz.2
        repeat' (first | (with_reducible refine wp_slE hs1 hts ?_) | (with_reducible refine ite_pF hneg ?_) | (with_reducible refine wp_lenS hus ?_) | (with_reducible refine ite_pF he ?_) | (with_reducible refine ite_pF h60 ?_) | (with_reducible refine wp_ixS hus hc0 ?_) | (with_reducible refine ite_pT hz0 ?_) | (with_reducible refine ite_nT hz1 ?_) | (with_reducible refine wp_istr ?_) | (with_reducible refine wp_istr' ?_) | (with_reducible refine wp_comp0 ?_) | (with_reducible refine wp_inS ?_) | (with_reducible refine wp_notInS ?_) | (with_reducible refine wp_bm ?_) | (with_reducible refine wp_callE ?_) | (with_reducible refine wp_starts ?_) | (with_reducible refine wp_abs ?_) | walk_at "st")
        exact k
      repeat' (first | (with_reducible refine wp_slE hs1 hts ?_) | (with_reducible refine ite_pF hneg ?_) | (with_reducible refine wp_lenS hus ?_) | (with_reducible refine ite_pF he ?_) | (with_reducible refine ite_pF h60 ?_) | (with_reducible refine wp_ixS hus hc0 ?_) | (with_reducible refine ite_sh (p := (⟨#[c0]⟩ : Str) = (Str.ofString "0")) ?_ ?_) | (with_reducible refine wp_istr ?_) | (with_reducible refine wp_istr' ?_) | (with_reducible refine wp_comp0 ?_) | (with_reducible refine wp_inS ?_) | (with_reducible refine wp_notInS ?_) | (with_reducible refine wp_bm ?_) | (with_reducible refine wp_callE ?_) | (with_reducible refine wp_starts ?_) | (with_reducible refine wp_abs ?_) | walk_at "st")
      · intro hp hB
        have htz : t = (Str.ofString "0") := Classical.byContradiction fun h => hz ⟨(one_zero c0).mp hp, h⟩
        repeat' (first | (with_reducible exact ite_nF htz (iteF' hB)) | (with_reducible exact ite_nF htz hB) | (with_reducible refine wp_slE hs1 hts ?_) | (with_reducible refine ite_pF hneg ?_) | (with_reducible refine wp_lenS hus ?_) | (with_reducible refine ite_pF he ?_) | (with_reducible refine ite_pF h60 ?_) | (with_reducible refine wp_ixS hus hc0 ?_) | (with_reducible refine wp_istr ?_) | (with_reducible refine wp_istr' ?_) | (with_reducible refine wp_comp0 ?_) | (with_reducible refine wp_inS ?_) | (with_reducible refine wp_notInS ?_) | (with_reducible refine wp_bm ?_) | (with_reducible refine wp_callE ?_) | (with_reducible refine wp_starts ?_) | (with_reducible refine wp_abs ?_) | walk_at "st")
      · refine loop_str (dueW H t t) dueW_0 ?_ ?_
        · rintro i c _ _ hi ⟨rfl, o, v, rfl, hv, hd⟩
          by_cases hdg : 48 ≤ c ∧ c ≤ 57
          · repeat' (first | (with_reducible refine wp_niF hdg ?_) | (with_reducible refine iteF ?_) | (with_reducible refine wp_istr ?_) | (with_reducible refine wp_istr' ?_) | (with_reducible refine wp_comp0 ?_) | (with_reducible refine wp_inS ?_) | (with_reducible refine wp_notInS ?_) | (with_reducible refine wp_bm ?_) | (with_reducible refine wp_callE ?_) | (with_reducible refine wp_starts ?_) | (with_reducible refine wp_abs ?_) | walk_at "st")
            refine ⟨rfl, ?_⟩
            repeat' (first | (with_reducible refine wp_ixN hdg ?_) | (with_reducible refine wp_istr ?_) | (with_reducible refine wp_istr' ?_) | (with_reducible refine wp_comp0 ?_) | (with_reducible refine wp_inS ?_) | (with_reducible refine wp_notInS ?_) | (with_reducible refine wp_bm ?_) | (with_reducible refine wp_callE ?_) | (with_reducible refine wp_starts ?_) | (with_reducible refine wp_abs ?_) | walk_at "st")
            exact dueW_step hi hdg hd hv
          · rw [due_b4 hfu hi hdg] at k
            repeat' (first | (with_reducible refine wp_niT hdg ?_) | (with_reducible refine iteT ?_) | (with_reducible refine wp_istr ?_) | (with_reducible refine wp_istr' ?_) | (with_reducible refine wp_comp0 ?_) | (with_reducible refine wp_inS ?_) | (with_reducible refine wp_notInS ?_) | (with_reducible refine wp_bm ?_) | (with_reducible refine wp_callE ?_) | (with_reducible refine wp_starts ?_) | (with_reducible refine wp_abs ?_) | walk_at "st")
            exact k
        · rintro _ _ ⟨rfl, o, v, rfl, hv, hd⟩
          have hend := due_end hfu hs1 he h60 hc0 hz hv hd
          rw [hend.2 hneg] at k
          repeat' (first | (with_reducible refine wp_slE hs1 hts ?_) | (with_reducible refine ite_pF hneg ?_) | (with_reducible refine wp_lenS hus ?_) | (with_reducible refine wp_istr ?_) | (with_reducible refine wp_istr' ?_) | (with_reducible refine wp_comp0 ?_) | (with_reducible refine wp_inS ?_) | (with_reducible refine wp_notInS ?_) | (with_reducible refine wp_bm ?_) | (with_reducible refine wp_callE ?_) | (with_reducible refine wp_starts ?_) | (with_reducible refine wp_abs ?_) | walk_at "st")
          exact k
theorem sc_law_text : FnScope ["_law_script", "_law_text_here", "_law_way", "_law_load"] ["_law_script", "_law_text_here"] (defScope s_law_text) := ⟨rfl, rfl, rfl, by decide +kernel, rfl, by decide +kernel, by decide +kernel⟩
theorem ok_law_text (F : Fn K mg "_law_text" s_law_text ["_law_script", "_law_text_here"]) (T : Txt K mg e) (F_law_at : FnAll P w K mg base "_law_at" 1 ["_law_script", "_law_k"] (spAt K)) (F_law_sign : FnAll P w K mg base "_law_sign" 1 ["_law_load"] (spSign)) (F_law_spoiled : FnAll P w K mg base "_law_spoiled" 2 ["_law_text_here", "_law_load"] (spSpoil)) : FnAll P w K mg base "_law_text" 3 ["_law_script", "_law_text_here"] (spText K) := by
  refine F.ok (k := 2) sc_law_text (fun vs H Q E h => ?_) (fun f cdv A outer s H vs Q E hr h => ?_)
  · obtain ⟨a, ns, t, rfl, hS, hl, k⟩ := h
    rfl
  · obtain ⟨a, ns, t, rfl, hS, hl, k⟩ := h
    have hu := hu16 hr
    have nd := sc_law_text.nd
    refine ⟨_, (pss_cons (ps_set (i := 2) nd rfl (by first | exact Or.inl rfl | exact Or.inr rfl) (pe_op op_mod (pe_callF F_law_at hr (pa_cons (pv 0) (pa_cons pe_int pa_nil))) pe_int))
      (pss_cons (ps_set (i := 3) nd rfl (by first | exact Or.inl rfl | exact Or.inr rfl) (pe_callF F_law_at hr (pa_cons (pv 0) (pa_cons pe_int pa_nil))))
      (pss_cons (ps_if (pt_cmpR op_lt (pv 2) pe_int (nomark _)) (pss_one (ps_ret (pe_callF F_law_spoiled hr (pa_cons (pv 1) (pa_cons (pv 3) pa_nil))))) pss_nil)
      (pss_cons (ps_if (pt_cmpR op_eq (pv 2) pe_int (nomark _)) (pss_one (ps_ret (pe_bm PySem.F.plainAttrs_str PySem.F.slot_str_join PySem.F.type_str_join mt_join pe_str (pa_cons (pe_comp (compScopeC (caps := [("_law_script", 0)]) rfl rfl (by decide +kernel) (by decide +kernel) rfl (sub1 rfl) rfl (fun k y j h => match k, h with | 0, h => by cases h; exact ⟨rfl, by first | exact Or.inl rfl | exact Or.inr (by first | exact Or.inl rfl | exact Or.inr rfl) | exact Or.inr (Or.inr rfl), by first | exact .inl rfl | exact .inr rfl, by first | exact .inl rfl | exact .inr rfl⟩ | k + 1, h => by cases h) (by decide +kernel)) rfl (pi_range1 rfl T.b_range (pa_cons (pe_op op_mod (pv 3) pe_int) pa_nil)) (fun _ _ _ _ => pif_nil) (fun _ _ _ _ => (pe_callF F_law_sign hr (pa_cons (pe_callF F_law_at hr (pa_cons (pv 1) (pa_cons (pe_op op_add pe_int (pv 0)) pa_nil))) pa_nil)))) pa_nil)))) pss_nil)
      (pss_cons (ps_if (pt_cmpR op_eq (pv 2) pe_int (nomark _)) (pss_one (ps_ret (pe_op op_addS (pe_ix (r := rIxL K) ix_list (pe_lst (pa_cons pe_str (pa_cons pe_str pa_nil))) (pe_op op_mod (pv 3) pe_int) (fun _ _ => rfl)) (pe_bm PySem.F.plainAttrs_str PySem.F.slot_str_join PySem.F.type_str_join mt_join pe_str (pa_cons (pe_comp (compScopeC (caps := [("_law_load", 3)]) rfl rfl (by decide +kernel) (by decide +kernel) rfl (sub1 rfl) rfl (fun k y j h => match k, h with | 0, h => by cases h; exact ⟨rfl, by first | exact Or.inl rfl | exact Or.inr (by first | exact Or.inl rfl | exact Or.inr rfl) | exact Or.inr (Or.inr rfl), by first | exact .inl rfl | exact .inr rfl, by first | exact .inl rfl | exact .inr rfl⟩ | k + 1, h => by cases h) (by decide +kernel)) rfl (pi_range1 rfl T.b_range (pa_cons (pe_op op_add pe_int (pe_op op_mod (pe_op op_fdiv (pv 3) pe_int) pe_int)) pa_nil)) (fun _ _ _ _ => pif_nil) (fun _ _ _ _ => (pe_callTy call_strI (by rfl) T.b_str PyProof.Rows.boot_str (pa_cons (pe_op op_mod (pe_op op_add (pe_op op_fdiv (pv 1) pe_int) (pe_op op_mul (pv 0) (pv 0))) pe_int) pa_nil)))) pa_nil))))) pss_nil)
      (pss_one (ps_ret (pv 1)))))))), ?_⟩
    have est : start ["_law_script", "_law_text_here", "_law_way", "_law_load"] [.ref a, .str t] = [some (.ref a), some (.str t), none, none] := rfl
    rw [est]
    clear est
    have hsz := sizeLine_eq
    have hE := lit_e
    have hMi := lit_mi
    repeat' (first | ((with_reducible refine use_at hS ?h0 ?_); (case h0 => omega); intro _) | (with_reducible refine wp_istr ?_) | (with_reducible refine wp_istr' ?_) | (with_reducible refine wp_comp0 ?_) | (with_reducible refine wp_inS ?_) | (with_reducible refine wp_notInS ?_) | (with_reducible refine wp_bm ?_) | (with_reducible refine wp_callE ?_) | (with_reducible refine wp_starts ?_) | (with_reducible refine wp_abs ?_) | walk_at "st")
    · exact ⟨t, _, rfl, hl, fun x hx => k x _ (Same.refl _) (by omega)⟩
    · refine ⟨rfl, ?_⟩
      repeat' (first | ((with_reducible refine use_at hS ?h0 ?_); (case h0 => omega); intro _) | (with_reducible refine wp_istr ?_) | (with_reducible refine wp_istr' ?_) | (with_reducible refine wp_comp0 ?_) | (with_reducible refine wp_inS ?_) | (with_reducible refine wp_notInS ?_) | (with_reducible refine wp_bm ?_) | (with_reducible refine wp_callE ?_) | (with_reducible refine wp_starts ?_) | (with_reducible refine wp_abs ?_) | walk_at "st")
      refine ⟨[.ref a], rfl, (fun k y j h => ?_), ?_⟩
      · match k, h with
        | 0, h => cases h; exact ⟨_, rfl, rfl⟩
        | k + 1, h => cases h
      repeat' (first | ((with_reducible refine use_at hS ?h0 ?_); (case h0 => omega); intro _) | (with_reducible refine wp_istr ?_) | (with_reducible refine wp_istr' ?_) | (with_reducible refine wp_comp0 ?_) | (with_reducible refine wp_inS ?_) | (with_reducible refine wp_notInS ?_) | (with_reducible refine wp_bm ?_) | (with_reducible refine wp_callE ?_) | (with_reducible refine wp_starts ?_) | (with_reducible refine wp_abs ?_) | walk_at "st")
      rename_i m1 m2 _ _
      have hm0 : 0 ≤ m2 % 6 := by omega
      refine comp_range (n := (m2 % 6).toNat) (by omega) (fun D i acc H' => Same H H' ∧ H' D = some (.lst acc) ∧ ∃ ss : List Str, acc = pV ss ∧ (∀ x ∈ ss, x.length ≤ 2) ∧ ss.length = i) (fun D hD => ⟨Same.upd hD, upd_same, [], rfl, (fun x hx => nomatch hx), rfl⟩)
        (fun D i acc H' hD hi h => ⟨h.2.1, by obtain ⟨_, _, ss, e1, _, e2⟩ := h; rw [e1]; unfold pV; rw [List.length_map]; omega⟩) ?_ ?_
      · intro D i acc H' N hD hi hlt hN hP
        obtain ⟨hs, hd, ss, he, hle, hln⟩ := hP
        have hS2 := hs.seq hS
        show tYes _ _ _
        unfold tYes
        dsimp only
        rw [if_pos rfl]
        repeat' (first | ((with_reducible refine use_at hS2 ?h0 ?_); (case h0 => omega); intro _) | ((with_reducible refine use_sign ?_); intro _ _) | (with_reducible refine wp_istr ?_) | (with_reducible refine wp_istr' ?_) | (with_reducible refine wp_comp0 ?_) | (with_reducible refine wp_inS ?_) | (with_reducible refine wp_notInS ?_) | (with_reducible refine wp_bm ?_) | (with_reducible refine wp_callE ?_) | (with_reducible refine wp_starts ?_) | (with_reducible refine wp_abs ?_) | walk_at "st")
        rename_i yy hyy1
        have hyy : yy.length ≤ 2 := by omega
        refine ⟨hd, hlt, hN _ _ ⟨fun b' o' e' => ?_, upd_same, ss ++ [yy], ?_, ?_, ?_⟩⟩
        · rw [upd_ne (ne_of_none e' hD)]; exact hs b' o' e'
        · rw [he]; unfold pV; rw [List.map_append]; rfl
        · intro x hx
          rcases List.mem_append.mp hx with h | h
          · exact hle x h
          · rw [List.mem_singleton.mp h]; exact hyy
        · rw [List.length_append, hln]; rfl
      · intro D acc H1 hD hP
        repeat' (first | (with_reducible refine wp_istr ?_) | (with_reducible refine wp_istr' ?_) | (with_reducible refine wp_comp0 ?_) | (with_reducible refine wp_inS ?_) | (with_reducible refine wp_notInS ?_) | (with_reducible refine wp_bm ?_) | (with_reducible refine wp_callE ?_) | (with_reducible refine wp_starts ?_) | (with_reducible refine wp_abs ?_) | walk_at "st")
        obtain ⟨s1, h1, ss, he, hle, hln⟩ := hP
        rw [he] at h1
        refine wp_join (ss := ss) (sq_of h1) (joinOk_few (fun s hs => by have := hle s hs; omega) (by omega) (by rw [lit_e]; omega)) ?_
        rw [join_eq]
        have hjl := join_len2 hle
        repeat' (first | (with_reducible refine wp_istr ?_) | (with_reducible refine wp_istr' ?_) | (with_reducible refine wp_comp0 ?_) | (with_reducible refine wp_inS ?_) | (with_reducible refine wp_notInS ?_) | (with_reducible refine wp_bm ?_) | (with_reducible refine wp_callE ?_) | (with_reducible refine wp_starts ?_) | (with_reducible refine wp_abs ?_) | walk_at "st")
        exact k _ _ s1 (by omega)
    · refine wp_lstF (by show 2 ≤ 1000; decide) fun q H0 s0 h0 hq0 => ?_
      repeat' (first | ((with_reducible refine use_at hS ?h0 ?_); (case h0 => omega); intro _) | (with_reducible refine wp_istr ?_) | (with_reducible refine wp_istr' ?_) | (with_reducible refine wp_comp0 ?_) | (with_reducible refine wp_inS ?_) | (with_reducible refine wp_notInS ?_) | (with_reducible refine wp_bm ?_) | (with_reducible refine wp_callE ?_) | (with_reducible refine wp_starts ?_) | (with_reducible refine wp_abs ?_) | walk_at "st")
      rename_i m1 m2 _ _ _
      refine wp_ixAny (sq_of h0) (by omega) (by show m2 % 2 < 2; omega) fun v hv => ?_
      obtain ⟨sg, rfl, hsg⟩ : ∃ sg : Str, v = .str sg ∧ sg.length ≤ 1 := by
        simp only [List.mem_cons, List.not_mem_nil, or_false] at hv
        rcases hv with rfl | rfl
        · exact ⟨_, rfl, by rw [lit_e]; omega⟩
        · exact ⟨_, rfl, by rw [lit_mi]; omega⟩
      repeat' (first | (with_reducible refine wp_istr ?_) | (with_reducible refine wp_istr' ?_) | (with_reducible refine wp_comp0 ?_) | (with_reducible refine wp_inS ?_) | (with_reducible refine wp_notInS ?_) | (with_reducible refine wp_bm ?_) | (with_reducible refine wp_callE ?_) | (with_reducible refine wp_starts ?_) | (with_reducible refine wp_abs ?_) | walk_at "st")
      refine ⟨rfl, ?_⟩
      repeat' (first | (with_reducible refine wp_istr ?_) | (with_reducible refine wp_istr' ?_) | (with_reducible refine wp_comp0 ?_) | (with_reducible refine wp_inS ?_) | (with_reducible refine wp_notInS ?_) | (with_reducible refine wp_bm ?_) | (with_reducible refine wp_callE ?_) | (with_reducible refine wp_starts ?_) | (with_reducible refine wp_abs ?_) | walk_at "st")
      refine ⟨[.int m2], rfl, (fun k y j h => ?_), ?_⟩
      · match k, h with
        | 0, h => cases h; exact ⟨_, rfl, rfl⟩
        | k + 1, h => cases h
      repeat' (first | (with_reducible refine wp_istr ?_) | (with_reducible refine wp_istr' ?_) | (with_reducible refine wp_comp0 ?_) | (with_reducible refine wp_inS ?_) | (with_reducible refine wp_notInS ?_) | (with_reducible refine wp_bm ?_) | (with_reducible refine wp_callE ?_) | (with_reducible refine wp_starts ?_) | (with_reducible refine wp_abs ?_) | walk_at "st")
      refine comp_range (n := (1 + m2 / 2 % 61).toNat) (by omega) (fun D i acc H' => Same H0 H' ∧ H' D = some (.lst acc) ∧ ∃ ss : List Str, acc = pV ss ∧ (∀ x ∈ ss, x.length ≤ 2) ∧ ss.length = i) (fun D hD => ⟨Same.upd hD, upd_same, [], rfl, (fun x hx => nomatch hx), rfl⟩)
        (fun D i acc H' hD hi h => ⟨h.2.1, by obtain ⟨_, _, ss, e1, _, e2⟩ := h; rw [e1]; unfold pV; rw [List.length_map]; omega⟩) ?_ ?_
      · intro D i acc H' N hD hi hlt hN hP
        obtain ⟨hs, hd, ss, he, hle, hln⟩ := hP
        have hi61 : i < 61 := by omega
        show tYes _ _ _
        unfold tYes
        dsimp only
        rw [if_pos rfl]
        repeat' (first | (with_reducible refine wp_istr ?_) | (with_reducible refine wp_istr' ?_) | (with_reducible refine wp_comp0 ?_) | (with_reducible refine wp_inS ?_) | (with_reducible refine wp_notInS ?_) | (with_reducible refine wp_bm ?_) | (with_reducible refine wp_callE ?_) | (with_reducible refine wp_starts ?_) | (with_reducible refine wp_abs ?_) | walk_at "st")
        have hvv : ((m2 / 61 + (0 + (i : Int)) * (0 + (i : Int))) % 10).natAbs < 10 := by omega
        have hv0 : 0 ≤ (m2 / 61 + (0 + (i : Int)) * (0 + (i : Int))) % 10 := by omega
        generalize (m2 / 61 + (0 + (i : Int)) * (0 + (i : Int))) % 10 = vv at *
        have hv60 : vv.natAbs < 10 ^ 60 := Nat.lt_of_lt_of_le hvv (by decide +kernel)
        refine wp_strI (log2_lt (n60_100 hv60)) ?_
        have hyy : (shI vv).length ≤ 2 := by
          have h7 : vv.natAbs < 10 ^ 1 := hvv
          have h8 := natlt (by decide) h7
          show (shI vv).cps.size ≤ 2
          rw [← Array.length_toList, shI_pos (by omega)]
          omega
        generalize shI vv = yy at *
        repeat' (first | (with_reducible refine wp_istr ?_) | (with_reducible refine wp_istr' ?_) | (with_reducible refine wp_comp0 ?_) | (with_reducible refine wp_inS ?_) | (with_reducible refine wp_notInS ?_) | (with_reducible refine wp_bm ?_) | (with_reducible refine wp_callE ?_) | (with_reducible refine wp_starts ?_) | (with_reducible refine wp_abs ?_) | walk_at "st")
        refine ⟨hd, hlt, hN _ _ ⟨fun b' o' e' => ?_, upd_same, ss ++ [yy], ?_, ?_, ?_⟩⟩
        · rw [upd_ne (ne_of_none e' hD)]; exact hs b' o' e'
        · rw [he]; unfold pV; rw [List.map_append]; rfl
        · intro x hx
          rcases List.mem_append.mp hx with h | h
          · exact hle x h
          · rw [List.mem_singleton.mp h]; exact hyy
        · rw [List.length_append, hln]; rfl
      · intro D acc H1 hD hP
        repeat' (first | (with_reducible refine wp_istr ?_) | (with_reducible refine wp_istr' ?_) | (with_reducible refine wp_comp0 ?_) | (with_reducible refine wp_inS ?_) | (with_reducible refine wp_notInS ?_) | (with_reducible refine wp_bm ?_) | (with_reducible refine wp_callE ?_) | (with_reducible refine wp_starts ?_) | (with_reducible refine wp_abs ?_) | walk_at "st")
        obtain ⟨s1, h1, ss, he, hle, hln⟩ := hP
        rw [he] at h1
        refine wp_join (ss := ss) (sq_of h1) (joinOk_few (fun s hs => by have := hle s hs; omega) (by omega) (by rw [lit_e]; omega)) ?_
        rw [join_eq]
        have hjl := join_len2 hle
        have hadd : sg.length + (Str.join (Str.ofString "") ss).length ≤ sizeLine := by omega
        repeat' (first | (with_reducible refine wp_addS hadd ?_) | (with_reducible refine wp_istr ?_) | (with_reducible refine wp_istr' ?_) | (with_reducible refine wp_comp0 ?_) | (with_reducible refine wp_inS ?_) | (with_reducible refine wp_notInS ?_) | (with_reducible refine wp_bm ?_) | (with_reducible refine wp_callE ?_) | (with_reducible refine wp_starts ?_) | (with_reducible refine wp_abs ?_) | walk_at "st")
        exact k _ _ (s0.trans s1) (by rw [str_app_len]; omega)
    · exact k _ _ (Same.refl _) (by omega)
theorem sc_law_refused : FnScope ["_law_text_here", "e", "_law_some"] ["_law_text_here"] (defScope s_law_refused) := ⟨rfl, rfl, rfl, by decide +kernel, rfl, by decide +kernel, by decide +kernel⟩
theorem ok_law_refused (F : Fn K mg "_law_refused" s_law_refused ["_law_text_here"]) (T : Txt K mg e) (Fread_number : FnAllE P w K mg base "read_number" 3 ["text"] (spRead e)) (F_law_is : FnAllH P w K mg base "_law_is" 1 ["_law_found", "_law_due_here"] spIs) : FnAll P w K mg base "_law_refused" 4 ["_law_text_here"] (spRef) := by
  refine F.ok (k := 3) sc_law_refused (fun vs H Q E h => ?_) (fun f cdv A outer s H vs Q E hr h => ?_)
  · obtain ⟨t, rfl, hl, hd, k⟩ := h
    rfl
  · obtain ⟨t, rfl, hl, hd, k⟩ := h
    have hu := hu16 hr
    have nd := sc_law_refused.nd
    have hrh : ∀ q : Addr, RoomH 3 ((A.deeper (envOfC "_law_refused" (defScope s_law_refused) s.heap.objs.size f cdv)).mark (some (.ref q))) := fun q => hr.hand
    refine ⟨_, (pss_cons (ps_try (i := 1) T.mBoughError nd rfl rfl (fun _ _ _ hx => (pss_one (ps_expr (pe_callE Fread_number hr hx (pa_cons (pv 0) pa_nil))))) (fun q => (pss_cons (ps_set (i := 2) nd rfl (Or.inl rfl) (pe_callB (r := rIsiET K) call_isinstET (by rfl) T.b_isinstance boot_isinstance (pa_cons (pv 1) (pa_cons (pe_tup (pa_cons (pe_glob (v := .ref e.xClash) rfl T.mClash rfl) (pa_cons (pe_glob (v := .ref e.xEmpty) rfl T.mEmpty rfl) (pa_cons (pe_glob (v := .ref e.xHangs) rfl T.mHangs rfl) (pa_cons (pe_glob (v := .ref e.xNoDeed) rfl T.mNoDeed rfl) (pa_cons (pe_glob (v := .ref e.xNoRoom) rfl T.mNoRoom rfl) (pa_cons (pe_glob (v := .ref e.xNoStand) rfl T.mNoStand rfl) (pa_cons (pe_glob (v := .ref e.xNoWord) rfl T.mNoWord rfl) (pa_cons (pe_glob (v := .ref e.xTwice) rfl T.mTwice rfl) (pa_cons (pe_glob (v := .ref e.xUnfit) rfl T.mUnfit rfl) pa_nil)))))))))) pa_nil))))
      (pss_one (ps_ret (pe_and (pe_callB (r := rIsiE K) call_isinstE (by rfl) T.b_isinstance boot_isinstance (pa_cons (pv 1) (pa_cons (pe_glob (v := .ref e.xNoText) rfl T.mNoText rfl) pa_nil))) (pe_and (pe_callB (r := rIsiE K) call_isinstE (by rfl) T.b_isinstance boot_isinstance (pa_cons (pv 1) (pa_cons (pe_bltn (v := .ty "ValueError") rfl T.b_ValueError (by decide +kernel) rfl) pa_nil))) (pe_and (pe_not (pv 2)) (pe_one (pe_callH F_law_is (hrh q) (pa_cons (pe_excAtK (K := K) (pv 1)) (pa_cons pe_int pa_nil))))))))))))
      (pss_one (ps_ret pe_bl))), ?_⟩
    have est : start ["_law_text_here", "e", "_law_some"] [.str t] = [some (.str t), none, none] := rfl
    rw [est]
    clear est
    repeat' (first | (with_reducible refine wp_istr ?_) | (with_reducible refine wp_istr' ?_) | (with_reducible refine wp_comp0 ?_) | (with_reducible refine wp_inS ?_) | (with_reducible refine wp_notInS ?_) | (with_reducible refine wp_bm ?_) | (with_reducible refine wp_callE ?_) | (with_reducible refine wp_starts ?_) | (with_reducible refine wp_abs ?_) | walk_at "st")
    refine wp_try' fun HE hE => ?_
    have hN : ∀ dx H', Same H H' → H dx = none → H' dx = some (.xd [("at", .int 0)]) → HE (.ref e.xNoText) (some dx) H' := by
      intro dx H1 s1 hdx h1
      rw [hE]
      refine ⟨e.xNoText, rfl, T.exm, fun q hq => ?_⟩
      have s2 : Same H1 (upd H1 q (excHO q e.xNoText (some dx))) := Same.upd hq
      have h2 : upd H1 q (excHO q e.xNoText (some dx)) q = some (excHO q e.xNoText (some dx)) := upd_same
      have h2d := s2 _ _ h1
      generalize upd H1 q (excHO q e.xNoText (some dx)) = H2 at *
      repeat' (first | (with_reducible refine wp_istr ?_) | (with_reducible refine wp_istr' ?_) | (with_reducible refine wp_comp0 ?_) | (with_reducible refine wp_inS ?_) | (with_reducible refine wp_notInS ?_) | (with_reducible refine wp_bm ?_) | (with_reducible refine wp_callE ?_) | (with_reducible refine wp_starts ?_) | (with_reducible refine wp_abs ?_) | walk_at "st")
      refine ⟨by rw [sizeLine_eq]; show 9 ≤ _; omega, fun tp htp => ?_⟩
      have s3 : Same H2 (upd H2 tp (.tup [.ref e.xClash, .ref e.xEmpty, .ref e.xHangs, .ref e.xNoDeed, .ref e.xNoRoom, .ref e.xNoStand, .ref e.xNoWord, .ref e.xTwice, .ref e.xUnfit])) := Same.upd htp
      have h3t : upd H2 tp (HO.tup [.ref e.xClash, .ref e.xEmpty, .ref e.xHangs, .ref e.xNoDeed, .ref e.xNoRoom, .ref e.xNoStand, .ref e.xNoWord, .ref e.xTwice, .ref e.xUnfit]) tp = some (.tup [.ref e.xClash, .ref e.xEmpty, .ref e.xHangs, .ref e.xNoDeed, .ref e.xNoRoom, .ref e.xNoStand, .ref e.xNoWord, .ref e.xTwice, .ref e.xUnfit]) := upd_same
      generalize upd H2 tp (HO.tup [.ref e.xClash, .ref e.xEmpty, .ref e.xHangs, .ref e.xNoDeed, .ref e.xNoRoom, .ref e.xNoStand, .ref e.xNoWord, .ref e.xTwice, .ref e.xUnfit]) = H3 at *
      have h3 := s3 _ _ h2
      have h3d := s3 _ _ h2d
      repeat' (first | (with_reducible refine wp_istr ?_) | (with_reducible refine wp_istr' ?_) | (with_reducible refine wp_comp0 ?_) | (with_reducible refine wp_inS ?_) | (with_reducible refine wp_notInS ?_) | (with_reducible refine wp_bm ?_) | (with_reducible refine wp_callE ?_) | (with_reducible refine wp_starts ?_) | (with_reducible refine wp_abs ?_) | walk_at "st")
      refine wp_isiET (Ds := [e.xClash, e.xEmpty, e.xHangs, e.xNoDeed, e.xNoRoom, e.xNoStand, e.xNoWord, e.xTwice, e.xUnfit]) h3 T.xf h3t T.ka ?_
      repeat' (first | (with_reducible refine wp_istr ?_) | (with_reducible refine wp_istr' ?_) | (with_reducible refine wp_comp0 ?_) | (with_reducible refine wp_inS ?_) | (with_reducible refine wp_notInS ?_) | (with_reducible refine wp_bm ?_) | (with_reducible refine wp_callE ?_) | (with_reducible refine wp_starts ?_) | (with_reducible refine wp_abs ?_) | walk_at "st")
      refine ⟨q, e.xNoText, some dx, _, _, true, rfl, h3, T.xf, rfl, T.kn, ?_⟩
      repeat' (first | (with_reducible refine wp_istr ?_) | (with_reducible refine wp_istr' ?_) | (with_reducible refine wp_comp0 ?_) | (with_reducible refine wp_inS ?_) | (with_reducible refine wp_notInS ?_) | (with_reducible refine wp_bm ?_) | (with_reducible refine wp_callE ?_) | (with_reducible refine wp_starts ?_) | (with_reducible refine wp_abs ?_) | walk_at "st")
      refine ⟨q, e.xNoText, some dx, _, _, true, rfl, h3, T.xf, rfl, T.kv, ?_⟩
      repeat' (first | ((with_reducible refine wp_excAt ?_)) | (with_reducible refine wp_istr ?_) | (with_reducible refine wp_istr' ?_) | (with_reducible refine wp_comp0 ?_) | (with_reducible refine wp_inS ?_) | (with_reducible refine wp_notInS ?_) | (with_reducible refine wp_bm ?_) | (with_reducible refine wp_callE ?_) | (with_reducible refine wp_starts ?_) | (with_reducible refine wp_abs ?_) | walk_at "st")
      refine ⟨q, e.xNoText, dx, _, 0, rfl, h3, h3d, rfl, T.xf, T.xs, ?_⟩
      repeat' (first | ((with_reducible refine wp_excAt ?_)) | ((with_reducible refine wp_isiII ?hk ?_); (case hk => rfl)) | ((with_reducible refine wp_isiIB ?hk ?_); (case hk => rfl)) | (with_reducible refine wp_istr ?_) | (with_reducible refine wp_istr' ?_) | (with_reducible refine wp_comp0 ?_) | (with_reducible refine wp_inS ?_) | (with_reducible refine wp_notInS ?_) | (with_reducible refine wp_bm ?_) | (with_reducible refine wp_callE ?_) | (with_reducible refine wp_starts ?_) | (with_reducible refine wp_abs ?_) | walk_at "st")
      refine ⟨0, 0, rfl, ?_⟩
      repeat' (first | (with_reducible refine wp_istr ?_) | (with_reducible refine wp_istr' ?_) | (with_reducible refine wp_comp0 ?_) | (with_reducible refine wp_inS ?_) | (with_reducible refine wp_notInS ?_) | (with_reducible refine wp_bm ?_) | (with_reducible refine wp_callE ?_) | (with_reducible refine wp_starts ?_) | (with_reducible refine wp_abs ?_) | walk_at "st")
      exact k _ ((s1.trans s2).trans s3)
    clear hE
    repeat' (first | (with_reducible refine wp_istr ?_) | (with_reducible refine wp_istr' ?_) | (with_reducible refine wp_comp0 ?_) | (with_reducible refine wp_inS ?_) | (with_reducible refine wp_notInS ?_) | (with_reducible refine wp_bm ?_) | (with_reducible refine wp_callE ?_) | (with_reducible refine wp_starts ?_) | (with_reducible refine wp_abs ?_) | walk_at "st")
    exact ⟨t, rfl, hl, fun _ => hN, fun p hp => by rw [hd] at hp; cases hp⟩
theorem sclaw : FnScope ["_law_script", "_law_number_here", "_law_text_here", "_law_other", "_law_due_here"] ["_law_script"] (defScope slaw) := ⟨rfl, rfl, rfl, by decide +kernel, rfl, by decide +kernel, by decide +kernel⟩
theorem oklaw {f : Addr} {fd : FuncData} (F : Fun K "law" "law" slaw f fd) (T : Txt K mg e) (F_law_at : FnAll P w K mg base "_law_at" 1 ["_law_script", "_law_k"] (spAt K)) (F_law_is : FnAll P w K mg base "_law_is" 1 ["_law_found", "_law_due_here"] (spIs)) (F_law_number : FnAll P w K mg base "_law_number" 1 ["_law_load"] (spNum)) (F_law_figures : FnAll P w K mg base "_law_figures" 1 ["_law_number_here"] (spFigs)) (F_law_text : FnAll P w K mg base "_law_text" 3 ["_law_script", "_law_text_here"] (spText K)) (F_law_due : FnAll P w K mg base "_law_due" 1 ["_law_text_here"] (spDue)) (F_law_refused : FnAll P w K mg base "_law_refused" 4 ["_law_text_here"] (spRef)) (Fshow_number : FnAll P w K mg base "show_number" 1 ["number"] (spShow)) (Fread_number : FnAllE P w K mg base "read_number" 3 ["text"] (spRead e)) : FnOk P w K mg base CX0 5 f fd ["_law_script"] (spLaw K) := by
  refine F.ok (k := 4) sclaw (fun vs H Q E h => ?_) (fun cdv A outer s H vs Q E hr h => ?_)
  · obtain ⟨a, ns, rfl, _⟩ := h
    rfl
  · obtain ⟨a, ns, rfl, hS, hlen, k⟩ := h
    have hu := hu16 hr
    have nd := sclaw.nd
    refine ⟨_, (pss_cons (ps_set (i := 1) nd rfl (Or.inl rfl) (pe_callF F_law_number hr (pa_cons (pe_callF F_law_at hr (pa_cons (pv 0) (pa_cons pe_int pa_nil))) pa_nil)))
      (pss_cons (ps_set (i := 2) nd rfl (Or.inl rfl) (pe_callF Fshow_number hr (pa_cons (pv 1) pa_nil)))
      (pss_cons (ps_if (PW.pt (pw_or (pt_not (pt_val (pe_callB (r := rIsi K) call_isinst (by rfl) T.b_isinstance boot_isinstance (pa_cons (pv 2) (pa_cons (pe_bltn (v := .ty "str") rfl T.b_str boot_str rfl) pa_nil))))) (pw_or (pt_cmpR op_ne (pv 2) (pe_callF F_law_figures hr (pa_cons (pv 1) pa_nil)) (nomark _)) (pw_or1 (pt_not (pt_val (pe_callF F_law_is hr (pa_cons (pe_callE Fread_number hr passN (pa_cons (pv 2) pa_nil)) (pa_cons (pv 1) pa_nil))))))))) (pss_one (ps_ret pe_bl)) pss_nil)
      (pss_cons (ps_set (i := 3) nd rfl (Or.inl rfl) (pe_callF F_law_text hr (pa_cons (pv 0) (pa_cons (pv 2) pa_nil))))
      (pss_cons (ps_set (i := 4) nd rfl (Or.inl rfl) (pe_callF F_law_due hr (pa_cons (pv 3) pa_nil)))
      (pss_cons (ps_if (pt_cmpR op_isN' (pv 4) pe_non (nomark _)) (pss_one (ps_ret (pe_callF F_law_refused hr (pa_cons (pv 3) pa_nil)))) pss_nil)
      (pss_one (ps_ret (pe_callF F_law_is hr (pa_cons (pe_callE Fread_number hr passN (pa_cons (pv 3) pa_nil)) (pa_cons (pv 4) pa_nil))))))))))), ?_⟩
    have est : start ["_law_script", "_law_number_here", "_law_text_here", "_law_other", "_law_due_here"] [.ref a] = [some (.ref a), none, none, none, none] := rfl
    rw [est]
    clear est
    repeat' (first | (with_reducible refine wp_istr ?_) | (with_reducible refine wp_istr' ?_) | (with_reducible refine wp_comp0 ?_) | (with_reducible refine wp_inS ?_) | (with_reducible refine wp_notInS ?_) | (with_reducible refine wp_bm ?_) | (with_reducible refine wp_callE ?_) | (with_reducible refine wp_starts ?_) | (with_reducible refine wp_abs ?_) | walk_at "st")
    refine ⟨a, ns, _, rfl, by decide, hS, fun m1 => ?_⟩
    repeat' (first | (with_reducible refine wp_istr ?_) | (with_reducible refine wp_istr' ?_) | (with_reducible refine wp_comp0 ?_) | (with_reducible refine wp_inS ?_) | (with_reducible refine wp_notInS ?_) | (with_reducible refine wp_bm ?_) | (with_reducible refine wp_callE ?_) | (with_reducible refine wp_starts ?_) | (with_reducible refine wp_abs ?_) | walk_at "st")
    refine ⟨_, rfl, fun n hn => ?_⟩
    repeat' (first | (with_reducible refine wp_istr ?_) | (with_reducible refine wp_istr' ?_) | (with_reducible refine wp_comp0 ?_) | (with_reducible refine wp_inS ?_) | (with_reducible refine wp_notInS ?_) | (with_reducible refine wp_bm ?_) | (with_reducible refine wp_callE ?_) | (with_reducible refine wp_starts ?_) | (with_reducible refine wp_abs ?_) | walk_at "st")
    refine ⟨n, rfl, n60_100 hn, ?_⟩
    have hsl := shI_len hn
    have hdue := due_shI hn
    repeat' (first | (with_reducible refine wp_istr ?_) | (with_reducible refine wp_istr' ?_) | (with_reducible refine wp_comp0 ?_) | (with_reducible refine wp_inS ?_) | (with_reducible refine wp_notInS ?_) | (with_reducible refine wp_bm ?_) | (with_reducible refine wp_callE ?_) | (with_reducible refine wp_starts ?_) | (with_reducible refine wp_abs ?_) | walk_at "st")
    refine ⟨n, rfl, hn, fun H1 s1 => ?_⟩
    repeat' (first | (with_reducible refine wp_istr ?_) | (with_reducible refine wp_istr' ?_) | (with_reducible refine wp_comp0 ?_) | (with_reducible refine wp_inS ?_) | (with_reducible refine wp_notInS ?_) | (with_reducible refine wp_bm ?_) | (with_reducible refine wp_callE ?_) | (with_reducible refine wp_starts ?_) | (with_reducible refine wp_abs ?_) | walk_at "st")
    refine ⟨shI n, rfl, by omega, (fun h => by rw [hdue] at h; cases h), fun n2 hn2 H2 s2 => ?_⟩
    rw [hdue] at hn2
    cases hn2
    repeat' (first | (with_reducible refine wp_istr ?_) | (with_reducible refine wp_istr' ?_) | (with_reducible refine wp_comp0 ?_) | (with_reducible refine wp_inS ?_) | (with_reducible refine wp_notInS ?_) | (with_reducible refine wp_bm ?_) | (with_reducible refine wp_callE ?_) | (with_reducible refine wp_starts ?_) | (with_reducible refine wp_abs ?_) | walk_at "st")
    refine ⟨n, n, rfl, ?_⟩
    have s02 := s1.trans s2
    repeat' (first | (with_reducible refine wp_istr ?_) | (with_reducible refine wp_istr' ?_) | (with_reducible refine wp_comp0 ?_) | (with_reducible refine wp_inS ?_) | (with_reducible refine wp_notInS ?_) | (with_reducible refine wp_bm ?_) | (with_reducible refine wp_callE ?_) | (with_reducible refine wp_starts ?_) | (with_reducible refine wp_abs ?_) | walk_at "st")
    refine ⟨a, ns, shI n, rfl, s02.seq hS, by omega, fun x H3 s3 hx => ?_⟩
    repeat' (first | (with_reducible refine wp_istr ?_) | (with_reducible refine wp_istr' ?_) | (with_reducible refine wp_comp0 ?_) | (with_reducible refine wp_inS ?_) | (with_reducible refine wp_notInS ?_) | (with_reducible refine wp_bm ?_) | (with_reducible refine wp_callE ?_) | (with_reducible refine wp_starts ?_) | (with_reducible refine wp_abs ?_) | walk_at "st")
    refine ⟨x, rfl, hx, ?_⟩
    cases hd : dueN x with
    | none =>
      have e1 : dueV x = .non := by unfold dueV; rw [hd]
      rw [e1]
      repeat' (first | (with_reducible refine wp_isNn ?_) | (with_reducible refine wp_istr ?_) | (with_reducible refine wp_istr' ?_) | (with_reducible refine wp_comp0 ?_) | (with_reducible refine wp_inS ?_) | (with_reducible refine wp_notInS ?_) | (with_reducible refine wp_bm ?_) | (with_reducible refine wp_callE ?_) | (with_reducible refine wp_starts ?_) | (with_reducible refine wp_abs ?_) | walk_at "st")
      exact ⟨x, rfl, hx, hd, fun H4 s4 => k _⟩
    | some n3 =>
      have e1 : dueV x = .int n3 := by unfold dueV; rw [hd]
      rw [e1]
      repeat' (first | (with_reducible refine wp_isNi ?_) | (with_reducible refine wp_istr ?_) | (with_reducible refine wp_istr' ?_) | (with_reducible refine wp_comp0 ?_) | (with_reducible refine wp_inS ?_) | (with_reducible refine wp_notInS ?_) | (with_reducible refine wp_bm ?_) | (with_reducible refine wp_callE ?_) | (with_reducible refine wp_starts ?_) | (with_reducible refine wp_abs ?_) | walk_at "st")
      refine ⟨x, rfl, hx, (fun h => by rw [hd] at h; cases h), fun n4 hn4 H4 s4 => ?_⟩
      rw [hd] at hn4
      cases hn4
      repeat' (first | (with_reducible refine wp_istr ?_) | (with_reducible refine wp_istr' ?_) | (with_reducible refine wp_comp0 ?_) | (with_reducible refine wp_inS ?_) | (with_reducible refine wp_notInS ?_) | (with_reducible refine wp_bm ?_) | (with_reducible refine wp_callE ?_) | (with_reducible refine wp_starts ?_) | (with_reducible refine wp_abs ?_) | walk_at "st")
      refine ⟨n3, n3, rfl, ?_⟩
      rw [decide_eq_true rfl]
      exact k _
end
theorem all_mk {l : PySem.W.OpenLaw} {w : World} {K : PySem.W.Frag} {h : Heap} {mg : Str → Option Value} {fa f0 f1 f2 f3 f4 f5 f6 f7 f8 f9 f10 f11 f_I CBoughError CUnfit CNoText CClash CHangs CNoStand CNoDeed CEmpty CNoWord CTwice CNoRoom : Addr} (X : K.In h) (G : h.Ns mainGlobals mg) (hfa : mg "law" = some (.ref fa))
    {od0 an0 od1 an1 od2 an2 od3 an3 od4 an4 od5 an5 od6 an6 od7 an7 od8 an8 od9 an9 od10 an10 od11 an11 od_I an_I : Option Addr} {sl0 sl1 sl2 sl3 sl4 sl5 sl6 sl7 sl8 sl9 sl10 sl11 sl_I : Array (Option Value)} {oc0 kV0 dc0 pm0 cd0 ct0 oc1 kV1 dc1 pm1 cd1 ct1 oc2 kV2 dc2 pm2 cd2 ct2 oc3 kV3 dc3 pm3 cd3 ct3 oc4 kV4 dc4 pm4 cd4 ct4 oc5 kV5 dc5 pm5 cd5 ct5 oc6 kV6 dc6 pm6 cd6 ct6 oc7 kV7 dc7 pm7 cd7 ct7 oc8 kV8 dc8 pm8 cd8 ct8 oc9 kV9 dc9 pm9 cd9 ct9 oc10 kV10 dc10 pm10 cd10 ct10 oc11 kV11 dc11 pm11 cd11 ct11 oc_I kV_I dc_I pm_I cd_I ct_I : Value} {cxN : ClassData} {t_FIGURES t_MOST_FIGURES : Tok}
    (aCBoughError : PySem.W.nsIn K mainGlobals "BoughError" = some (some (.ref CBoughError)))
    (aCUnfit : PySem.W.nsIn K mainGlobals "Unfit" = some (some (.ref CUnfit)))
    (aCNoText : PySem.W.nsIn K mainGlobals "NoText" = some (some (.ref CNoText)))
    (aCClash : PySem.W.nsIn K mainGlobals "Clash" = some (some (.ref CClash)))
    (aCHangs : PySem.W.nsIn K mainGlobals "Hangs" = some (some (.ref CHangs)))
    (aCNoStand : PySem.W.nsIn K mainGlobals "NoStand" = some (some (.ref CNoStand)))
    (aCNoDeed : PySem.W.nsIn K mainGlobals "NoDeed" = some (some (.ref CNoDeed)))
    (aCEmpty : PySem.W.nsIn K mainGlobals "Empty" = some (some (.ref CEmpty)))
    (aCNoWord : PySem.W.nsIn K mainGlobals "NoWord" = some (some (.ref CNoWord)))
    (aCTwice : PySem.W.nsIn K mainGlobals "Twice" = some (some (.ref CTwice)))
    (aCNoRoom : PySem.W.nsIn K mainGlobals "NoRoom" = some (some (.ref CNoRoom)))
    (a0 : PySem.W.nsIn K mainGlobals "show_number" = some (some (.ref f0)))
    (l0 : K.lookup f0 = some ⟨oc0, od0, .func (PySem.W.fnOf "show_number" "show_number" (defArgs sshow_number) (defBody sshow_number) (defScope sshow_number) .none kV0 dc0 pm0 an0 cd0 ct0), sl0⟩)
    (c0 : PySem.W.codeIn K cd0 "show_number" = true)
    (k0 : PySem.W.keepIn K (.ref f0) = true)
    (a1 : PySem.W.nsIn K mainGlobals "read_number" = some (some (.ref f1)))
    (l1 : K.lookup f1 = some ⟨oc1, od1, .func (PySem.W.fnOf "read_number" "read_number" (defArgs sread_number) (defBody sread_number) (defScope sread_number) .none kV1 dc1 pm1 an1 cd1 ct1), sl1⟩)
    (c1 : PySem.W.codeIn K cd1 "read_number" = true)
    (k1 : PySem.W.keepIn K (.ref f1) = true)
    (a2 : PySem.W.nsIn K mainGlobals "_law_at" = some (some (.ref f2)))
    (l2 : K.lookup f2 = some ⟨oc2, od2, .func (PySem.W.fnOf "_law_at" "_law_at" (defArgs s_law_at) (defBody s_law_at) (defScope s_law_at) .none kV2 dc2 pm2 an2 cd2 ct2), sl2⟩)
    (c2 : PySem.W.codeIn K cd2 "_law_at" = true)
    (k2 : PySem.W.keepIn K (.ref f2) = true)
    (a3 : PySem.W.nsIn K mainGlobals "_law_is" = some (some (.ref f3)))
    (l3 : K.lookup f3 = some ⟨oc3, od3, .func (PySem.W.fnOf "_law_is" "_law_is" (defArgs s_law_is) (defBody s_law_is) (defScope s_law_is) .none kV3 dc3 pm3 an3 cd3 ct3), sl3⟩)
    (c3 : PySem.W.codeIn K cd3 "_law_is" = true)
    (k3 : PySem.W.keepIn K (.ref f3) = true)
    (a4 : PySem.W.nsIn K mainGlobals "_law_number" = some (some (.ref f4)))
    (l4 : K.lookup f4 = some ⟨oc4, od4, .func (PySem.W.fnOf "_law_number" "_law_number" (defArgs s_law_number) (defBody s_law_number) (defScope s_law_number) .none kV4 dc4 pm4 an4 cd4 ct4), sl4⟩)
    (c4 : PySem.W.codeIn K cd4 "_law_number" = true)
    (k4 : PySem.W.keepIn K (.ref f4) = true)
    (a5 : PySem.W.nsIn K mainGlobals "_law_figures" = some (some (.ref f5)))
    (l5 : K.lookup f5 = some ⟨oc5, od5, .func (PySem.W.fnOf "_law_figures" "_law_figures" (defArgs s_law_figures) (defBody s_law_figures) (defScope s_law_figures) .none kV5 dc5 pm5 an5 cd5 ct5), sl5⟩)
    (c5 : PySem.W.codeIn K cd5 "_law_figures" = true)
    (k5 : PySem.W.keepIn K (.ref f5) = true)
    (a6 : PySem.W.nsIn K mainGlobals "_law_sign" = some (some (.ref f6)))
    (l6 : K.lookup f6 = some ⟨oc6, od6, .func (PySem.W.fnOf "_law_sign" "_law_sign" (defArgs s_law_sign) (defBody s_law_sign) (defScope s_law_sign) .none kV6 dc6 pm6 an6 cd6 ct6), sl6⟩)
    (c6 : PySem.W.codeIn K cd6 "_law_sign" = true)
    (k6 : PySem.W.keepIn K (.ref f6) = true)
    (a7 : PySem.W.nsIn K mainGlobals "_law_spoiled" = some (some (.ref f7)))
    (l7 : K.lookup f7 = some ⟨oc7, od7, .func (PySem.W.fnOf "_law_spoiled" "_law_spoiled" (defArgs s_law_spoiled) (defBody s_law_spoiled) (defScope s_law_spoiled) .none kV7 dc7 pm7 an7 cd7 ct7), sl7⟩)
    (c7 : PySem.W.codeIn K cd7 "_law_spoiled" = true)
    (k7 : PySem.W.keepIn K (.ref f7) = true)
    (a8 : PySem.W.nsIn K mainGlobals "_law_text" = some (some (.ref f8)))
    (l8 : K.lookup f8 = some ⟨oc8, od8, .func (PySem.W.fnOf "_law_text" "_law_text" (defArgs s_law_text) (defBody s_law_text) (defScope s_law_text) .none kV8 dc8 pm8 an8 cd8 ct8), sl8⟩)
    (c8 : PySem.W.codeIn K cd8 "_law_text" = true)
    (k8 : PySem.W.keepIn K (.ref f8) = true)
    (a9 : PySem.W.nsIn K mainGlobals "_law_due" = some (some (.ref f9)))
    (l9 : K.lookup f9 = some ⟨oc9, od9, .func (PySem.W.fnOf "_law_due" "_law_due" (defArgs s_law_due) (defBody s_law_due) (defScope s_law_due) .none kV9 dc9 pm9 an9 cd9 ct9), sl9⟩)
    (c9 : PySem.W.codeIn K cd9 "_law_due" = true)
    (k9 : PySem.W.keepIn K (.ref f9) = true)
    (a10 : PySem.W.nsIn K mainGlobals "_law_refused" = some (some (.ref f10)))
    (l10 : K.lookup f10 = some ⟨oc10, od10, .func (PySem.W.fnOf "_law_refused" "_law_refused" (defArgs s_law_refused) (defBody s_law_refused) (defScope s_law_refused) .none kV10 dc10 pm10 an10 cd10 ct10), sl10⟩)
    (c10 : PySem.W.codeIn K cd10 "_law_refused" = true)
    (k10 : PySem.W.keepIn K (.ref f10) = true)
    (a11 : PySem.W.nsIn K mainGlobals "law" = some (some (.ref f11)))
    (l11 : K.lookup f11 = some ⟨oc11, od11, .func (PySem.W.fnOf "law" "law" (defArgs slaw) (defBody slaw) (defScope slaw) .none kV11 dc11 pm11 an11 cd11 ct11), sl11⟩)
    (c11 : PySem.W.codeIn K cd11 "law" = true)
    (k11 : PySem.W.keepIn K (.ref f11) = true)
    (a_I : PySem.W.findIn K (.ref CNoText) "__init__" = some (some (.ref f_I)))
    (i_I : PySem.W.isFn K (.ref f_I) = true)
    (l_I : K.lookup f_I = some ⟨oc_I, od_I, .func (PySem.W.fnOf "__init__" "NoText.__init__" (defArgs sNoText___init__) (defBody sNoText___init__) (defScope sNoText___init__) .none kV_I dc_I pm_I an_I cd_I ct_I), sl_I⟩)
    (c_I : PySem.W.codeIn K cd_I "NoText.__init__" = true)
    (k_I : PySem.W.keepIn K (.ref f_I) = true)
    (z_len : PySem.W.nsIn K mainGlobals "len" = some none)
    (z_range : PySem.W.nsIn K mainGlobals "range" = some none)
    (z_isinstance : PySem.W.nsIn K mainGlobals "isinstance" = some none)
    (z_bool : PySem.W.nsIn K mainGlobals "bool" = some none)
    (z_all : PySem.W.nsIn K mainGlobals "all" = some none)
    (z_int : PySem.W.nsIn K mainGlobals "int" = some none)
    (z_str : PySem.W.nsIn K mainGlobals "str" = some none)
    (z_abs : PySem.W.nsIn K mainGlobals "abs" = some none)
    (z_divmod : PySem.W.nsIn K mainGlobals "divmod" = some none)
    (z_ValueError : PySem.W.nsIn K mainGlobals "ValueError" = some none)
    (gl_FIGURES : PySem.W.nsIn K mainGlobals "FIGURES" = some (some (.str (Str.ofString "0123456789") t_FIGURES)))
    (gl_MOST_FIGURES : PySem.W.nsIn K mainGlobals "MOST_FIGURES" = some (some (.int 60 t_MOST_FIGURES)))
    (bga : PySem.W.specialIn K (.ref CBoughError) "__getattribute__" = some (some (.builtin "type.__getattribute__")))
    (brd : PySem.W.readsIn K CBoughError (.type "type") = true)
    (bfd : PySem.W.findCls K (.ref CBoughError) (.type "type") "__init__" = some (.val (.builtin "ValueError.__init__")))
    (xex : exiIn K CNoText bmV "ValueError.__new__" = true)
    (xsa : PySem.W.findIn K (.ref CNoText) "__setattr__" = some (some (.builtin "object.__setattr__")))
    (xob : PySem.W.mroIn K CNoText (.type "object") = some true)
    (xno : PySem.W.findIn K (.ref CNoText) "at" = some none)
    (xhd : PySem.W.hasDictIn K CNoText = true)
    (xga : PySem.W.findIn K (.ref CNoText) "__getattribute__" = some (some (.builtin "BaseException.__getattribute__")))
    (xgt : PySem.W.findIn K (.ref CNoText) "__getattr__" = some none)
    (xcl : PySem.W.findIn K (.ref CNoText) "__class__" = some (some (.builtin "object.__class__")))
    (xbe : PySem.W.mroIn K CNoText (.type "BaseException") = some true)
    (xci : PySem.W.clsIn K CNoText = some cxN)
    (xfn : PySem.W.typeIn K (.ref f_I) = some (.type "function"))
    (xca : PySem.W.specialIn K (.ref CNoText) "__call__" = some (some (.builtin "type.__call__")))
    (xty : PySem.W.instIn K (.ref CNoText) (.type "type") = some true)
    (xti : PySem.W.typeIn K (.ref CNoText) = some (.type "type"))
    (xkp : PySem.W.keepIn K (.ref CNoText) = true)
    (xem : PySem.W.exmOne K (.ref CNoText) (.ref CBoughError) = some true)
    (xkn : PySem.W.kitOne K (.ref CNoText) (.ref CNoText) = some true)
    (xkv : PySem.W.kitOne K (.ref CNoText) (.type "ValueError") = some true)
    (q_Clash : PySem.W.kitOne K (.ref CNoText) (.ref CClash) = some false)
    (q_Empty : PySem.W.kitOne K (.ref CNoText) (.ref CEmpty) = some false)
    (q_Hangs : PySem.W.kitOne K (.ref CNoText) (.ref CHangs) = some false)
    (q_NoDeed : PySem.W.kitOne K (.ref CNoText) (.ref CNoDeed) = some false)
    (q_NoRoom : PySem.W.kitOne K (.ref CNoText) (.ref CNoRoom) = some false)
    (q_NoStand : PySem.W.kitOne K (.ref CNoText) (.ref CNoStand) = some false)
    (q_NoWord : PySem.W.kitOne K (.ref CNoText) (.ref CNoWord) = some false)
    (q_Twice : PySem.W.kitOne K (.ref CNoText) (.ref CTwice) = some false)
    (q_Unfit : PySem.W.kitOne K (.ref CNoText) (.ref CUnfit) = some false)
    : ∃ fd : FuncData, (∀ (s : Shared) (v : Value), BindsTo s fd ⟨[v], []⟩ [("_law_script", v)]) ∧ ∀ base : Heap, K.In base → base.Ns mainGlobals mg → FnOk l.prog w K mg base CX0 5 fa fd ["_law_script"] (spLaw K) := by
  have e0 := hfa.symm.trans (PySem.W.mg_of X G a11)
  cases e0
  let e : Ek := ⟨CBoughError, CUnfit, CNoText, CClash, CHangs, CNoStand, CNoDeed, CEmpty, CNoWord, CTwice, CNoRoom⟩
  have S : ExcS K CNoText "at" := ⟨xex, xsa, xob, xno, xhd⟩
  have ka0 : PySem.W.kitAny K (.ref CNoText) [.ref CClash, .ref CEmpty, .ref CHangs, .ref CNoDeed, .ref CNoRoom, .ref CNoStand, .ref CNoWord, .ref CTwice, .ref CUnfit] = some false := by simp only [PySem.W.kitAny, q_Clash, q_Empty, q_Hangs, q_NoDeed, q_NoRoom, q_NoStand, q_NoWord, q_Twice, q_Unfit]
  have T : Txt K mg e := {b_len := PySem.W.mg_none_of X G z_len, b_range := PySem.W.mg_none_of X G z_range, b_isinstance := PySem.W.mg_none_of X G z_isinstance, b_bool := PySem.W.mg_none_of X G z_bool, b_all := PySem.W.mg_none_of X G z_all, b_int := PySem.W.mg_none_of X G z_int, b_str := PySem.W.mg_none_of X G z_str, b_abs := PySem.W.mg_none_of X G z_abs, b_divmod := PySem.W.mg_none_of X G z_divmod, b_ValueError := PySem.W.mg_none_of X G z_ValueError, mBoughError := PySem.W.mg_of X G aCBoughError, mUnfit := PySem.W.mg_of X G aCUnfit, mNoText := PySem.W.mg_of X G aCNoText, mClash := PySem.W.mg_of X G aCClash, mHangs := PySem.W.mg_of X G aCHangs, mNoStand := PySem.W.mg_of X G aCNoStand, mNoDeed := PySem.W.mg_of X G aCNoDeed, mEmpty := PySem.W.mg_of X G aCEmpty, mNoWord := PySem.W.mg_of X G aCNoWord, mTwice := PySem.W.mg_of X G aCTwice, mNoRoom := PySem.W.mg_of X G aCNoRoom, g_FIGURES := ⟨t_FIGURES, PySem.W.mg_of X G gl_FIGURES⟩, g_MOST_FIGURES := ⟨t_MOST_FIGURES, PySem.W.mg_of X G gl_MOST_FIGURES⟩, baseI := ⟨bga, brd, bfd⟩, xs := S, xf := ⟨xga, xgt, xcl, xob, xbe, by show (PySem.W.clsIn K CNoText).isSome = true; rw [xci]; rfl⟩, exm := xem, kn := xkn, kv := xkv, ka := ka0}
  have U0 := fun_mk (st := sshow_number) l0 c0 k0
  have B0 := U0.binds (ps := ["number"]) fun _ _ _ _ _ _ us hl => match us, hl with | [_], _ => rfl
  have Nshow_number : Fn K mg "show_number" sshow_number ["number"] := ⟨_, _, U0, PySem.W.mg_of X G a0, B0⟩
  have U1 := fun_mk (st := sread_number) l1 c1 k1
  have B1 := U1.binds (ps := ["text"]) fun _ _ _ _ _ _ us hl => match us, hl with | [_], _ => rfl
  have Nread_number : Fn K mg "read_number" sread_number ["text"] := ⟨_, _, U1, PySem.W.mg_of X G a1, B1⟩
  have U2 := fun_mk (st := s_law_at) l2 c2 k2
  have B2 := U2.binds (ps := ["_law_script", "_law_k"]) fun _ _ _ _ _ _ us hl => match us, hl with | [_, _], _ => rfl
  have N_law_at : Fn K mg "_law_at" s_law_at ["_law_script", "_law_k"] := ⟨_, _, U2, PySem.W.mg_of X G a2, B2⟩
  have U3 := fun_mk (st := s_law_is) l3 c3 k3
  have B3 := U3.binds (ps := ["_law_found", "_law_due_here"]) fun _ _ _ _ _ _ us hl => match us, hl with | [_, _], _ => rfl
  have N_law_is : Fn K mg "_law_is" s_law_is ["_law_found", "_law_due_here"] := ⟨_, _, U3, PySem.W.mg_of X G a3, B3⟩
  have U4 := fun_mk (st := s_law_number) l4 c4 k4
  have B4 := U4.binds (ps := ["_law_load"]) fun _ _ _ _ _ _ us hl => match us, hl with | [_], _ => rfl
  have N_law_number : Fn K mg "_law_number" s_law_number ["_law_load"] := ⟨_, _, U4, PySem.W.mg_of X G a4, B4⟩
  have U5 := fun_mk (st := s_law_figures) l5 c5 k5
  have B5 := U5.binds (ps := ["_law_number_here"]) fun _ _ _ _ _ _ us hl => match us, hl with | [_], _ => rfl
  have N_law_figures : Fn K mg "_law_figures" s_law_figures ["_law_number_here"] := ⟨_, _, U5, PySem.W.mg_of X G a5, B5⟩
  have U6 := fun_mk (st := s_law_sign) l6 c6 k6
  have B6 := U6.binds (ps := ["_law_load"]) fun _ _ _ _ _ _ us hl => match us, hl with | [_], _ => rfl
  have N_law_sign : Fn K mg "_law_sign" s_law_sign ["_law_load"] := ⟨_, _, U6, PySem.W.mg_of X G a6, B6⟩
  have U7 := fun_mk (st := s_law_spoiled) l7 c7 k7
  have B7 := U7.binds (ps := ["_law_text_here", "_law_load"]) fun _ _ _ _ _ _ us hl => match us, hl with | [_, _], _ => rfl
  have N_law_spoiled : Fn K mg "_law_spoiled" s_law_spoiled ["_law_text_here", "_law_load"] := ⟨_, _, U7, PySem.W.mg_of X G a7, B7⟩
  have U8 := fun_mk (st := s_law_text) l8 c8 k8
  have B8 := U8.binds (ps := ["_law_script", "_law_text_here"]) fun _ _ _ _ _ _ us hl => match us, hl with | [_, _], _ => rfl
  have N_law_text : Fn K mg "_law_text" s_law_text ["_law_script", "_law_text_here"] := ⟨_, _, U8, PySem.W.mg_of X G a8, B8⟩
  have U9 := fun_mk (st := s_law_due) l9 c9 k9
  have B9 := U9.binds (ps := ["_law_text_here"]) fun _ _ _ _ _ _ us hl => match us, hl with | [_], _ => rfl
  have N_law_due : Fn K mg "_law_due" s_law_due ["_law_text_here"] := ⟨_, _, U9, PySem.W.mg_of X G a9, B9⟩
  have U10 := fun_mk (st := s_law_refused) l10 c10 k10
  have B10 := U10.binds (ps := ["_law_text_here"]) fun _ _ _ _ _ _ us hl => match us, hl with | [_], _ => rfl
  have N_law_refused : Fn K mg "_law_refused" s_law_refused ["_law_text_here"] := ⟨_, _, U10, PySem.W.mg_of X G a10, B10⟩
  have U11 := fun_mk (st := slaw) l11 c11 k11
  have B11 := U11.binds (ps := ["_law_script"]) fun _ _ _ _ _ _ us hl => match us, hl with | [_], _ => rfl
  have Nlaw : Fn K mg "law" slaw ["_law_script"] := ⟨_, _, U11, PySem.W.mg_of X G a11, B11⟩
  have U_I := fun_mk (st := sNoText___init__) l_I c_I k_I
  have B_I := U_I.binds (ps := ["self", "at"]) fun _ _ _ _ _ _ us hl => match us, hl with | [_, _], _ => rfl
  have N_I : Mt K e.xNoText "__init__" "NoText.__init__" sNoText___init__ ["self", "at"] := ⟨_, _, U_I, a_I, i_I, B_I⟩
  refine ⟨PySem.W.fnOf "law" "law" (defArgs slaw) (defBody slaw) (defScope slaw) .none kV11 dc11 pm11 an11 cd11 ct11, fun s v => .of_eq rfl, fun base _ _ => ?_⟩
  obtain ⟨fI, fdI, hf, G0, hb⟩ := okI (P := l.prog) (w := w) (base := base) (e := e) N_I T
  have ef : fI = f_I := by
    have z : PySem.W.findIn K (.ref CNoText) "__init__" = some (some (.ref fI)) := hf
    rw [a_I] at z
    injection z with z
    injection z with z
    injection z with z
    exact z.symm
  subst ef
  have R : ExcR K e.xNoText fI := { ex := xex, init := a_I, fn := xfn, call := xca, typ := xty, be := xbe, ty := xti, kp := xkp }
  have RI := And.intro R (And.intro G0 hb)
  have o_sh := okshow_number (P := l.prog) (w := w) (base := base) (e := e) Nshow_number T 
  have o_rd := okread_number (P := l.prog) (w := w) (base := base) (e := e) Nread_number T RI o_sh
  have o_at := ok_law_at (P := l.prog) (w := w) (base := base) (e := e) N_law_at T 
  have o_is := ok_law_is (P := l.prog) (w := w) (base := base) (e := e) N_law_is T 
  have o_isH := ok_law_isH (P := l.prog) (w := w) (base := base) (e := e) N_law_is T 
  have o_nm := ok_law_number (P := l.prog) (w := w) (base := base) (e := e) N_law_number T 
  have o_fg := ok_law_figures (P := l.prog) (w := w) (base := base) (e := e) N_law_figures T 
  have o_sg := ok_law_sign (P := l.prog) (w := w) (base := base) (e := e) N_law_sign T 
  have o_sp := ok_law_spoiled (P := l.prog) (w := w) (base := base) (e := e) N_law_spoiled T o_sg
  have o_tx := ok_law_text (P := l.prog) (w := w) (base := base) (e := e) N_law_text T o_at o_sg o_sp
  have o_du := ok_law_due (P := l.prog) (w := w) (base := base) (e := e) N_law_due T 
  have o_rf := ok_law_refused (P := l.prog) (w := w) (base := base) (e := e) N_law_refused T o_rd o_isH
  exact oklaw (e := e) U11 T o_at o_is o_nm o_fg o_tx o_du o_rf o_sh o_rd
theorem walk {l : PySem.W.OpenLaw} {q : Program} {loose : List Str} {XP : (Str → Option Value) → Heap → Prop} {YP : World → Heap → Prop} {d : DefRec} {K : Params → PySem.W.Frag} (hn : l.most = some 63) (hdf : d.params.defaults = [])
    (hY : ∀ (w : World) (h : Heap), YP w h → (K w.params).In h)
    (F : ∀ (w : World) (mg : Str → Option Value) (fa : Addr) (h : Heap), (K w.params).In h → h.Ns mainGlobals mg → mg d.name = some (.ref fa) →
      ∃ fd : FuncData, (∀ (s : Shared) (u : Value), BindsTo s fd ⟨[u], []⟩ [("_law_script", u)]) ∧ ∀ base : Heap, (K w.params).In base → base.Ns mainGlobals mg → FnOk l.prog w (K w.params) mg base CX0 5 fa fd ["_law_script"] (spLaw (K w.params))) :
    PySem.W.WalkO q loose XP YP l.row.toRowW d [] (fun f vs => PySem.call f vs) :=
  L2.walk_of (n := 63) (k := 5) (x := "_law_script") (CX := fun _ => CX0) (sp := fun w => spLaw (K w.params)) hn (by decide) hdf ⟨rfl, by decide, by decide⟩ hY F (fun _ _ a ns hl _ hS => ⟨a, ns, rfl, hS, hl, fun _ => rfl⟩) fun _ _ _ _ _ z => z
end My
open PySem PySem.W PyProof.Rows
set_option maxRecDepth 100000 in
set_option maxHeartbeats 0 in
theorem PySem.Challenge.cw_boughback_k81_numbers_written_holds : PySem.Challenge.rw_boughback_k81_numbers_written.Holds := by
  w_on; o_law; k_head; (case hw => w_witness2)
  k_fill
  refine My.walk (l := PySem.Challenge.rw_boughback_k81_numbers_written) rfl rfl (fun w h Y => PySem.W.kIn_of Y) ?F
  case F =>
    intro w mg fa h KX G hmg
    refine' My.all_mk KX G hmg ?aCBoughError ?aCUnfit ?aCNoText ?aCClash ?aCHangs ?aCNoStand ?aCNoDeed ?aCEmpty ?aCNoWord ?aCTwice ?aCNoRoom ?a0 ?l0 ?c0 ?k0 ?a1 ?l1 ?c1 ?k1 ?a2 ?l2 ?c2 ?k2 ?a3 ?l3 ?c3 ?k3 ?a4 ?l4 ?c4 ?k4 ?a5 ?l5 ?c5 ?k5 ?a6 ?l6 ?c6 ?k6 ?a7 ?l7 ?c7 ?k7 ?a8 ?l8 ?c8 ?k8 ?a9 ?l9 ?c9 ?k9 ?a10 ?l10 ?c10 ?k10 ?a11 ?l11 ?c11 ?k11 ?a_I ?i_I ?l_I ?c_I ?k_I ?z_len ?z_range ?z_isinstance ?z_bool ?z_all ?z_int ?z_str ?z_abs ?z_divmod ?z_ValueError ?gl_FIGURES ?gl_MOST_FIGURES ?bga ?brd ?bfd ?xex ?xsa ?xob ?xno ?xhd ?xga ?xgt ?xcl ?xbe ?xci ?xfn ?xca ?xty ?xti ?xkp ?xem ?xkn ?xkv ?q_Clash ?q_Empty ?q_Hangs ?q_NoDeed ?q_NoRoom ?q_NoStand ?q_NoWord ?q_Twice ?q_Unfit
    (case aCBoughError => k_is)
    (case aCUnfit => k_is)
    (case aCNoText => k_is)
    (case aCClash => k_is)
    (case aCHangs => k_is)
    (case aCNoStand => k_is)
    (case aCNoDeed => k_is)
    (case aCEmpty => k_is)
    (case aCNoWord => k_is)
    (case aCTwice => k_is)
    (case aCNoRoom => k_is)
    (case a0 => k_is)
    (case l0 => k_is)
    (case c0 => k_is)
    (case k0 => k_is)
    (case a1 => k_is)
    (case l1 => k_is)
    (case c1 => k_is)
    (case k1 => k_is)
    (case a2 => k_is)
    (case l2 => k_is)
    (case c2 => k_is)
    (case k2 => k_is)
    (case a3 => k_is)
    (case l3 => k_is)
    (case c3 => k_is)
    (case k3 => k_is)
    (case a4 => k_is)
    (case l4 => k_is)
    (case c4 => k_is)
    (case k4 => k_is)
    (case a5 => k_is)
    (case l5 => k_is)
    (case c5 => k_is)
    (case k5 => k_is)
    (case a6 => k_is)
    (case l6 => k_is)
    (case c6 => k_is)
    (case k6 => k_is)
    (case a7 => k_is)
    (case l7 => k_is)
    (case c7 => k_is)
    (case k7 => k_is)
    (case a8 => k_is)
    (case l8 => k_is)
    (case c8 => k_is)
    (case k8 => k_is)
    (case a9 => k_is)
    (case l9 => k_is)
    (case c9 => k_is)
    (case k9 => k_is)
    (case a10 => k_is)
    (case l10 => k_is)
    (case c10 => k_is)
    (case k10 => k_is)
    (case a11 => k_is)
    (case l11 => k_is)
    (case c11 => k_is)
    (case k11 => k_is)
    (case a_I => k_is)
    (case i_I => k_is)
    (case l_I => k_is)
    (case c_I => k_is)
    (case k_I => k_is)
    (case z_len => k_is)
    (case z_range => k_is)
    (case z_isinstance => k_is)
    (case z_bool => k_is)
    (case z_all => k_is)
    (case z_int => k_is)
    (case z_str => k_is)
    (case z_abs => k_is)
    (case z_divmod => k_is)
    (case z_ValueError => k_is)
    (case gl_FIGURES => k_is)
    (case gl_MOST_FIGURES => k_is)
    (case bga => k_is)
    (case brd => k_is)
    (case bfd => k_is)
    (case xex => first | k_is | k_exc | kernel_rfl | rfl | decide +kernel)
    (case xsa => k_is)
    (case xob => k_is)
    (case xno => k_is)
    (case xhd => k_is)
    (case xga => k_is)
    (case xgt => k_is)
    (case xcl => k_is)
    (case xbe => k_is)
    (case xci => k_is)
    (case xfn => k_is)
    (case xca => k_is)
    (case xty => k_is)
    (case xti => k_is)
    (case xkp => k_is)
    (case xem => kts_exm)
    (case xkn => kit_is)
    (case xkv => kit_is)
    (case q_Clash => kit_is)
    (case q_Empty => kit_is)
    (case q_Hangs => kit_is)
    (case q_NoDeed => kit_is)
    (case q_NoRoom => kit_is)
    (case q_NoStand => kit_is)
    (case q_NoWord => kit_is)
    (case q_Twice => kit_is)
    (case q_Unfit => kit_is)

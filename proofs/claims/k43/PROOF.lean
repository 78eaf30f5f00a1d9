import PyProof.Rows.All
import Wide.All
import OpenK.AllK
import Wide.FinOn
import Lean
import PyProof.EqAt
import PyProof.EqKinds
import PyProof.TupleCall
import PyProof.NeKinds
import PyProof.ZipIter
import KE.KSortTup
import PyProof.TupleKey
import PyProof.SetKind
import PyProof.IsRules
import PyProof.Rows.SetFrom
import PyProof.Rows.SortShell
import KE.KDictList
import KE.KDictSum
import PyProof.MinMaxWalk
import PyProof.Rows.CallKwBuiltin
import PyProof.TupleIter
import KE.KIntText
import PyProof.Rows.StrWeight2
import PyProof.Rows.StrNews
import PyProof.StrWalks
import PyProof.FString5
import PyProof.SliceStr2
import PyProof.FitsReplace
import PyProof.Rows.StrSplitCount
import PySem.Challenge.RW_healfloor_k43_islands_written_and_read
set_option Elab.async false
set_option linter.all false
set_option maxRecDepth 100000
/-! THE HAND LAYER, for ints, bools, texts, own classes, DICTS (int and text keys), calls, loops. Paste it whole ahead of your own text; what your proof does not reach may be deleted. -/
namespace L2
open PySem PySem.Spec PyProof.Rows

/-- a key: an int or a str -/
abbrev Key := Sum Int Str
def keyIs : Key → Value → Bool
  | .inl k, v => Value.isInt k v
  | .inr x, v => Value.isStrOf x v
def keyH (w : World) : Key → Int
  | .inl k => hashInt k
  | .inr x => hashStr w x
theorem keyIs_shape : ∀ {k : Key} {v : Value}, keyIs k v = true → (∃ i t, k = Sum.inl i ∧ v = Value.int i t) ∨ (∃ x t, k = Sum.inr x ∧ v = Value.str x t)
  | .inl i, v, h => by
    obtain ⟨t, e⟩ := Value.isInt_shape (k := i) (v := v) h
    exact .inl ⟨i, t, rfl, e⟩
  | .inr x, v, h => by
    obtain ⟨t, e⟩ := Value.isStrOf_shape (x := x) (v := v) h
    exact .inr ⟨x, t, rfl, e⟩
theorem keyIs_int (i : Int) (t : Tok) : keyIs (.inl i) (.int i t) = true := by simp [keyIs, Value.isInt]
theorem keyIs_str (x : Str) (t : Tok) : keyIs (.inr x) (.str x t) = true := by simp [keyIs, Value.isStrOf]
theorem key_ll (a b : Int) : decide ((Sum.inl a : Key) = Sum.inl b) = (a == b) := by
  by_cases e : a = b
  · subst e; simp
  · have h : ¬ (Sum.inl a : Key) = Sum.inl b := fun q => e (Sum.inl.inj q)
    rw [decide_eq_false h]
    exact (beq_eq_false_iff_ne.mpr e).symm
theorem key_rr (a b : Str) : decide ((Sum.inr a : Key) = Sum.inr b) = decide (a = b) := by
  by_cases e : a = b
  · subst e; simp
  · have h : ¬ (Sum.inr a : Key) = Sum.inr b := fun q => e (Sum.inr.inj q)
    rw [decide_eq_false h, decide_eq_false e]
theorem key_lr (a : Int) (b : Str) : decide ((Sum.inl a : Key) = Sum.inr b) = false := decide_eq_false (fun q => nomatch q)
theorem key_rl (a : Str) (b : Int) : decide ((Sum.inr a : Key) = Sum.inl b) = false := decide_eq_false (fun q => nomatch q)

def mixKind (prog : Program) (w : World) : PySem.KeyKind prog w Key where
  is := keyIs
  hash := keyH w
  inj := fun v a b ha hb => by
    rcases keyIs_shape ha with ⟨i, t, rfl, rfl⟩ | ⟨x, t, rfl, rfl⟩
    · rcases keyIs_shape hb with ⟨j, u, rfl, e⟩ | ⟨y, u, rfl, e⟩
      · injection e with e1 _; rw [e1]
      · exact nomatch e
    · rcases keyIs_shape hb with ⟨j, u, rfl, e⟩ | ⟨y, u, rfl, e⟩
      · exact nomatch e
      · injection e with e1 _; rw [e1]
  byValue := fun k v h => by
    rcases keyIs_shape h with ⟨i, t, rfl, rfl⟩ | ⟨x, t, rfl, rfl⟩ <;> rfl
  pyHash := fun hv h => by
    rcases keyIs_shape hv with ⟨i, t, rfl, rfl⟩ | ⟨x, t, rfl, rfl⟩
    · exact wpAny_pyHash_int h
    · exact wpAny_pyHash_str h
  eqBool := fun hu hv h => by
    rcases keyIs_shape hu with ⟨i, t, rfl, rfl⟩ | ⟨x, t, rfl, rfl⟩
    · rcases keyIs_shape hv with ⟨j, u, rfl, rfl⟩ | ⟨y, u, rfl, rfl⟩
      · rw [key_ll] at h; exact wpAny_eqBool_int h
      · rw [key_lr] at h; exact SeqAt.EqAt.int_str i t y u _ _ _ _ h
    · rcases keyIs_shape hv with ⟨j, u, rfl, rfl⟩ | ⟨y, u, rfl, rfl⟩
      · rw [key_rl] at h; exact SeqAt.EqAt.str_int x t j u _ _ _ _ h
      · rw [key_rr] at h; exact wpAny_eqBool_str h
  «strs» := fun k x t v h => by
    rcases keyIs_shape h with ⟨i, u, rfl, e⟩ | ⟨y, u, rfl, e⟩
    · exact nomatch e
    · injection e with e1 _
      subst e1
      cases v <;> rfl

theorem mixKind_is (prog : Program) (w : World) (k : Key) (v : Value) : (mixKind prog w).is k v = keyIs k v := rfl
theorem mixKind_int (prog : Program) (w : World) (i : Int) (t : Tok) : (mixKind prog w).is (.inl i) (.int i t) = true := keyIs_int i t
theorem mixKind_str (prog : Program) (w : World) (x : Str) (t : Tok) : (mixKind prog w).is (.inr x) (.str x t) = true := keyIs_str x t
end L2

namespace L2
open PySem PySem.Spec PyProof.Rows

/-- a value, without the heap -/
inductive V where
  | non | bl (b : Bool) | int (i : Int) | str (x : Str) | byt (b : Array UInt8) | flt (b : UInt64) | ref (a : Addr) | ty (n : String)
  deriving DecidableEq

def RelV : V → Value → Prop
  | .non, u => u = Value.none
  | .bl b, u => u = Value.bool b
  | .int i, u => ∃ t, u = Value.int i t
  | .str x, u => ∃ t, u = Value.str x t
  | .byt b, u => ∃ t, u = Value.bytes b t
  | .flt b, u => ∃ t, u = Value.float b t
  | .ref a, u => u = Value.ref a
  | .ty n, u => u = Value.type n

abbrev Vals : List V → List Value → Prop := Paired RelV
theorem Vals.length {xs : List V} {us : List Value} (r : Vals xs us) : xs.length = us.length := Paired.length r
theorem Vals.get : ∀ {xs : List V} {us : List Value} {i : Nat} {x : V}, Vals xs us → xs[i]? = some x → ∃ u, us[i]? = some u ∧ RelV x u
  | _, _, _, _, .nil, e => by simp at e
  | _, _, 0, _, .cons r _, e => by simp at e; subst e; exact ⟨_, rfl, r⟩
  | _, _, i + 1, x, .cons _ t, e => by
    obtain ⟨u, h1, h2⟩ := Vals.get (i := i) (x := x) t (by simpa using e)
    exact ⟨u, by simpa using h1, h2⟩
theorem Vals.set {x : V} {u : Value} (r : RelV x u) : ∀ {xs : List V} {us : List Value} (i : Nat), Vals xs us → Vals (xs.set i x) (us.set i u)
  | _, _, _, .nil => .nil
  | _, _, 0, .cons _ t => .cons r t
  | _, _, i + 1, .cons q t => .cons q (Vals.set r i t)
theorem Vals.append : ∀ {xs ys : List V} {us ws : List Value}, Vals xs us → Vals ys ws → Vals (xs ++ ys) (us ++ ws)
  | _, _, _, _, .nil, s => s
  | _, _, _, _, .cons r t, s => .cons r (Vals.append t s)
theorem Vals.take : ∀ {xs : List V} {us : List Value} (n : Nat), Vals xs us → Vals (xs.take n) (us.take n)
  | _, _, 0, _ => .nil
  | _, _, _ + 1, .nil => .nil
  | _, _, n + 1, .cons r t => .cons r (Vals.take n t)
theorem Vals.drop : ∀ {xs : List V} {us : List Value} (n : Nat), Vals xs us → Vals (xs.drop n) (us.drop n)
  | _, _, 0, r => r
  | _, _, _ + 1, .nil => .nil
  | _, _, n + 1, .cons _ t => Vals.drop n t
theorem Vals.none_of : ∀ {xs : List V} {us : List Value} {i : Nat}, Vals xs us → xs[i]? = none → us[i]? = none := fun {xs us i} r e => by
  have h1 := r.length
  have h2 : xs.length ≤ i := List.getElem?_eq_none_iff.mp e
  exact List.getElem?_eq_none_iff.mpr (by omega)

def RelO : Option V → Option Value → Prop
  | some v, some u => RelV v u
  | none, none => True
  | _, _ => False
def KV {κ : Type} : List (κ × V) → List (κ × Value) → Prop := Paired fun (p : κ × V) (q : κ × Value) => p.1 = q.1 ∧ RelV p.2 q.2

/-- a key of a dict (00_mix): an int or a text -/
def kV : Key → V
  | .inl i => .int i
  | .inr x => .str x

/-- what stands at a tracked address -/
inductive HO where
  /-- a list -/
  | lst (xs : List V)
  /-- a tuple (never changes) -/
  | tup (xs : List V)
  /-- a dict whose keys are ints and texts; one whose keys are tuples of ints and texts (the empty one is both) -/
  | dK (kvs : List (Key × V)) | dT (kvs : List (List Key × V))
  /-- a set of ints: its members, its size -/
  | set (S : Int → Bool) (n : Nat)
  /-- an instance of the class at C, its dict at dx, its attributes -/
  | ins (C dx : Addr) (fs : List (Str × V))
  /-- the dict of the instance at x -/
  | own (x : Addr)
  /-- the dict of an exception -/
  | xd (fs : List (Str × V))
  /-- a bound method, f of x -/
  | met (f x : Addr)
  /-- a range object lo, lo + 1, .. below hi -/
  | rng (lo hi : Int)
  /-- a thing that is known to the object (the script; a dict while a loop walks it): read, never written while it is so -/
  | frz (o : Obj) (u : HO)
  /-- a code object's table -/
  | tbl (ps : Array Value)
  /-- any other thing, by what is true of its one object (a def of one's own: SetO a S n := HO.ext fun h => ..) -/
  | ext (φ : Heap → Prop)

abbrev Hp := Addr → Option HO
def upd (H : Hp) (a : Addr) (o : HO) : Hp := fun b => if b = a then some o else H b
theorem upd_same {H : Hp} {a : Addr} {o : HO} : upd H a o a = some o := by unfold upd; rw [if_pos rfl]
theorem upd_ne {H : Hp} {a b : Addr} {o : HO} (h : b ≠ a) : upd H a o b = H b := by unfold upd; rw [if_neg h]
theorem upd_upd {H : Hp} {a : Addr} {o u : HO} : upd (upd H a o) a u = upd H a u := by
  funext b; unfold upd; split <;> rfl
/-- two objects of different content stand apart -/
theorem ne_of {H : Hp} {a b : Addr} {o u : HO} (h : H a = some o) (h' : H b = some u) (d : o ≠ u) : a ≠ b := by
  intro e; subst e; rw [h] at h'; exact d (Option.some.inj h')
theorem ne_of_none {H : Hp} {a b : Addr} {o : HO} (h : H a = some o) (h' : H b = none) : a ≠ b := by
  intro e; subst e; rw [h] at h'; cases h'

section
variable (P : Program) (w : World)
def ObjOk (H : Hp) (h : Heap) (a : Addr) : HO → Prop
  | .lst xs => xs.length ≤ sizeLine ∧ ∃ (its : List Value) (n : Nat), Vals xs its ∧ h.get? a = some { cls := .type "list", data := .seq its.toArray n }
  | .tup xs => xs.length ≤ sizeLine ∧ ∃ its : List Value, Vals xs its ∧ IsTup h a its.toArray
  | .dK kvs => kvs.length ≤ sizeLine ∧ (a == sysModules) = false ∧ ∃ vs, KV kvs vs ∧ h.DictOf (mixKind P w) a vs
  | .dT kvs => kvs.length ≤ sizeLine ∧ (a == sysModules) = false ∧ ∃ xs : List (List Key × Addr × Value),
      Paired (fun (p : List Key × V) (q : List Key × Addr × Value) => p.1 = q.1 ∧ H q.2.1 = some (.tup (p.1.map kV)) ∧ RelV p.2 q.2.2) kvs xs ∧
      ∃ o es ep, h.get? a = some o ∧ o.ExactDict ∧ o.data = .dict es ep ∧ es.toList = xs.map (entryOfKey (tupleKind (mixKind P w))) ∧ (xs.map (·.1)).Nodup
  | .set S n => h.SetOf (intKind P w) a S n
  | .ins C dx fs => H dx = some (.own a) ∧ fs.length ≤ 1000 ∧ dx ≠ a ∧ h.get? a = some (PySem.W.instObj C dx) ∧
      ∃ mA, h.Ns1 dx mA ∧ (∀ f, RelO (fs.lookup f) (mA f)) ∧ PySem.Within mA (fs.map (·.1))
  | .own _ => ∃ o, h.get? a = some o
  | .xd fs => ∃ mA, h.Ns1 a mA ∧ ∀ f, RelO (fs.lookup f) (mA f)
  | .rng lo hi => ∃ t u v, h.get? a = some { cls := .type "range", data := .fields #[.int lo t, .int hi u, .int 1 v] }
  | .frz o u => h.get? a = some o ∧ ObjOk H h a u
  | .tbl ps => h.get? a = some { cls := .none, data := .fields ps }
  | .met f x => h.get? a = some (PySem.W.methodObj (.ref f) (.ref x))
  | .ext φ => φ h ∧ (∃ o, h.get? a = some o) ∧ ∀ h1 h2 : Heap, φ h1 → (∀ o, h1.get? a = some o → h2.get? a = some o) → φ h2
/-- the abstract heap is held -/
def HOk (H : Hp) (h : Heap) : Prop := ∀ a o, H a = some o → ObjOk P w H h a o
end

section
variable {P : Program} {w : World} {H H' : Hp} {h h' : Heap} {a : Addr} {o : HO}
theorem ObjOk.lt (x : ObjOk P w H h a o) : a < h.objs.size := by
  cases o with
  | lst xs => obtain ⟨_, _, _, _, e⟩ := x; exact Heap.lt_size e
  | tup xs => obtain ⟨_, _, _, p⟩ := x; exact p.lt
  | dK kvs => obtain ⟨_, _, _, _, o, _, _, e, _⟩ := x; exact Heap.lt_size e
  | dT kvs => obtain ⟨_, _, _, _, o, _, _, e, _⟩ := x; exact Heap.lt_size e
  | set S n => obtain ⟨o, _, _, _, e, _⟩ := x; exact Heap.lt_size e
  | ins C dx fs => obtain ⟨_, _, _, e, _⟩ := x; exact Heap.lt_size e
  | own y => obtain ⟨_, e⟩ := x; exact Heap.lt_size e
  | xd fs => obtain ⟨_, ⟨_, _, _, e, _⟩, _⟩ := x; exact Heap.lt_size e
  | rng lo hi => obtain ⟨_, _, _, e⟩ := x; exact Heap.lt_size e
  | frz ob u => obtain ⟨e, _⟩ := x; exact Heap.lt_size e
  | tbl ps => exact Heap.lt_size (show h.get? a = some _ from x)
  | met f y => exact Heap.lt_size (show h.get? a = some _ from x)
  | ext φ => obtain ⟨_, ⟨_, e⟩, _⟩ := x; exact Heap.lt_size e
theorem Paired.mapP {α β : Type} {F G : α → β → Prop} : ∀ {l₁ : List α} {l₂ : List β}, Paired F l₁ l₂ → (∀ a b, F a b → G a b) → Paired G l₁ l₂
  | _, _, .nil, _ => .nil
  | _, _, .cons r t, f => .cons (f _ _ r) (Paired.mapP t f)
theorem Paired.imp' {α β : Type} {F G : α → β → Prop} (f : ∀ a b, F a b → G a b) {l₁ : List α} {l₂ : List β} (r : Paired F l₁ l₂) : Paired G l₁ l₂ := Paired.mapP r f
/-- what an object's description leans on: its own object, its own dict, the tuples -/
theorem ObjOk.stay (x : ObjOk P w H h a o) (k : ∀ b u, (b = a ∨ H b = some (.own a)) → h.get? b = some u → h'.get? b = some u)
    (ho : ∀ b, H b = some (.own a) → H' b = some (.own a)) (ht : ∀ b xs, H b = some (.tup xs) → H' b = some (.tup xs)) : ObjOk P w H' h' a o := by
  induction o with
  | lst xs => obtain ⟨z, its, n, r, e⟩ := x; exact ⟨z, its, n, r, k _ _ (.inl rfl) e⟩
  | tup xs => obtain ⟨z, its, r, ob, e, c⟩ := x; exact ⟨z, its, r, ob, k _ _ (.inl rfl) e, c⟩
  | dK kvs => obtain ⟨z, y, vs, r, ob, es, ep, e, c⟩ := x; exact ⟨z, y, vs, r, ob, es, ep, k _ _ (.inl rfl) e, c⟩
  | dT kvs =>
    obtain ⟨z, y, xs, r, ob, es, ep, e, c⟩ := x
    exact ⟨z, y, xs, Paired.mapP r fun p q z => ⟨z.1, ht _ _ z.2.1, z.2.2⟩, ob, es, ep, k _ _ (.inl rfl) e, c⟩
  | set S n => obtain ⟨ob, es, ep, t, e, c⟩ := x; exact ⟨ob, es, ep, t, k _ _ (.inl rfl) e, c⟩
  | ins C dx fs =>
    obtain ⟨d, z, ne, e, mA, ⟨od, es, ep, e2, c⟩, r⟩ := x
    exact ⟨ho _ d, z, ne, k _ _ (.inl rfl) e, mA, ⟨od, es, ep, k _ _ (.inr d) e2, c⟩, r⟩
  | own y => obtain ⟨ob, e⟩ := x; exact ⟨ob, k _ _ (.inl rfl) e⟩
  | xd fs => obtain ⟨mA, ⟨od, es, ep, e, c⟩, r⟩ := x; exact ⟨mA, ⟨od, es, ep, k _ _ (.inl rfl) e, c⟩, r⟩
  | rng lo hi => obtain ⟨t, u, v, e⟩ := x; exact ⟨t, u, v, k _ _ (.inl rfl) e⟩
  | frz ob u ih => obtain ⟨e, q⟩ := x; exact ⟨k _ _ (.inl rfl) e, ih q⟩
  | tbl ps =>
    have e : h.get? a = some { cls := .none, data := .fields ps } := x
    show h'.get? a = some { cls := .none, data := .fields ps }
    exact k a _ (.inl rfl) e
  | met f y =>
    have e : h.get? a = some (PySem.W.methodObj (.ref f) (.ref y)) := x
    show h'.get? a = some (PySem.W.methodObj (.ref f) (.ref y))
    exact k a _ (.inl rfl) e
  | ext φ => obtain ⟨p, ⟨o, e⟩, st⟩ := x; exact ⟨st _ _ p fun o q => k _ _ (.inl rfl) q, ⟨o, k _ _ (.inl rfl) e⟩, st⟩
theorem HOk.lt (x : HOk P w H h) (e : H a = some o) : a < h.objs.size := (x a o e).lt
theorem HOk.fresh (x : HOk P w H h) (e : h.objs.size ≤ a) : H a = none := by
  cases q : H a with
  | none => rfl
  | some u => exact absurd (Nat.lt_of_lt_of_le (x.lt q) e) (Nat.lt_irrefl _)
/-- every object of the heap is kept -/
theorem HOk.kept (x : HOk P w H h) (k : ∀ b u, h.get? b = some u → h'.get? b = some u) : HOk P w H h' := fun a o e =>
  (x a o e).stay (fun b u _ q => k b u q) (fun _ q => q) fun _ _ q => q
/-- a new object is laid and tracked -/
theorem HOk.laid (x : HOk P w H h) (k : ∀ b u, h.get? b = some u → h'.get? b = some u) (hp : h.objs.size ≤ a) (new : ObjOk P w (upd H a o) h' a o) : HOk P w (upd H a o) h' := fun b u e => by
  have hn := x.fresh hp
  by_cases hb : b = a
  · subst hb; rw [upd_same] at e; cases e; exact new
  · rw [upd_ne hb] at e
    exact (x b u e).stay (fun c v _ q => k c v q) (fun c q => by rw [upd_ne (ne_of_none q hn)]; exact q) fun c xs q => by rw [upd_ne (ne_of_none q hn)]; exact q
end

/-- what may be read as u: it is u, or a known u -/
def Rd (H : Hp) (a : Addr) (u : HO) : Prop := H a = some u ∨ ∃ o, H a = some (.frz o u)
theorem Rd.of {H : Hp} {a : Addr} {u : HO} (h : H a = some u) : Rd H a u := .inl h
theorem Rd.ok {P : Program} {w : World} {H : Hp} {h : Heap} {a : Addr} {u : HO} (r : Rd H a u) (x : HOk P w H h) : ObjOk P w H h a u := by
  rcases r with r | ⟨o, r⟩
  · exact x a u r
  · obtain ⟨_, q⟩ := x a _ r
    exact q
/-- what may be written -/
def Mut : Option HO → Prop
  | some (.lst _) => True
  | some (.dK _) => True
  | some (.dT _) => True
  | some (.set _ _) => True
  | some (.ins _ _ _) => True
  | some (.ext _) => True
  | _ => False
section
variable {P : Program} {w : World} {H : Hp} {h h' : Heap} {x e : Addr} {o' : HO}
/-- the object at e is changed: x itself, or the dict of the instance x -/
theorem HOk.write (ok : HOk P w H h) (mu : Mut (H x)) (he : e = x ∨ H e = some (.own x)) (k : ∀ b u, b ≠ e → h.get? b = some u → h'.get? b = some u) (heo : ∃ u, h'.get? e = some u)
    (new : ObjOk P w (upd H x o') h' x o') : HOk P w (upd H x o') h' := fun b u q => by
  have nown : ∀ c y, H c = some (.own y) → c ≠ x := fun c y r z => by subst z; rw [r] at mu; exact mu
  have ntup : ∀ c xs, H c = some (.tup xs) → c ≠ x := fun c xs r z => by subst z; rw [r] at mu; exact mu
  by_cases hb : b = x
  · subst hb; rw [upd_same] at q; cases q; exact new
  · rw [upd_ne hb] at q
    by_cases hbe : b = e
    · have q' : H b = some (.own x) := by
        rcases he with z | z
        · exact absurd (hbe.trans z) hb
        · rw [hbe]; exact z
      rw [q] at q'; cases q'
      obtain ⟨v, hv⟩ := heo
      exact ⟨v, by rw [hbe]; exact hv⟩
    · refine (ok b u q).stay (fun c v hc r => k c v ?_ r) (fun c r => by rw [upd_ne (nown c b r)]; exact r) fun c xs r => by rw [upd_ne (ntup c xs r)]; exact r
      rcases hc with rfl | hc
      · exact hbe
      · rintro rfl
        rcases he with z | z
        · exact nown c b hc z
        · rw [hc] at z; cases z; exact hb rfl
end

/-! ### kept unless tracked; of the frames at fs (the callers') the slots may change (an exception that passes writes there); of the records at ex (iterators) nothing is said -/
structure Un (fs ex : List Addr) (H H' : Hp) (h h' : Heap) : Prop where
  keep : ∀ b o, h.get? b = some o → H b = none → b ∉ fs → b ∉ ex → h'.get? b = some o
  slot : ∀ b o, h.get? b = some o → H b = none → b ∈ fs → b ∉ ex → ∃ sl, h'.get? b = some { o with slots := sl }
  free : ∀ b o, h.get? b = some o → H b = none → b ∉ ex → H' b = none
  there : ∀ b o, h.get? b = some o → b ∉ ex → ∃ o', h'.get? b = some o'
  tups : ∀ b xs, H b = some (.tup xs) → H' b = some (.tup xs)
  frzs : ∀ b o u, H b = some (.frz o u) → H' b = some (.frz o u)
  tbls : ∀ b ps, H b = some (.tbl ps) → ∃ more, H' b = some (.tbl (ps ++ more))
section
variable {fs fs' ex ex' : List Addr} {H H1 H2 : Hp} {h h1 h2 h' : Heap} {a x e : Addr} {o : HO}
theorem Un.any (u : Un fs ex H H1 h h1) {b : Addr} {ob : Obj} (q : h.get? b = some ob) (n : H b = none) (hx : b ∉ ex) : ∃ sl, h1.get? b = some { ob with slots := sl } := by
  by_cases hb : b ∈ fs
  · exact u.slot b ob q n hb hx
  · exact ⟨ob.slots, u.keep b ob q n hb hx⟩
theorem Un.trans (a : Un fs ex H H1 h h1) (b : Un fs ex H1 H2 h1 h2) : Un fs ex H H2 h h2 where
  keep := fun c ob q n hc hx => b.keep c ob (a.keep c ob q n hc hx) (a.free c ob q n hx) hc hx
  slot := fun c ob q n hc hx => by
    obtain ⟨sl, e1⟩ := a.slot c ob q n hc hx
    obtain ⟨sl', e2⟩ := b.slot c _ e1 (a.free c ob q n hx) hc hx
    exact ⟨sl', e2⟩
  free := fun c ob q n hx => by
    obtain ⟨o', e1⟩ := a.there c ob q hx
    exact b.free c o' e1 (a.free c ob q n hx) hx
  there := fun c ob q hx => by
    obtain ⟨o', e1⟩ := a.there c ob q hx
    exact b.there c o' e1 hx
  tups := fun c xs q => b.tups c xs (a.tups c xs q)
  frzs := fun c ob xs q => b.frzs c ob xs (a.frzs c ob xs q)
  tbls := fun c ps q => by
    obtain ⟨m1, e1⟩ := a.tbls c ps q
    obtain ⟨m2, e2⟩ := b.tbls c _ e1
    exact ⟨m1 ++ m2, by rw [e2, Array.append_assoc]⟩
theorem Un.kept (k : ∀ b u, h.get? b = some u → h'.get? b = some u) : Un fs ex H H h h' :=
  ⟨fun b ob q _ _ _ => k b ob q, fun b ob q _ _ _ => ⟨ob.slots, k b ob q⟩, fun _ _ _ n _ => n, fun b ob q _ => ⟨ob, k b ob q⟩, fun _ _ q => q, fun _ _ _ q => q, fun _ ps q => ⟨#[], by rw [q]; simp⟩⟩
theorem Un.refl : Un fs ex H H h h := Un.kept fun _ _ q => q
theorem Un.laid (k : ∀ b u, h.get? b = some u → h'.get? b = some u) (hp : h.objs.size ≤ a) (hn : H a = none) : Un fs ex H (upd H a o) h h' where
  keep := fun b u q _ _ _ => k b u q
  slot := fun b u q _ _ _ => ⟨u.slots, k b u q⟩
  free := fun b u q n _ => by rw [upd_ne (Nat.ne_of_lt (Nat.lt_of_lt_of_le (Heap.lt_size q) hp))]; exact n
  there := fun b u q _ => ⟨u, k b u q⟩
  tups := fun b xs q => by rw [upd_ne (ne_of_none q hn)]; exact q
  frzs := fun b u xs q => by rw [upd_ne (ne_of_none q hn)]; exact q
  tbls := fun b ps q => ⟨#[], by rw [upd_ne (ne_of_none q hn), q]; simp⟩
theorem Un.write (mu : Mut (H x)) (he : e = x ∨ H e = some (.own x)) (k : ∀ b u, b ≠ e → h.get? b = some u → h'.get? b = some u) (heo : ∃ u, h'.get? e = some u) : Un fs ex H (upd H x o) h h' := by
  have hx : ∀ b, H b = none → b ≠ x := fun b n z => by subst z; rw [n] at mu; exact mu
  have hb : ∀ b, H b = none → b ≠ e := fun b n z => by
    subst z
    rcases he with r | r
    · exact hx b n r
    · rw [n] at r; cases r
  have hm : ∀ b u, H b = some u → ¬ Mut (some u) → b ≠ x := fun b u q nm z => by subst z; rw [q] at mu; exact nm mu
  refine ⟨fun b u q n _ _ => k b u (hb b n) q, fun b u q n _ _ => ⟨u.slots, k b u (hb b n) q⟩, fun b u q n _ => by rw [upd_ne (hx b n)]; exact n, fun b u q _ => ?_,
    fun b xs q => by rw [upd_ne (hm b _ q fun z => z)]; exact q, fun b u xs q => by rw [upd_ne (hm b _ q fun z => z)]; exact q, fun b ps q => ⟨#[], by rw [upd_ne (hm b _ q fun z => z), q]; simp⟩⟩
  by_cases hbe : b = e
  · subst hbe; exact heo
  · exact ⟨u, k b u hbe q⟩
theorem Un.mono (u : Un fs ex H H1 h h1) (hs : ∀ b ∈ fs, b ∈ fs') (hx : ∀ b ∈ ex, b ∈ ex') : Un fs' ex' H H1 h h1 :=
  ⟨fun b ob q n hb he => u.keep b ob q n (fun z => hb (hs b z)) fun z => he (hx b z), fun _ _ q n _ he => u.any q n fun z => he (hx _ z), fun b ob q n he => u.free b ob q n fun z => he (hx b z), fun b ob q he => u.there b ob q fun z => he (hx b z), u.tups, u.frzs, u.tbls⟩
end

/-! ### the heap without what is tracked -/
def trk (h : Heap) (H : Hp) : List Addr := (List.range h.objs.size).filter fun a => (H a).isSome
def hidT (h : Heap) (H : Hp) : Heap := PySem.W.hideAll h (trk h H)
theorem hidT_size (h : Heap) (H : Hp) : (hidT h H).objs.size = h.objs.size := PySem.W.hideAll_size _ _
theorem hidT_get {h : Heap} {H : Hp} {b : Addr} {o : Obj} (e : h.get? b = some o) (n : H b = none) : (hidT h H).get? b = some o :=
  PySem.W.hideAll_get _ e fun hm => by
    have q : (H b).isSome = true := (List.mem_filter.mp hm).2
    rw [n] at q; simp at q
theorem of_hidT {h : Heap} {H : Hp} {b : Addr} {o : Obj} (e : (hidT h H).get? b = some o) : h.get? b = some o ∧ H b = none := by
  have e' : h.get? b = some o := PySem.W.of_hideAll (trk h H) e
  refine ⟨e', ?_⟩
  cases q : H b with
  | none => rfl
  | some x =>
    have hm : b ∈ trk h H := List.mem_filter.mpr ⟨List.mem_range.mpr (Heap.lt_size e'), by simp [q]⟩
    have z : (hidT h H).get? b = none := PySem.W.hideAll_none (trk h H) hm
    rw [z] at e; cases e

/-! ### OpenK's ledger, filled with every new object but one -/
def allNews (g h : Heap) (L : Addr) : List (Addr × Obj) := (List.range h.objs.size).filterMap fun a => if a = L ∨ (g.get? a).isSome = true then none else (h.get? a).map fun o => (a, o)
theorem mem_allNews {g h : Heap} {L a : Addr} {o : Obj} (h1 : a ≠ L) (h2 : g.get? a = none) (h3 : h.get? a = some o) : (a, o) ∈ allNews g h L :=
  List.mem_filterMap.mpr ⟨a, List.mem_range.mpr (Heap.lt_size h3), by simp [h1, h2, h3]⟩
theorem of_mem_allNews {g h : Heap} {L : Addr} {p : Addr × Obj} (hp : p ∈ allNews g h L) : p.1 ≠ L ∧ g.get? p.1 = none ∧ h.get? p.1 = some p.2 := by
  obtain ⟨b, _, e⟩ := List.mem_filterMap.mp hp
  split at e
  · cases e
  · rename_i hn
    cases q : h.get? b with
    | none => rw [q] at e; simp at e
    | some u =>
      rw [q] at e
      simp only [Option.map_some, Option.some.injEq] at e
      subst e
      refine ⟨fun z => hn (.inl z), ?_, q⟩
      show g.get? b = none
      cases r : g.get? b with
      | none => rfl
      | some v => exact (hn (.inr (by simp [r]))).elim
def rest (g h : Heap) (L d : Addr) : List (Addr × Obj) := (allNews g h L).filter fun p => decide (p.1 ≠ d)
theorem rest_ne {g h : Heap} {L d : Addr} : ∀ p ∈ rest g h L d, p.1 ≠ d := fun p hp => of_decide_eq_true (List.mem_filter.mp hp).2
theorem mem_rest {g h : Heap} {L d a : Addr} {o : Obj} (h1 : a ≠ L) (h2 : g.get? a = none) (h3 : h.get? a = some o) (h4 : a ≠ d) : (a, o) ∈ rest g h L d :=
  List.mem_filter.mpr ⟨mem_allNews h1 h2 h3, decide_eq_true h4⟩
theorem news_all {g h : Heap} {L : Addr} : News g L h (allNews g h L) := fun p hp => let ⟨a, b, c⟩ := of_mem_allNews hp; ⟨c, a, b⟩
theorem news_at {g h : Heap} {L d : Addr} {o : Obj} (h1 : d ≠ L) (h2 : g.get? d = none) (h3 : h.get? d = some o) : News g L h ((d, o) :: rest g h L d) := fun p hp => by
  rcases List.mem_cons.mp hp with rfl | hp
  · exact ⟨h3, h1, h2⟩
  · exact news_all p (List.mem_filter.mp hp).1
/-- behind a rule that changed d alone: all else but the frame is kept -/
theorem kept_of_news {g h h' : Heap} {L d : Addr} {m : Str → Option Value} (k : ∀ b o, g.get? b = some o → h.get? b = some o) (F : Fr g L h' m) (N : News g L h' (rest g h L d)) :
    ∀ b o, b ≠ L → b ≠ d → h.get? b = some o → h'.get? b = some o := fun b o h1 h2 e => by
  cases q : g.get? b with
  | some u =>
    have := k b u q
    rw [e] at this; cases this
    exact F.keep b _ q
  | none => exact (N (b, o) (mem_rest h1 q e h2)).1
end L2

namespace L2
open PySem PySem.Spec PyProof.Rows

/-- the module's facts, over the base: the heap at the law's entry without what is tracked there -/
structure Mod (K : PySem.W.Frag) (mg : Str → Option Value) (base : Heap) : Prop where
  kin : K.In base
  glob : base.Ns mainGlobals mg
  blt : ∃ mb, base.Ns builtinsNs mb ∧ ∀ x : Str, x ≠ "__name__" → mb x = bootBuiltins x
  nolimit : base.NoLimit

/-- the context: a def's body (or a comprehension's block) running. base: fixed through the whole law; s₀, H₀: the entry; outer: the frames whose slots others may change (a def's callers); stack: all frames that run;
   ex: iterators that were made ahead of the entry and are walked here (a comprehension's); fn: the names whose cells were made at the entry (a def: all; a comprehension's block: its own); calm: not within an except suite; pn: pins that every state bears; xe: what is wanted of an exception that leaves the code -/
structure Cx where
  prog : Program
  w : World
  K : PySem.W.Frag
  mg : Str → Option Value
  base : Heap
  A : Around
  N : List Str
  s₀ : Shared
  H₀ : Hp
  env : Env
  outer : List Env
  stack : List Env
  ex : List Addr
  fn : Str → Bool
  calm : Bool
  pn : List (Addr × Obj)
  xe : Value → Shared → Prop
/-- the callers' frames -/
def frs (l : List Env) : List Addr := l.filterMap (·.frame)
abbrev Cx.fs (X : Cx) : List Addr := frs X.outer

def Vis (sc : Scope) (x : Str) : Prop := sc.names.lookup x = some .local ∨ sc.names.lookup x = some .cell ∨ sc.names.lookup x = some .free
def Loc (sc : Scope) (x : Str) : Prop := sc.names.lookup x = some .local ∨ sc.names.lookup x = some .cell
def Look (env : Env) (h : Heap) (m : Str → Option Value) (x : Str) (u : Value) : Prop :=
  (env.kindOf x = some .local ∧ m x = some u) ∨ ((env.kindOf x = some .cell ∨ env.kindOf x = some .free) ∧ ∃ c, env.cells.lookup x = some c ∧ h.IsCell c (some u))

structure Cx.Ok (X : Cx) : Prop where
  mod : Mod X.K X.mg X.base
  kind : X.env.scope.kind = .function
  glob : X.env.globals = mainGlobals
  blt : X.env.builtins = builtinsNs
  above : X.s₀.heap.objs.size ≤ X.env.locals
  inj : ∀ x y c, X.env.cells.lookup x = some c → X.env.cells.lookup y = some c → x = y
  has : ∀ x, (X.env.kindOf x = some .cell ∨ X.env.kindOf x = some .free) → ∃ c, X.env.cells.lookup x = some c
  cab : ∀ x c, X.fn x = true → X.env.cells.lookup x = some c → X.s₀.heap.objs.size ≤ c
  hd : X.calm = true → X.A.handled = none
  frames : X.A.frames = some X.stack
  stk : X.stack = X.outer ∨ (X.stack = X.env :: X.outer ∧ X.env.frame = some X.env.locals)
  exf : ∀ b ∈ X.ex, b ≠ X.env.locals ∧ ∀ x c, X.env.cells.lookup x = some c → c ≠ b
  bs : ∀ b o, X.base.get? b = some o → X.s₀.heap.get? b = some o ∧ X.H₀ b = none
  bsz : X.base.objs.size ≤ X.s₀.heap.objs.size
  noex : ∀ b o, X.base.get? b = some o → b ∉ X.ex
  exfs : ∀ b ∈ X.ex, b ∉ X.fs
  funs : X.s₀.heap.FunFrames X.base X.outer
  frf : ∀ b ∈ X.fs, X.H₀ b = none

structure Inv (X : Cx) (pins : List (Addr × Obj)) (σ : List (Option V)) (H : Hp) (s : Shared) : Prop where
  ok : X.Ok
  os : s.os = X.s₀.os
  bare : AllBare s.gens
  base : Un X.fs X.ex X.H₀ H X.s₀.heap s.heap
  loc : ∃ m, s.heap.Ns X.env.locals m ∧ ∀ (i : Nat) (x : Str) (v : V), X.N[i]? = some x → σ[i]? = some (some v) → Vis X.env.scope x → ∃ u, RelV v u ∧ Look X.env s.heap m x u
  cell : ∀ x c, X.env.cells.lookup x = some c → ∃ v, s.heap.IsCell c v
  free : H X.env.locals = none
  freeC : ∀ x c, X.env.cells.lookup x = some c → H c = none
  pin : ∀ p ∈ X.pn ++ pins, s.heap.get? p.1 = some p.2 ∧ H p.1 = none ∧ p.1 ≠ X.env.locals ∧ p.1 ∉ X.fs ∧ ∀ v, p.2.data ≠ .cell v
  hok : HOk X.prog X.w H s.heap
  len : σ.length = X.N.length

section
variable {X : Cx} {pins : List (Addr × Obj)} {σ : List (Option V)} {H H' : Hp} {s : Shared} {h' : Heap}

theorem Cx.Ok.nofr (ok : X.Ok) {b : Addr} {o : Obj} (e : X.base.get? b = some o) : b ∉ X.fs := fun hb => by
  have := (ok.funs.mem hb).1
  rw [e] at this; cases this
theorem Inv.bs (I : Inv X pins σ H s) : ∀ b o, X.base.get? b = some o → s.heap.get? b = some o ∧ H b = none := fun b o e =>
  ⟨I.base.keep b o (I.ok.bs b o e).1 (I.ok.bs b o e).2 (I.ok.nofr e) (I.ok.noex b o e), I.base.free b o (I.ok.bs b o e).1 (I.ok.bs b o e).2 (I.ok.noex b o e)⟩
theorem Inv.bk (I : Inv X pins σ H s) : ∀ b o, X.base.get? b = some o → s.heap.get? b = some o := fun b o e => (I.bs b o e).1
theorem Inv.mod (I : Inv X pins σ H s) : Mod X.K X.mg X.base := I.ok.mod
theorem Inv.kIn (I : Inv X pins σ H s) : X.K.In s.heap := I.ok.mod.kin.keeps I.bk
theorem Inv.nolimit (I : Inv X pins σ H s) : s.heap.NoLimit := I.ok.mod.nolimit.keeps I.bk
/-- the frame over the base: for OpenK's rules (K.In X.base is I.mod.kin) -/
theorem Inv.fr (I : Inv X pins σ H s) : ∃ m, Fr X.base X.env.locals s.heap m :=
  let ⟨m, hn, _⟩ := I.loc
  ⟨m, hn, I.bk, Nat.le_trans I.ok.bsz I.ok.above⟩
theorem Inv.lt (I : Inv X pins σ H s) : X.env.locals < s.heap.objs.size := let ⟨_, hn, _⟩ := I.loc; hn.lt
theorem Inv.sz (I : Inv X pins σ H s) : X.s₀.heap.objs.size ≤ s.heap.objs.size := Nat.le_trans I.ok.above (Nat.le_of_lt I.lt)
theorem Inv.nofs (I : Inv X pins σ H s) {a : Addr} (h : s.heap.objs.size ≤ a) : a ∉ X.fs := fun hb => by
  obtain ⟨_, o, ho, _⟩ := I.ok.funs.mem hb
  exact absurd (Nat.lt_of_lt_of_le (Heap.lt_size ho) (Nat.le_trans I.sz h)) (Nat.lt_irrefl _)
theorem Inv.cne (I : Inv X pins σ H s) : ∀ x c, X.env.cells.lookup x = some c → c ≠ X.env.locals := fun x c e z => by
  obtain ⟨v, o, ho, hd⟩ := I.cell x c e
  obtain ⟨m, ⟨o', es, ep, ho', hd', _⟩, _⟩ := I.loc
  rw [z, ho'] at ho; cases ho; rw [hd'] at hd; cases hd
theorem Inv.funs (I : Inv X pins σ H s) : s.heap.FunFrames X.base X.outer := by
  have all : ∀ (l : List Env), (∀ b ∈ frs l, b ∈ X.fs) → X.s₀.heap.FunFrames X.base l → s.heap.FunFrames X.base l := by
    intro l
    induction l with
    | nil => intro _ _; trivial
    | cons env r ih =>
      intro hs hl
      obtain ⟨hk, ⟨L, o, hf, hn, ho, hd⟩, hr⟩ := hl
      have hL : L ∈ X.fs := hs L (by unfold frs; rw [List.filterMap_cons, hf]; exact List.mem_cons_self)
      obtain ⟨sl, e⟩ := I.base.slot L o ho (I.ok.frf L hL) hL fun z => I.ok.exfs L z hL
      exact ⟨hk, ⟨L, _, hf, hn, e, hd⟩, ih (fun b hb => hs b (by unfold frs; rw [List.filterMap_cons, hf]; exact List.mem_cons_of_mem _ hb)) hr⟩
  exact all X.outer (fun _ hb => hb) I.ok.funs

/-- the frames that run, for a call -/
theorem Inv.stack (I : Inv X pins σ H s) : s.heap.FunFrames X.base X.stack := by
  rcases I.ok.stk with e | ⟨e, hf⟩
  · rw [e]; exact I.funs
  · rw [e]
    obtain ⟨m, hn, _⟩ := I.loc
    refine .cons (by rw [I.ok.kind]; decide) hf hn ?_ I.funs
    exact Heap.get?_none_of_le (Nat.le_trans I.ok.bsz I.ok.above)
theorem Inv.stkSub (I : Inv X pins σ H s) : ∀ b ∈ frs X.stack, b ∈ X.env.locals :: X.fs := fun b hb => by
  rcases I.ok.stk with e | ⟨e, hf⟩
  · rw [e] at hb; exact List.mem_cons_of_mem _ hb
  · rw [e] at hb
    unfold frs at hb
    rw [List.filterMap_cons, hf] at hb
    exact hb
theorem Inv.stkFree (I : Inv X pins σ H s) : ∀ b ∈ frs X.stack, H b = none := fun b hb => by
  rcases List.mem_cons.mp (I.stkSub b hb) with e | hb
  · rw [e]; exact I.free
  · obtain ⟨_, o, ho, _⟩ := I.ok.funs.mem hb
    exact I.base.free b o ho (I.ok.frf b hb) fun z => I.ok.exfs b z hb

/-- THE STEP: the untracked objects but the frame and the records at ch are kept (the callers' frames up to slots), the frame's map is kept, the new abstract heap is held -/
theorem Inv.step {g' : Array GenState} {t' : Nat} {d' : Drawn} {ch : List Addr} (I : Inv X pins σ H s)
    (hch : ∀ b ∈ ch, (b ∈ X.ex ∨ X.s₀.heap.objs.size ≤ b) ∧ b ≠ X.env.locals ∧ (∀ x c, X.env.cells.lookup x = some c → c ≠ b) ∧ ∀ p ∈ X.pn ++ pins, p.1 ≠ b)
    (keep : ∀ b o, b ≠ X.env.locals → b ∉ X.fs → b ∉ ch → s.heap.get? b = some o → H b = none → h'.get? b = some o)
    (slot : ∀ b o, b ≠ X.env.locals → b ∈ X.fs → b ∉ ch → s.heap.get? b = some o → H b = none → ∃ sl, h'.get? b = some { o with slots := sl }) (free : ∀ b o, b ∉ ch → s.heap.get? b = some o → H b = none → H' b = none)
    (there : ∀ b o, b ∉ ch → s.heap.get? b = some o → ∃ o', h'.get? b = some o')
    (tups : ∀ b xs, H b = some (.tup xs) → H' b = some (.tup xs)) (frzs : ∀ b o u, H b = some (.frz o u) → H' b = some (.frz o u)) (tbls : ∀ b ps, H b = some (.tbl ps) → ∃ more, H' b = some (.tbl (ps ++ more)))
    (ns : ∀ m, s.heap.Ns X.env.locals m → h'.Ns X.env.locals m) (hok : HOk X.prog X.w H' h') (hg : AllBare g') :
    Inv X pins σ H' { s with heap := h', gens := g', drawn := d', toks := t' } := by
  have neL : ∀ b o, X.s₀.heap.get? b = some o → b ≠ X.env.locals := fun b o e => Nat.ne_of_lt (Nat.lt_of_lt_of_le (Heap.lt_size e) I.ok.above)
  have neC : ∀ b o, X.s₀.heap.get? b = some o → b ∉ X.ex → b ∉ ch := fun b o e hx hb => by
    rcases (hch b hb).1 with z | z
    · exact hx z
    · exact absurd (Nat.lt_of_lt_of_le (Heap.lt_size e) z) (Nat.lt_irrefl _)
  have cellK : ∀ x c, X.env.cells.lookup x = some c → ∀ v, s.heap.IsCell c v → h'.IsCell c v := fun x c e v ⟨o, ho, hd⟩ => by
    have nch : c ∉ ch := fun z => (hch c z).2.2.1 x c e rfl
    by_cases hc : c ∈ X.fs
    · obtain ⟨sl, q⟩ := slot c o (I.cne x c e) hc nch ho (I.freeC x c e)
      exact ⟨_, q, hd⟩
    · exact ⟨o, keep c o (I.cne x c e) hc nch ho (I.freeC x c e), hd⟩
  refine ⟨I.ok, I.os, hg, ⟨fun b o e n hb hx => ?_, fun b o e n hb hx => ?_, fun b o e n hx => ?_, fun b o e hx => ?_, fun b xs e => tups b xs (I.base.tups b xs e), fun b o xs e => frzs b o xs (I.base.frzs b o xs e), fun b ps e => ?_⟩, ?_, fun x c e => ?_, ?_, fun x c e => ?_, fun p hp => ?_, hok, I.len⟩
  · exact keep b o (neL b o e) hb (neC b o e hx) (I.base.keep b o e n hb hx) (I.base.free b o e n hx)
  · obtain ⟨sl, e1⟩ := I.base.slot b o e n hb hx
    obtain ⟨sl', e2⟩ := slot b _ (neL b o e) hb (neC b o e hx) e1 (I.base.free b o e n hx)
    exact ⟨sl', e2⟩
  · obtain ⟨o', e1⟩ := I.base.there b o e hx
    exact free b o' (neC b o e hx) e1 (I.base.free b o e n hx)
  · obtain ⟨o', e1⟩ := I.base.there b o e hx
    exact there b o' (neC b o e hx) e1
  · obtain ⟨m1, e1⟩ := I.base.tbls b ps e
    obtain ⟨m2, e2⟩ := tbls b _ e1
    exact ⟨m1 ++ m2, by rw [e2, Array.append_assoc]⟩
  · obtain ⟨m, hn, hl⟩ := I.loc
    refine ⟨m, ns m hn, fun i x v e1 e2 e3 => ?_⟩
    obtain ⟨u, r, l⟩ := hl i x v e1 e2 e3
    refine ⟨u, r, ?_⟩
    rcases l with l | ⟨k, c, e, z⟩
    · exact .inl l
    · exact .inr ⟨k, c, e, cellK x c e _ z⟩
  · obtain ⟨v, z⟩ := I.cell x c e
    exact ⟨v, cellK x c e v z⟩
  · obtain ⟨m, ⟨o, _, _, ho, _⟩, _⟩ := I.loc
    exact free _ o (fun z => (hch _ z).2.1 rfl) ho I.free
  · obtain ⟨v, o, ho, hd⟩ := I.cell x c e
    exact free c o (fun z => (hch c z).2.2.1 x c e rfl) ho (I.freeC x c e)
  · obtain ⟨e, n, ne, nf, d⟩ := I.pin p hp
    have nch : p.1 ∉ ch := fun z => (hch p.1 z).2.2.2 p hp rfl
    exact ⟨keep p.1 p.2 ne nf nch e n, free p.1 p.2 nch e n, ne, nf, d⟩
/-- .. where the frame's own object is kept too -/
theorem Inv.un {t' : Nat} (I : Inv X pins σ H s) (u : Un X.fs [] H H' s.heap h') (hok : HOk X.prog X.w H' h') : Inv X pins σ H' { s with heap := h', toks := t' } := by
  obtain ⟨m, ⟨o, es, ep, ho, r⟩, _⟩ := id I.loc
  obtain ⟨sl, hL⟩ := u.any ho I.free (by simp)
  exact I.step (g' := s.gens) (d' := s.drawn) (ch := []) (fun _ z => nomatch z) (fun b o _ hb _ e n => u.keep b o e n hb (by simp)) (fun b o _ hb _ e n => u.slot b o e n hb (by simp)) (fun b o _ e n => u.free b o e n (by simp)) (fun b o _ e => u.there b o e (by simp)) u.tups u.frzs u.tbls (fun m' hm => by
    obtain ⟨o', es', ep', ho', r'⟩ := hm
    rw [ho] at ho'; cases ho'
    exact ⟨_, es', ep', hL, r'⟩) hok I.bare
/-- behind a call (or a comprehension's block): the slots of this frame may have changed too, the records at ch may have turned -/
theorem Inv.call {g' : Array GenState} {t' : Nat} {d' : Drawn} {ch : List Addr} (I : Inv X pins σ H s) (u : Un (frs X.stack) ch H H' s.heap h') (hok : HOk X.prog X.w H' h') (hg : AllBare g')
    (hch : ∀ b ∈ ch, (b ∈ X.ex ∨ X.s₀.heap.objs.size ≤ b) ∧ b ≠ X.env.locals ∧ (∀ x c, X.env.cells.lookup x = some c → c ≠ b) ∧ ∀ p ∈ X.pn ++ pins, p.1 ≠ b) :
    Inv X pins σ H' { s with heap := h', gens := g', drawn := d', toks := t' } := by
  obtain ⟨m, ⟨o, es, ep, ho, r⟩, _⟩ := id I.loc
  obtain ⟨sl, hL⟩ := u.any ho I.free fun z => (hch _ z).2.1 rfl
  exact I.step (ch := ch) hch (fun b o hL hb hc e n => u.keep b o e n (fun z => (List.mem_cons.mp (I.stkSub b z)).elim hL hb) hc) (fun b o _ _ hc e n => u.any e n hc) (fun b o hc e n => u.free b o e n hc) (fun b o hc e => u.there b o e hc) u.tups u.frzs u.tbls (fun m' hm => by
    obtain ⟨o', es', ep', ho', r'⟩ := hm
    rw [ho] at ho'; cases ho'
    exact ⟨_, es', ep', hL, r'⟩) hok hg
/-- an untracked record of ours (an iterator) has turned -/
theorem Inv.turned {t' : Nat} {it : Addr} (I : Inv X pins σ H s) (k : ∀ b o, b ≠ it → s.heap.get? b = some o → h'.get? b = some o) (hn : H it = none) (hL : it ≠ X.env.locals)
    (h1 : it ∈ X.ex ∨ X.s₀.heap.objs.size ≤ it) (h2 : ∀ x c, X.env.cells.lookup x = some c → c ≠ it) (h3 : ∀ p ∈ X.pn ++ pins, p.1 ≠ it) : Inv X pins σ H { s with heap := h', toks := t' } := by
  have nit : ∀ b u, H b = some u → b ≠ it := fun b u e z => by rw [z, hn] at e; cases e
  refine I.step (g' := s.gens) (d' := s.drawn) (ch := [it]) (fun b hb => ?_) (fun b o _ _ hc e _ => k b o (fun z => hc (by simp [z])) e) (fun b o _ _ hc e _ => ⟨o.slots, k b o (fun z => hc (by simp [z])) e⟩) (fun _ _ _ _ n => n)
    (fun b o hc e => ⟨o, k b o (fun z => hc (by simp [z])) e⟩) (fun _ _ e => e) (fun _ _ _ e => e) (fun b ps e => ⟨#[], by rw [e]; simp⟩) (fun m hm => ?_) (fun b u e => ?_) I.bare
  · have e : b = it := by simpa using hb
    subst e
    exact ⟨h1, hL, h2, h3⟩
  · obtain ⟨o, es, ep, ho, r⟩ := hm
    exact ⟨o, es, ep, k _ o (Ne.symm hL) ho, r⟩
  · refine (I.hok b u e).stay (fun c v hc q => k c v ?_ q) (fun _ q => q) fun _ _ q => q
    rcases hc with z | z
    · rw [z]; exact nit b u e
    · exact nit c _ z
theorem Inv.tok (I : Inv X pins σ H s) (t : Nat) : Inv X pins σ H { s with toks := t } := I.un (h' := s.heap) (t' := t) Un.refl I.hok
/-- all objects kept -/
theorem Inv.kept {t' : Nat} (I : Inv X pins σ H s) (k : ∀ b u, s.heap.get? b = some u → h'.get? b = some u) : Inv X pins σ H { s with heap := h', toks := t' } := I.un (Un.kept k) (I.hok.kept k)
/-- a new object laid and tracked -/
theorem Inv.laid {a : Addr} {o : HO} {t' : Nat} (I : Inv X pins σ H s) (k : ∀ b u, s.heap.get? b = some u → h'.get? b = some u) (hp : s.heap.objs.size ≤ a) (new : ObjOk X.prog X.w (upd H a o) h' a o) :
    Inv X pins σ (upd H a o) { s with heap := h', toks := t' } := I.un (Un.laid k hp (I.hok.fresh hp)) (I.hok.laid k hp new)
/-- an object written -/
theorem Inv.write {x e : Addr} {o : HO} {t' : Nat} (I : Inv X pins σ H s) (mu : Mut (H x)) (he : e = x ∨ H e = some (.own x)) (k : ∀ b u, b ≠ e → s.heap.get? b = some u → h'.get? b = some u) (heo : ∃ u, h'.get? e = some u)
    (new : ObjOk X.prog X.w (upd H x o) h' x o) : Inv X pins σ (upd H x o) { s with heap := h', toks := t' } := I.un (Un.write mu he k heo) (I.hok.write mu he k heo new)
/-- forgetting slots, pins -/
theorem Inv.weak {σ' : List (Option V)} (I : Inv X pins σ H s) (hl : σ'.length = σ.length) (w : ∀ (i : Nat) v, σ'[i]? = some (some v) → σ[i]? = some (some v)) : Inv X pins σ' H s :=
  ⟨I.ok, I.os, I.bare, I.base, let ⟨m, hn, hl'⟩ := I.loc; ⟨m, hn, fun i x v e1 e2 e3 => hl' i x v e1 (w i v e2) e3⟩, I.cell, I.free, I.freeC, I.pin, I.hok, hl.trans I.len⟩
theorem Inv.pins_of {pins' : List (Addr × Obj)} (I : Inv X pins σ H s) (h : ∀ p ∈ pins', s.heap.get? p.1 = some p.2 ∧ H p.1 = none ∧ p.1 ≠ X.env.locals ∧ p.1 ∉ X.fs ∧ ∀ v, p.2.data ≠ .cell v) : Inv X pins' σ H s :=
  ⟨I.ok, I.os, I.bare, I.base, I.loc, I.cell, I.free, I.freeC, fun p hp => (List.mem_append.mp hp).elim (fun z => I.pin p (List.mem_append_left _ z)) (h p), I.hok, I.len⟩

theorem nodup_ix {N : List Str} (hN : N.Nodup) {i j : Nat} {x : Str} (a : N[i]? = some x) (b : N[j]? = some x) : i = j := by
  obtain ⟨h1, e1⟩ := List.getElem?_eq_some_iff.mp a
  obtain ⟨h2, e2⟩ := List.getElem?_eq_some_iff.mp b
  exact (List.getElem_inj hN).mp (e1.trans e2.symm)

/-- a name is stored; what changed -/
theorem store_ok2 {M : Model} {A : Around} {E : Value → Shared → Prop} {i : Nat} {x : Str} {v : V} {u : Value} {Q : Unit → Shared → Prop} (I : Inv X pins σ H s) (hN : X.N.Nodup) (hi : X.N[i]? = some x) (hx : Loc X.env.scope x) (r : RelV v u)
    (h : ∀ s', Inv X pins (σ.set i (some v)) H s' → (∃ a, Heap.SameBut a s.heap s'.heap ∧ (a = X.env.locals ∨ X.env.cells.lookup x = some a)) → Q () s') (hf : X.fn x = true ∨ X.env.scope.names.lookup x = some .local := by first | exact .inl rfl | exact .inr rfl | assumption) : wpAny M A (storeName X.env x u) Q E s := by
  obtain ⟨m, hn, hl⟩ := id I.loc
  have hcls : (X.env.scope.kind == .class || (X.env.scope.kind == .module && X.env.locals != X.env.globals)) = false := by rw [I.ok.kind]; rfl
  have hiσ : i < σ.length := by rw [I.len]; exact (List.getElem?_eq_some_iff.mp hi).1
  have cne := I.cne
  have tracked : ∀ {a : Addr} {h' : Heap}, (∃ o, s.heap.get? a = some o ∧ H a = none) → Heap.SameBut a s.heap h' → HOk X.prog X.w H h' := fun {a h'} ha hs b ob e => by
    obtain ⟨_, _, hfree⟩ := ha
    refine (I.hok b ob e).stay (fun c w' hc q => (hs.2 c ?_).trans q) (fun _ q => q) fun _ _ q => q
    rintro rfl
    rcases hc with rfl | hc
    · rw [hfree] at e; cases e
    · rw [hfree] at hc; cases hc
  rcases hx with hk | hk
  · refine wpAny_storeName_local hk hn (fun h' hn' hs => ?_) hcls
    obtain ⟨oL, _, _, hoL, _⟩ := id hn
    refine h _ ⟨I.ok, I.os, I.bare, ⟨fun b o e n hb hx => ?_, fun b o e n hb hx => ?_, I.base.free, fun b o e hx => ?_, I.base.tups, I.base.frzs, I.base.tbls⟩, ⟨_, hn', fun j y v' e1 e2 e3 => ?_⟩, fun y c e => ?_, I.free, I.freeC, fun p hp => ?_, tracked ⟨oL, hoL, I.free⟩ hs, by simpa using I.len⟩ ⟨_, hs, .inl rfl⟩
    · exact (hs.2 b (Nat.ne_of_lt (Nat.lt_of_lt_of_le (Heap.lt_size e) I.ok.above))).trans (I.base.keep b o e n hb hx)
    · obtain ⟨sl, e1⟩ := I.base.slot b o e n hb hx
      exact ⟨sl, (hs.2 b (Nat.ne_of_lt (Nat.lt_of_lt_of_le (Heap.lt_size e) I.ok.above))).trans e1⟩
    · obtain ⟨o', e1⟩ := I.base.there b o e hx
      exact ⟨o', (hs.2 b (Nat.ne_of_lt (Nat.lt_of_lt_of_le (Heap.lt_size e) I.ok.above))).trans e1⟩
    · by_cases hj : j = i
      · subst hj
        rw [hi] at e1; cases e1
        rw [List.getElem?_set_self hiσ] at e2
        cases e2
        exact ⟨u, r, .inl ⟨hk, by simp⟩⟩
      · rw [List.getElem?_set_ne (Ne.symm hj)] at e2
        obtain ⟨u', r', q⟩ := hl j y v' e1 e2 e3
        refine ⟨u', r', ?_⟩
        rcases q with ⟨k, e⟩ | ⟨k, c, e, z⟩
        · refine .inl ⟨k, ?_⟩
          have : y ≠ x := fun e => hj (nodup_ix hN e1 (e ▸ hi))
          simp [this, e]
        · exact .inr ⟨k, c, e, z.sameBut hs (cne y c e)⟩
    · obtain ⟨w', z⟩ := I.cell y c e
      exact ⟨w', z.sameBut hs (cne y c e)⟩
    · obtain ⟨e, n, ne, nf, d⟩ := I.pin p hp
      exact ⟨(hs.2 p.1 ne).trans e, n, ne, nf, d⟩
  · have hfn : X.fn x = true := by
      rcases hf with z | z
      · exact z
      · rw [z] at hk; cases hk
    obtain ⟨c, hc⟩ := I.ok.has x (.inl hk)
    obtain ⟨w', z⟩ := I.cell x c hc
    refine wpAny_storeName_cell I.ok.kind hk hc z (fun h' hc' hs => ?_)
    obtain ⟨oc, hoc, hocd⟩ := id z
    refine h { s with heap := h' } ⟨I.ok, I.os, I.bare, ⟨fun b o e n hb hx => ?_, fun b o e n hb hx => ?_, I.base.free, fun b o e hx => ?_, I.base.tups, I.base.frzs, I.base.tbls⟩, ⟨m, hn.sameBut hs (Ne.symm (cne x c hc)), fun j y v' e1 e2 e3 => ?_⟩, fun y c' e => ?_, I.free, I.freeC, fun p hp => ?_, tracked ⟨oc, hoc, I.freeC x c hc⟩ hs, by simpa using I.len⟩ ⟨c, hs, .inr hc⟩
    · exact (hs.2 b (Nat.ne_of_lt (Nat.lt_of_lt_of_le (Heap.lt_size e) (I.ok.cab x c hfn hc)))).trans (I.base.keep b o e n hb hx)
    · obtain ⟨sl, e1⟩ := I.base.slot b o e n hb hx
      exact ⟨sl, (hs.2 b (Nat.ne_of_lt (Nat.lt_of_lt_of_le (Heap.lt_size e) (I.ok.cab x c hfn hc)))).trans e1⟩
    · obtain ⟨o', e1⟩ := I.base.there b o e hx
      exact ⟨o', (hs.2 b (Nat.ne_of_lt (Nat.lt_of_lt_of_le (Heap.lt_size e) (I.ok.cab x c hfn hc)))).trans e1⟩
    · by_cases hj : j = i
      · subst hj
        rw [hi] at e1; cases e1
        rw [List.getElem?_set_self hiσ] at e2
        cases e2
        exact ⟨u, r, .inr ⟨.inl hk, c, hc, hc'⟩⟩
      · rw [List.getElem?_set_ne (Ne.symm hj)] at e2
        obtain ⟨u', r', q⟩ := hl j y v' e1 e2 e3
        refine ⟨u', r', ?_⟩
        rcases q with q | ⟨k, c', e, z'⟩
        · exact .inl q
        · refine .inr ⟨k, c', e, z'.sameBut hs ?_⟩
          rintro rfl
          exact hj (nodup_ix hN e1 (I.ok.inj _ _ _ e hc ▸ hi))
    · by_cases hcc : c' = c
      · subst hcc; exact ⟨_, hc'⟩
      · obtain ⟨w2, z2⟩ := I.cell y c' e
        exact ⟨w2, z2.sameBut hs hcc⟩
    · obtain ⟨e, n, ne, nf, d⟩ := I.pin p hp
      refine ⟨(hs.2 p.1 ?_).trans e, n, ne, nf, d⟩
      intro q
      rw [q, hoc] at e
      have q' : oc = p.2 := Option.some.inj e
      exact d w' (by rw [← q']; exact hocd)
theorem store_ok {M : Model} {A : Around} {E : Value → Shared → Prop} {i : Nat} {x : Str} {v : V} {u : Value} {Q : Unit → Shared → Prop} (I : Inv X pins σ H s) (hN : X.N.Nodup) (hi : X.N[i]? = some x) (hx : Loc X.env.scope x) (r : RelV v u)
    (h : ∀ s', Inv X pins (σ.set i (some v)) H s' → Q () s') (hf : X.fn x = true ∨ X.env.scope.names.lookup x = some .local := by first | exact .inl rfl | exact .inr rfl | assumption) : wpAny M A (storeName X.env x u) Q E s :=
  store_ok2 I hN hi hx r (fun s' I' _ => h s' I') hf
/-- behind a call or a block, the state as it is -/
theorem Inv.call' {s' : Shared} {ch : List Addr} (I : Inv X pins σ H s) (ho : s'.os = s.os) (u : Un (frs X.stack) ch H H' s.heap s'.heap) (hok : HOk X.prog X.w H' s'.heap) (hg : AllBare s'.gens)
    (hch : ∀ b ∈ ch, (b ∈ X.ex ∨ X.s₀.heap.objs.size ≤ b) ∧ b ≠ X.env.locals ∧ (∀ x c, X.env.cells.lookup x = some c → c ≠ b) ∧ ∀ p ∈ X.pn ++ pins, p.1 ≠ b) : Inv X pins σ H' s' := by
  obtain ⟨h', g', d', t', o'⟩ := s'
  have e : o' = s.os := ho
  subst e
  exact I.call (g' := g') (t' := t') (d' := d') u hok hg hch
end

/-! ### the judgements -/
/-- an exception: its class, its own dict's address (where it has one), the abstract heap behind it -/
abbrev XK := Value → Option Addr → Hp → Prop
abbrev St := List (Option V)
abbrev VK := V → Hp → Prop
/-- an expression's reading; a test's; an argument list's -/
abbrev TE := St → Hp → VK → Prop
abbrev TT := St → Hp → (Bool → Hp → Prop) → Prop
abbrev TA := St → Hp → (List V → Hp → Prop) → Prop
/-- what is wanted behind a statement -/
structure Ends where
  nx : St → Hp → Prop
  rt : VK
  bk : St → Hp → Prop := fun _ _ => False
  ct : St → Hp → Prop := fun _ _ => False
abbrev TS := Ends → St → Hp → Prop

def EP (X : Cx) (pins : List (Addr × Obj)) (σ : St) (Q : VK) (u : Value) (s' : Shared) : Prop := ∃ v H', Inv X pins σ H' s' ∧ RelV v u ∧ Q v H'
def TP (X : Cx) (pins : List (Addr × Obj)) (σ : St) (Q : Bool → Hp → Prop) (b : Bool) (s' : Shared) : Prop := ∃ H', Inv X pins σ H' s' ∧ Q b H'
def AP (X : Cx) (pins : List (Addr × Obj)) (σ : St) (Q : List V → Hp → Prop) (us : List Value) (s' : Shared) : Prop := ∃ vs H', Inv X pins σ H' s' ∧ Vals vs us ∧ Q vs H'
def SP (X : Cx) (pins : List (Addr × Obj)) (D : Ends) (f : Flow) (s' : Shared) : Prop :=
  match f with
  | .next => ∃ σ' H', Inv X pins σ' H' s' ∧ D.nx σ' H'
  | .brk => ∃ σ' H', Inv X pins σ' H' s' ∧ D.bk σ' H'
  | .cont => ∃ σ' H', Inv X pins σ' H' s' ∧ D.ct σ' H'
  | .ret u => ∃ v σ' H', Inv X pins σ' H' s' ∧ RelV v u ∧ D.rt v H'

def PE (X : Cx) (e : Expr) (t : TE) : Prop :=
  ∀ (pins : List (Addr × Obj)) (s : Shared) (σ : St) (H : Hp) (Q : VK), Inv X pins σ H s → t σ H Q → wpAny (model X.prog X.w) X.A (eval e X.env) (EP X pins σ Q) X.xe s
def PT (X : Cx) (e : Expr) (t : TT) : Prop :=
  ∀ (pins : List (Addr × Obj)) (s : Shared) (σ : St) (H : Hp) (Q : Bool → Hp → Prop), Inv X pins σ H s → t σ H Q → wpAny (model X.prog X.w) X.A (isTrue e X.env (eval e X.env)) (TP X pins σ Q) X.xe s
/-- a test whatever its 'whole' is (and, or) -/
def PW (X : Cx) (e : Expr) (t : TT) : Prop :=
  ∀ (whole : Sem Value) (pins : List (Addr × Obj)) (s : Shared) (σ : St) (H : Hp) (Q : Bool → Hp → Prop), Inv X pins σ H s → t σ H Q → wpAny (model X.prog X.w) X.A (isTrue e X.env whole) (TP X pins σ Q) X.xe s
theorem PW.pt {X : Cx} {e : Expr} {t : TT} (h : PW X e t) : PT X e t := h _
/-- an argument list (no star), from the left -/
def PA (X : Cx) (es : List Expr) (t : TA) : Prop :=
  ∀ (pos : Pos) (pins : List (Addr × Obj)) (s : Shared) (σ : St) (H : Hp) (Q : List V → Hp → Prop), Inv X pins σ H s → t σ H Q → wpAny (model X.prog X.w) X.A (spliced (backTo pos (starEach es X.env))) (AP X pins σ Q) X.xe s
def PS (X : Cx) (st : Stmt) (t : TS) : Prop :=
  ∀ (pins : List (Addr × Obj)) (s : Shared) (σ : St) (H : Hp) (D : Ends), Inv X pins σ H s → t D σ H → wpAny (model X.prog X.w) X.A (exec st X.env) (SP X pins D) X.xe s
def PSs (X : Cx) (st : List Stmt) (t : TS) : Prop :=
  ∀ (pins : List (Addr × Obj)) (s : Shared) (σ : St) (H : Hp) (D : Ends), Inv X pins σ H s → t D σ H → wpAny (model X.prog X.w) X.A (execs st X.env) (SP X pins D) X.xe s
/-- weaken the end -/
theorem thn {α : Type} {t : Sem α} {Q Q' : α → Shared → Prop} {M : Model} {A : Around} {E : Value → Shared → Prop} {s : Shared} (h : wpAny M A t Q E s) (hQ : ∀ a s, Q a s → Q' a s) : wpAny M A t Q' E s := wpAny_mono h hQ fun _ _ x => x
end L2

namespace L2
open PySem PySem.Spec PyProof.Rows
section
variable {X : Cx}

/-- two expressions in a row -/
theorem bin {a b : Expr} {ta tb : TE} (ha : PE X a ta) (hb : PE X b tb) {pins : List (Addr × Obj)} {s : Shared} {σ : St} {H : Hp} {R : V → V → Hp → Prop} (I : Inv X pins σ H s) (h : ta σ H fun x H1 => tb σ H1 fun y H2 => R x y H2)
    {α : Type} {Q : α → Shared → Prop} {f : Value → Value → Sem α}
    (hf : ∀ v u s2 x y H2, Inv X pins σ H2 s2 → RelV x v → RelV y u → R x y H2 → wpAny (model X.prog X.w) X.A (f v u) Q X.xe s2) :
    wpAny (model X.prog X.w) X.A (eval a X.env) (fun v s₁ => wpAny (model X.prog X.w) X.A (eval b X.env) (fun u s₂ => wpAny (model X.prog X.w) X.A (f v u) Q X.xe s₂) X.xe s₁) X.xe s := by
  refine thn (ha pins s σ H _ I h) fun v s1 ⟨x, H1, I1, r1, q1⟩ => ?_
  refine thn (hb pins s1 σ H1 _ I1 q1) fun u s2 ⟨y, H2, I2, r2, q2⟩ => ?_
  exact hf v u s2 x y H2 I2 r1 r2 q2

/-! ### names and constants -/
def tVar (i : Nat) : TE := fun σ H Q => ∃ v, σ[i]? = some (some v) ∧ Q v H
def tC (v : V) : TE := fun _ H Q => Q v H
theorem pe_var {i : Nat} {x : Str} {pos : Pos} (hN : X.N[i]? = some x) (hv : Vis X.env.scope x) (hd : (x == ("__debug__" : Str)) = false := by decide) (hcd : (x == ("__classdict__" : Str)) = false := by decide) : PE X (.Name x pos) (tVar i) := by
  intro pins s σ H Q I h
  obtain ⟨v, e, h⟩ := h
  obtain ⟨m, hn, hl⟩ := I.loc
  obtain ⟨u, r, l⟩ := hl i x v hN e hv
  have fin : EP X pins σ Q u s := ⟨v, H, I, r, h⟩
  rcases l with ⟨hk, hm⟩ | ⟨hk, c, hc, hcell⟩
  · exact wpAny_Name (wpAny_loadName_local I.ok.kind hk hn hm fin) hd
  · rcases hk with hk | hk
    · exact wpAny_Name (wpAny_loadName_cell I.ok.kind hk hc hcell fin) hd
    · exact wpAny_Name (wpAny_loadName_free I.ok.kind hk hc hcell fin hcd) hd
theorem pe_int {i j pos} : PE X (.Constant (.int i) j pos) (tC (.int i)) := fun _ _ _ H _ I h => wpAny_Constant_int ⟨.int i, H, I.tok _, ⟨_, rfl⟩, h⟩
theorem pe_bl {b j pos} : PE X (.Constant (.bool b) j pos) (tC (.bl b)) := fun _ _ _ H _ I h => Constant_bool ⟨.bl b, H, I, rfl, h⟩
theorem pe_non {j pos} : PE X (.Constant .none j pos) (tC .non) := fun _ _ _ H _ I h => Constant_none ⟨.non, H, I, rfl, h⟩
theorem pe_str {x j pos} : PE X (.Constant (.str x) j pos) (tC (.str x)) := fun _ _ _ H _ I h => Calls.Constant_str ⟨.str x, H, I.tok _, ⟨_, rfl⟩, h⟩

/-- a global name of the def -/
def Gl (X : Cx) (x : Str) : Prop := X.env.kindOf x = some .globalImplicit
theorem ld_glob {E : Value → Shared → Prop} {pins : List (Addr × Obj)} {s : Shared} {σ : St} {H : Hp} {x : Str} {u : Value} {pos : Pos} {Q : Value → Shared → Prop} (I : Inv X pins σ H s) (hg : Gl X x) (hm : X.mg x = some u) (h : Q u s)
    (hd : (x == ("__debug__" : Str)) = false := by decide) : wpAny (model X.prog X.w) X.A (eval (.Name x pos) X.env) Q E s :=
  Calls.Name_function_global I.ok.kind hg (Calls.loadGlobal_global (by rw [I.ok.glob]; exact I.mod.glob.keeps I.bk) hm h) hd
theorem ld_blt {E : Value → Shared → Prop} {pins : List (Addr × Obj)} {s : Shared} {σ : St} {H : Hp} {x : Str} {u : Value} {pos : Pos} {Q : Value → Shared → Prop} (I : Inv X pins σ H s) (hg : Gl X x) (hm : X.mg x = none) (hv : bootBuiltins x = some u) (h : Q u s)
    (hn : x ≠ "__name__" := by decide) (hd : (x == ("__debug__" : Str)) = false := by decide) : wpAny (model X.prog X.w) X.A (eval (.Name x pos) X.env) Q E s := by
  obtain ⟨mb, h1, h2⟩ := I.mod.blt
  exact Calls.Name_function_global I.ok.kind hg (Calls.loadGlobal_builtin (by rw [I.ok.glob]; exact I.mod.glob.keeps I.bk) hm (by rw [I.ok.blt]; exact h1.keeps I.bk) ((h2 x hn).trans hv) h) hd
/-- a module's constant, a class, a function, as a value -/
theorem pe_glob {x : Str} {v : V} {u : Value} {pos : Pos} (hg : Gl X x) (hm : X.mg x = some u) (r : RelV v u) (hd : (x == ("__debug__" : Str)) = false := by decide) : PE X (.Name x pos) (tC v) :=
  fun _ _ _ H _ I h => ld_glob I hg hm ⟨v, H, I, r, h⟩ hd
theorem pe_bltn {x : Str} {v : V} {u : Value} {pos : Pos} (hg : Gl X x) (hm : X.mg x = none) (hv : bootBuiltins x = some u) (r : RelV v u) (hn : x ≠ "__name__" := by decide) (hd : (x == ("__debug__" : Str)) = false := by decide) : PE X (.Name x pos) (tC v) :=
  fun _ _ _ H _ I h => ld_blt I hg hm hv ⟨v, H, I, r, h⟩ hn hd

/-! ### arithmetic -/
/-- two ints -/
def t2I (ta tb : TE) (k : Int → Int → Hp → Prop) : St → Hp → Prop := fun σ H => ta σ H fun x H1 => tb σ H1 fun y H2 => ∃ i j, x = .int i ∧ y = .int j ∧ k i j H2
def tAdd (ta tb : TE) : TE := fun σ H Q => t2I ta tb (fun i j H2 => Q (.int (i + j)) H2) σ H
def tSub (ta tb : TE) : TE := fun σ H Q => t2I ta tb (fun i j H2 => Q (.int (i - j)) H2) σ H
/-- the left factor below 2^64 -/
def tMul (ta tb : TE) : TE := fun σ H Q => t2I ta tb (fun i j H2 => (-(2 ^ 64) < i ∧ i < 2 ^ 64) ∧ Q (.int (i * j)) H2) σ H
variable {a b : Expr} {ta tb : TE} {pos : Pos}
theorem pe_add (ha : PE X a ta) (hb : PE X b tb) : PE X (.BinOp a .Add b pos) (tAdd ta tb) := by
  intro pins s σ H Q I h
  refine wpAny_BinOp (bin ha hb I h fun v u s2 x y H2 I2 rx ry q => ?_)
  obtain ⟨i, j, rfl, rfl, q⟩ := q
  obtain ⟨t, rfl⟩ := rx
  obtain ⟨t', rfl⟩ := ry
  exact add_int ⟨.int _, H2, I2.tok _, ⟨_, rfl⟩, q⟩
theorem pe_sub (ha : PE X a ta) (hb : PE X b tb) : PE X (.BinOp a .Sub b pos) (tSub ta tb) := by
  intro pins s σ H Q I h
  refine wpAny_BinOp (bin ha hb I h fun v u s2 x y H2 I2 rx ry q => ?_)
  obtain ⟨i, j, rfl, rfl, q⟩ := q
  obtain ⟨t, rfl⟩ := rx
  obtain ⟨t', rfl⟩ := ry
  exact sub_int ⟨.int _, H2, I2.tok _, ⟨_, rfl⟩, q⟩
theorem pe_mul (ha : PE X a ta) (hb : PE X b tb) : PE X (.BinOp a .Mult b pos) (tMul ta tb) := by
  intro pins s σ H Q I h
  refine wpAny_BinOp (bin ha hb I h fun v u s2 x y H2 I2 rx ry q => ?_)
  obtain ⟨i, j, rfl, rfl, ⟨q1, q2⟩, q⟩ := q
  obtain ⟨t, rfl⟩ := rx
  obtain ⟨t', rfl⟩ := ry
  exact mul_int ⟨.int _, H2, I2.tok _, ⟨_, rfl⟩, q⟩ (.of_left (intBits_le_64 q1 q2))

/-! ### comparisons -/
def PC (X : Cx) (op : CmpOp) (a b : Expr) (t : TE) : Prop :=
  ∀ (pins : List (Addr × Obj)) (s : Shared) (σ : St) (H : Hp) (Q : VK), Inv X pins σ H s → t σ H Q →
    wpAny (model X.prog X.w) X.A (eval a X.env) (fun v s₁ => wpAny (model X.prog X.w) X.A (eval b X.env) (fun u s₂ => wpAny (model X.prog X.w) X.A (compareOp op v u) (EP X pins σ Q) X.xe s₂) X.xe s₁) X.xe s
theorem nobehind (b : Expr) {op : CmpOp} (h : op ≠ .In) (h2 : op ≠ .NotIn) : behindInMarks op b = false := by
  have e1 : (op == CmpOp.In) = false := by cases op <;> first | rfl | exact absurd rfl h
  have e2 : (op == CmpOp.NotIn) = false := by cases op <;> first | rfl | exact absurd rfl h2
  cases b <;> simp [behindInMarks, e1, e2]
def tCmp (p : Int → Int → Bool) (ta tb : TE) : TE := fun σ H Q => t2I ta tb (fun i j H2 => Q (.bl (p i j)) H2) σ H
abbrev tLt : TE → TE → TE := tCmp fun i j => decide (i < j)
abbrev tLe : TE → TE → TE := tCmp fun i j => decide (i ≤ j)
abbrev tGt : TE → TE → TE := tCmp fun i j => decide (j < i)
abbrev tGe : TE → TE → TE := tCmp fun i j => decide (j ≤ i)
abbrev tEqI : TE → TE → TE := tCmp fun i j => decide (i = j)
abbrev tNeI : TE → TE → TE := tCmp fun i j => !decide (i = j)
/-- a comparison of two ints, by its rule -/
theorem pc_int {op : CmpOp} {p : Int → Int → Bool} (ha : PE X a ta) (hb : PE X b tb)
    (rule : ∀ (i j : Int) (t u : Tok) (Q : Value → Shared → Prop) (s : Shared), Q (.bool (p i j)) s → wpAny (model X.prog X.w) X.A (compareOp op (.int i t) (.int j u)) Q X.xe s) : PC X op a b (tCmp p ta tb) := by
  intro pins s σ H Q I h
  refine bin ha hb I h fun v u s2 x y H2 I2 rx ry q => ?_
  obtain ⟨i, j, rfl, rfl, q⟩ := q
  obtain ⟨t, rfl⟩ := rx
  obtain ⟨t', rfl⟩ := ry
  exact rule i j t t' _ s2 ⟨.bl _, H2, I2, rfl, q⟩
theorem pc_lt (ha : PE X a ta) (hb : PE X b tb) : PC X .Lt a b (tLt ta tb) := pc_int ha hb fun _ _ _ _ _ _ h => lt_int h
theorem pc_le (ha : PE X a ta) (hb : PE X b tb) : PC X .LtE a b (tLe ta tb) := pc_int ha hb fun _ _ _ _ _ _ h => le_int h
theorem pc_gt (ha : PE X a ta) (hb : PE X b tb) : PC X .Gt a b (tGt ta tb) := pc_int ha hb fun _ _ _ _ _ _ h => gt_int h
theorem pc_ge (ha : PE X a ta) (hb : PE X b tb) : PC X .GtE a b (tGe ta tb) := pc_int ha hb fun _ _ _ _ _ _ h => ge_int h
theorem pc_eqI (ha : PE X a ta) (hb : PE X b tb) : PC X .Eq a b (tEqI ta tb) := pc_int ha hb fun _ _ _ _ _ _ h => eq_int (by rw [Bool.beq_eq_decide_eq]; exact h)
theorem pc_neI (ha : PE X a ta) (hb : PE X b tb) : PC X .NotEq a b (tNeI ta tb) := pc_int ha hb fun _ _ _ _ _ _ h => ne_int (by rw [bne, Bool.beq_eq_decide_eq]; exact h)
/-- is None -/
def tIsN (ta : TE) : TE := fun σ H Q => ta σ H fun x H1 => Q (.bl (decide (x = .non))) H1
def tNotN (ta : TE) : TE := fun σ H Q => ta σ H fun x H1 => Q (.bl (!decide (x = .non))) H1
theorem RelV.none_iff {x : V} {v : Value} (r : RelV x v) : (v == Value.none) = decide (x = .non) := by
  cases x with
  | non => cases r; rfl
  | bl _ => cases r; rfl
  | int _ => obtain ⟨t, rfl⟩ := r; rfl
  | str _ => obtain ⟨t, rfl⟩ := r; rfl
  | byt _ => obtain ⟨t, rfl⟩ := r; rfl
  | flt _ => obtain ⟨t, rfl⟩ := r; rfl
  | ref _ => cases r; rfl
  | ty _ => cases r; rfl
theorem pc_isN {j pos'} (ha : PE X a ta) : PC X .Is a (.Constant .none j pos') (tIsN ta) := by
  intro pins s σ H Q I h
  refine thn (ha pins s σ H _ I h) fun v s1 ⟨x, H1, I1, r1, q1⟩ => ?_
  exact Constant_none (is_none_gen ⟨.bl _, H1, I1, by rw [r1.none_iff]; rfl, q1⟩)
theorem pc_notN {j pos'} (ha : PE X a ta) : PC X .IsNot a (.Constant .none j pos') (tNotN ta) := by
  intro pins s σ H Q I h
  refine thn (ha pins s σ H _ I h) fun v s1 ⟨x, H1, I1, r1, q1⟩ => ?_
  exact Constant_none (isnot_none_gen ⟨.bl _, H1, I1, by rw [r1.none_iff]; rfl, q1⟩)
/-- a comparison as a value, as a test -/
def tB (t : TE) : TT := fun σ H Q => t σ H fun x H1 => ∃ c, x = .bl c ∧ Q c H1
theorem pe_cmp {op : CmpOp} {t : TE} (h : PC X op a b t) (h1 : behindInMarks op b = false := by first | exact nobehind _ (by decide) (by decide) | rfl) : PE X (.Compare a [op] [b] pos) t := fun pins s σ H Q I hw => wpAny_Compare1 (h pins s σ H Q I hw) h1
theorem pt_cmp {op : CmpOp} {t : TE} (h : PC X op a b t) (h1 : behindInMarks op b = false := by first | exact nobehind _ (by decide) (by decide) | rfl) : PT X (.Compare a [op] [b] pos) (tB t) := by
  intro pins s σ H Q I hw
  refine wpAny_isTrue_Compare1 (thn (h pins s σ H _ I hw) fun v s1 h1 => thn h1 fun u s2 h2 => thn h2 fun c s3 ⟨x, H1, I1, r1, q1⟩ => ?_) h1
  obtain ⟨d, rfl, q⟩ := q1
  cases r1
  exact wpAny_truthy_bool ⟨H1, I1, q⟩
/-- an expression whose value is a bool, as a test -/
theorem pt_val {e : Expr} {t : TE} (h : PE X e t) (he : ∀ whole, isTrue e X.env whole = (do let v ← whole; standAt e.pos; holding [v] (truthy v)) := by intro _; rfl) : PT X e (tB t) := by
  intro pins s σ H Q I hw
  refine isTrue_plain (thn (h pins s σ H _ I hw) fun v s1 ⟨x, H1, I1, r1, q1⟩ => ?_) (he _)
  obtain ⟨d, rfl, q⟩ := q1
  cases r1
  exact wpAny_truthy_bool ⟨H1, I1, q⟩

/-! ### and, or, not -/
variable {tA tB' : TT} {rest : List Expr}
def tAnd (t u : TT) : TT := fun σ H Q => t σ H fun c H1 => if c = true then u σ H1 Q else Q false H1
def tOr (t u : TT) : TT := fun σ H Q => t σ H fun c H1 => if c = true then Q true H1 else u σ H1 Q
def tNot (t : TT) : TT := fun σ H Q => t σ H fun c H1 => Q (!c) H1
theorem pw_and1 (ha : PT X a tA) : PW X (.BoolOp .And [a] pos) tA := by
  intro wh pins s σ H Q I h
  refine isTrue_and (thn (ha pins s σ H Q I h) fun c s1 e => ?_)
  cases c with
  | true => exact isTrue_and_nil e
  | false => exact e
theorem pw_or1 (ha : PT X a tA) : PW X (.BoolOp .Or [a] pos) tA := by
  intro wh pins s σ H Q I h
  refine isTrue_or (thn (ha pins s σ H Q I h) fun c s1 e => ?_)
  cases c with
  | false => exact isTrue_or_nil e
  | true => exact e
theorem pw_and (ha : PT X a tA) (hb : PW X (.BoolOp .And (b :: rest) pos) tB') : PW X (.BoolOp .And (a :: b :: rest) pos) (tAnd tA tB') := by
  intro wh pins s σ H Q I h
  refine isTrue_and (thn (ha pins s σ H _ I h) fun c s1 ⟨H1, I1, q1⟩ => ?_)
  cases c with
  | true => exact hb wh pins s1 σ H1 Q I1 q1
  | false => exact ⟨H1, I1, q1⟩
theorem pw_or (ha : PT X a tA) (hb : PW X (.BoolOp .Or (b :: rest) pos) tB') : PW X (.BoolOp .Or (a :: b :: rest) pos) (tOr tA tB') := by
  intro wh pins s σ H Q I h
  refine isTrue_or (thn (ha pins s σ H _ I h) fun c s1 ⟨H1, I1, q1⟩ => ?_)
  cases c with
  | true => exact ⟨H1, I1, q1⟩
  | false => exact hb wh pins s1 σ H1 Q I1 q1
theorem pt_not (ha : PT X a tA) : PT X (.UnaryOp .Not a pos) (tNot tA) := by
  intro pins s σ H Q I h
  exact isTrue_not (ha pins s σ H (fun c H1 => Q (!c) H1) I h)
/-- .. as values (bools) -/
def tAndV (ta tb : TE) : TE := fun σ H Q => ta σ H fun x H1 => ∃ c, x = .bl c ∧ if c = true then tb σ H1 Q else Q (.bl false) H1
def tOrV (ta tb : TE) : TE := fun σ H Q => ta σ H fun x H1 => ∃ c, x = .bl c ∧ if c = true then Q (.bl true) H1 else tb σ H1 Q
def tNotV (ta : TE) : TE := fun σ H Q => ta σ H fun x H1 => ∃ c, x = .bl c ∧ Q (.bl (!c)) H1
theorem pe_one {op} {t : TE} (h : PE X a t) : PE X (.BoolOp op [a] pos) t := fun pins s σ H Q I hw => BoolOp_one (h pins s σ H Q I hw)
theorem pe_and (ha : PE X a ta) (hb : PE X (.BoolOp .And (b :: rest) pos) tb) : PE X (.BoolOp .And (a :: b :: rest) pos) (tAndV ta tb) := by
  intro pins s σ H Q I h
  refine BoolOp_and (thn (ha pins s σ H _ I h) fun v s1 ⟨x, H1, I1, r1, q1⟩ => ?_)
  obtain ⟨c, rfl, q1⟩ := q1
  cases r1
  refine wpAny_truthy_bool ?_
  cases c with
  | true => exact hb pins s1 σ H1 Q I1 q1
  | false => exact ⟨.bl false, H1, I1, rfl, q1⟩
theorem pe_or (ha : PE X a ta) (hb : PE X (.BoolOp .Or (b :: rest) pos) tb) : PE X (.BoolOp .Or (a :: b :: rest) pos) (tOrV ta tb) := by
  intro pins s σ H Q I h
  refine BoolOp_or (thn (ha pins s σ H _ I h) fun v s1 ⟨x, H1, I1, r1, q1⟩ => ?_)
  obtain ⟨c, rfl, q1⟩ := q1
  cases r1
  refine wpAny_truthy_bool ?_
  cases c with
  | false => exact hb pins s1 σ H1 Q I1 q1
  | true => exact ⟨.bl true, H1, I1, rfl, q1⟩
theorem pe_not (ha : PE X a ta) : PE X (.UnaryOp .Not a pos) (tNotV ta) := by
  intro pins s σ H Q I h
  refine UnaryOp_ (thn (ha pins s σ H _ I h) fun v s1 ⟨x, H1, I1, r1, q1⟩ => ?_)
  obtain ⟨c, rfl, q1⟩ := q1
  cases r1
  exact not_of (wpAny_truthy_bool ⟨.bl (!c), H1, I1, rfl, q1⟩)
/-- a if t else b -/
def tIf (t : TT) (ta tb : TE) : TE := fun σ H Q => t σ H fun c H1 => if c = true then ta σ H1 Q else tb σ H1 Q
theorem pe_ifExp {c : Expr} (hc : PT X c tA) (ha : PE X a ta) (hb : PE X b tb) : PE X (.IfExp c a b pos) (tIf tA ta tb) := by
  intro pins s σ H Q I h
  refine wpAny_IfExp (thn (hc pins s σ H _ I h) fun d s1 ⟨H1, I1, q1⟩ => ?_)
  cases d with
  | true => exact ha pins s1 σ H1 Q I1 q1
  | false => exact hb pins s1 σ H1 Q I1 q1
end
end L2

namespace L2
open PySem PySem.Spec PyProof.Rows

/-! ### a list, a tuple that is read: tracked, frozen, or an object of the module -/
def SqL (K : PySem.W.Frag) (H : Hp) (a : Addr) (xs : List V) : Prop :=
  Rd H a (.lst xs) ∨
    ∃ (o : Obj) (its : Array Value) (n : Nat), K.lookup a = some o ∧ o.cls = .type "list" ∧ o.dict = none ∧ o.data = .seq its n ∧ its.size ≤ sizeLine ∧ Vals xs its.toList
def SqT (K : PySem.W.Frag) (H : Hp) (a : Addr) (xs : List V) : Prop :=
  Rd H a (.tup xs) ∨
    ∃ (o : Obj) (its : Array Value) (n : Nat), K.lookup a = some o ∧ o.cls = .type "tuple" ∧ o.data = .seq its n ∧ its.size ≤ sizeLine ∧ Vals xs its.toList
def absV : Value → Option V
  | .none => some .non
  | .bool b => some (.bl b)
  | .int i _ => some (.int i)
  | .str x _ => some (.str x)
  | .bytes b _ => some (.byt b)
  | .float b _ => some (.flt b)
  | .ref a => some (.ref a)
  | .type n => some (.ty n)
  | _ => none
theorem RelV.abs {x : V} {u : Value} (r : RelV x u) : absV u = some x := by
  cases x with
  | non => cases r; rfl
  | bl _ => cases r; rfl
  | int _ => obtain ⟨t, rfl⟩ := r; rfl
  | str _ => obtain ⟨t, rfl⟩ := r; rfl
  | byt _ => obtain ⟨t, rfl⟩ := r; rfl
  | flt _ => obtain ⟨t, rfl⟩ := r; rfl
  | ref _ => cases r; rfl
  | ty _ => cases r; rfl
theorem RelV.inj {x y : V} {u : Value} (r : RelV x u) (q : RelV y u) : x = y := Option.some.inj (r.abs.symm.trans q.abs)
theorem Vals.inj : ∀ {xs ys : List V} {us : List Value}, Vals xs us → Vals ys us → xs = ys
  | _, _, _, .nil, .nil => rfl
  | _, _, _, .cons r t, .cons r' t' => by rw [r.inj r', Vals.inj t t']
section
variable {X : Cx} {pins : List (Addr × Obj)} {σ : St} {H : Hp} {s : Shared} {a : Addr} {xs ys : List V}
theorem SqL.of {K : PySem.W.Frag} (h : H a = some (.lst xs)) : SqL K H a xs := .inl (.inl h)
theorem SqT.of {K : PySem.W.Frag} (h : H a = some (.tup xs)) : SqT K H a xs := .inl (.inl h)
theorem Inv.list (I : Inv X pins σ H s) (h : SqL X.K H a xs) : ∃ its : List Value, Vals xs its ∧ PlainL s.heap a its.toArray ∧ xs.length ≤ sizeLine := by
  rcases h with h | ⟨o, its, n, hk, hc, hd, hs, hz, r⟩
  · obtain ⟨z, its, n, r, e⟩ := h.ok I.hok
    exact ⟨its, r, ⟨_, n, e, rfl, rfl, rfl⟩, z⟩
  · refine ⟨its.toList, r, ⟨o, n, I.kIn a o hk, hc, hd, by simpa using hs⟩, ?_⟩
    have e := r.length
    simp only [Array.length_toList] at e
    omega
theorem Inv.tuple (I : Inv X pins σ H s) (h : SqT X.K H a xs) : ∃ its : List Value, Vals xs its ∧ IsTup s.heap a its.toArray ∧ xs.length ≤ sizeLine := by
  rcases h with h | ⟨o, its, n, hk, hc, hs, hz, r⟩
  · obtain ⟨z, its, r, p⟩ := h.ok I.hok
    exact ⟨its, r, p, z⟩
  · refine ⟨its.toList, r, ⟨o, I.kIn a o hk, hc, n, by simpa using hs⟩, ?_⟩
    have e := r.length
    simp only [Array.length_toList] at e
    omega
theorem Inv.list_inj (I : Inv X pins σ H s) (h : SqL X.K H a xs) (h' : SqL X.K H a ys) : xs = ys := by
  obtain ⟨its, r, ⟨o, n, e, _, _, d⟩, _⟩ := I.list h
  obtain ⟨its', r', ⟨o', n', e', _, _, d'⟩, _⟩ := I.list h'
  rw [e] at e'; cases e'
  rw [d] at d'
  injection d' with d1 _
  have : its = its' := by simpa using congrArg Array.toList d1
  subst this
  exact r.inj r'
theorem Inv.tuple_inj (I : Inv X pins σ H s) (h : SqT X.K H a xs) (h' : SqT X.K H a ys) : xs = ys := by
  obtain ⟨its, r, ⟨o, e, _, n, d⟩, _⟩ := I.tuple h
  obtain ⟨its', r', ⟨o', e', _, n', d'⟩, _⟩ := I.tuple h'
  rw [e] at e'; cases e'
  rw [d] at d'
  injection d' with d1 _
  have : its = its' := by simpa using congrArg Array.toList d1
  subst this
  exact r.inj r'
end

/-! ### another wish about exceptions -/
abbrev Cx.wish (X : Cx) (E : Value → Shared → Prop) : Cx := { X with xe := E }
/-- no exception leaves -/
abbrev Cx.nox (X : Cx) : Cx := X.wish fun _ _ => False
theorem Cx.Ok.wish {X : Cx} (ok : X.Ok) (E : Value → Shared → Prop) : (X.wish E).Ok :=
  ⟨ok.mod, ok.kind, ok.glob, ok.blt, ok.above, ok.inj, ok.has, ok.cab, ok.hd, ok.frames, ok.stk, ok.exf, ok.bs, ok.bsz, ok.noex, ok.exfs, ok.funs, ok.frf⟩
theorem Cx.Ok.unwish {X : Cx} {E : Value → Shared → Prop} (ok : (X.wish E).Ok) : X.Ok :=
  ⟨ok.mod, ok.kind, ok.glob, ok.blt, ok.above, ok.inj, ok.has, ok.cab, ok.hd, ok.frames, ok.stk, ok.exf, ok.bs, ok.bsz, ok.noex, ok.exfs, ok.funs, ok.frf⟩
section
variable {X : Cx} {pins : List (Addr × Obj)} {σ : St} {H : Hp} {s : Shared} {E : Value → Shared → Prop}
theorem Inv.wish (I : Inv X pins σ H s) (E : Value → Shared → Prop) : Inv (X.wish E) pins σ H s := ⟨I.ok.wish E, I.os, I.bare, I.base, I.loc, I.cell, I.free, I.freeC, I.pin, I.hok, I.len⟩
theorem Inv.unwish (I : Inv (X.wish E) pins σ H s) : Inv X pins σ H s := ⟨I.ok.unwish, I.os, I.bare, I.base, I.loc, I.cell, I.free, I.freeC, I.pin, I.hok, I.len⟩
theorem SP.unwish {D : Ends} {f : Flow} {s' : Shared} (h : SP (X.wish E) pins D f s') : SP X pins D f s' := by
  cases f with
  | next => obtain ⟨σ', H', I, q⟩ := h; exact ⟨σ', H', I.unwish, q⟩
  | brk => obtain ⟨σ', H', I, q⟩ := h; exact ⟨σ', H', I.unwish, q⟩
  | cont => obtain ⟨σ', H', I, q⟩ := h; exact ⟨σ', H', I.unwish, q⟩
  | ret u => obtain ⟨v, σ', H', I, r, q⟩ := h; exact ⟨v, σ', H', I.unwish, r, q⟩
theorem PE.nox {e : Expr} {t : TE} (h : PE X.nox e t) : PE X e t := fun pins s σ H Q I hw =>
  wpAny_mono (h pins s σ H Q (I.wish _) hw) (fun _ _ ⟨v, H', I', r, q⟩ => ⟨v, H', I'.unwish, r, q⟩) fun _ _ z => False.elim z
theorem PT.nox {e : Expr} {t : TT} (h : PT X.nox e t) : PT X e t := fun pins s σ H Q I hw =>
  wpAny_mono (h pins s σ H Q (I.wish _) hw) (fun _ _ ⟨H', I', q⟩ => ⟨H', I'.unwish, q⟩) fun _ _ z => False.elim z
theorem PSs.nox {st : List Stmt} {t : TS} (h : PSs X.nox st t) : PSs X st t := fun pins s σ H D I hw =>
  wpAny_mono (h pins s σ H D (I.wish _) hw) (fun _ _ q => q.unwish) fun _ _ z => False.elim z
end

/-! ### blocks and small statements -/
section
variable {X : Cx} {st : Stmt} {rest : List Stmt} {t u : TS} {e : Expr} {te : TE} {pos : Pos}
def tNext : TS := fun D σ H => D.nx σ H
def tSeq (t u : TS) : TS := fun D σ H => t { D with nx := u D } σ H
theorem pss_nil : PSs X [] tNext := fun _ _ σ H _ I h => wpAny_execs_nil ⟨σ, H, I, h⟩
theorem pss_cons (h1 : PS X st t) (h2 : PSs X rest u) : PSs X (st :: rest) (tSeq t u) := by
  intro pins s σ H D I h
  refine wpAny_execs_cons (thn (h1 pins s σ H { D with nx := u D } I h) fun f s1 q => ?_)
  cases f with
  | next =>
    obtain ⟨σ', H', I', q⟩ := q
    exact h2 pins s1 σ' H' D I' q
  | ret v => exact q
  | brk => exact q
  | cont => exact q
theorem pss_one (h1 : PS X st t) : PSs X [st] t := by
  intro pins s σ H D I h
  refine wpAny_execs_cons (thn (h1 pins s σ H D I h) fun f s1 q => ?_)
  cases f with
  | next => exact wpAny_execs_nil q
  | ret v => exact q
  | brk => exact q
  | cont => exact q
def tBreak : TS := fun D σ H => D.bk σ H
def tCont : TS := fun D σ H => D.ct σ H
theorem ps_pass : PS X (.Pass pos) tNext := fun _ _ σ H _ I h => wpAny_Pass ⟨σ, H, I, h⟩
theorem ps_break : PS X (.Break pos) tBreak := fun _ _ σ H _ I h => wpAny_Break ⟨σ, H, I, h⟩
theorem ps_continue : PS X (.Continue pos) tCont := fun _ _ σ H _ I h => wpAny_Continue ⟨σ, H, I, h⟩
/-- in a def's body nothing is shown -/
theorem Inv.quiet {pins : List (Addr × Obj)} {σ : St} {H : Hp} {s : Shared} (I : Inv X pins σ H s) : interactive X.env = false := by simp [interactive, I.ok.kind]
/-- a docstring -/
theorem ps_doc {x j pos pos'} : PS X (.Expr (.Constant (.str x) j pos) pos') tNext := fun _ s σ H _ I h => wpAny_Expr (Calls.Constant_str (show SP X _ _ .next { s with toks := s.toks + 1 } from ⟨σ, H, I.tok _, h⟩)) I.quiet
/-- an expression whose value is dropped -/
def tDrop (te : TE) : TS := fun D σ H => te σ H fun _ H1 => D.nx σ H1
theorem ps_expr (he : PE X e te) (hs : swapsWith e none pos.line X.env = pure false := by rfl) : PS X (.Expr e pos) (tDrop te) := by
  intro pins s σ H D I h
  exact wpAny_Expr_any (thn (he pins s σ H _ I h) fun v s1 ⟨x, H1, I1, r1, q1⟩ => ⟨σ, H1, I1, q1⟩) I.quiet hs
def tRet (te : TE) : TS := fun D σ H => te σ H D.rt
theorem ps_ret (he : PE X e te) : PS X (.Return (some e) pos) (tRet te) := by
  intro pins s σ H D I h
  exact wpAny_Return_some (thn (he pins s σ H _ I h) fun v s1 ⟨x, H1, I1, r1, q1⟩ => ⟨x, σ, H1, I1, r1, q1⟩)
def tRetN : TS := fun D _ H => D.rt .non H
theorem ps_retN : PS X (.Return none pos) tRetN := fun _ _ σ H _ I h => wpAny_Return_none ⟨.non, σ, H, I, rfl, h⟩
def tIfS (c : TT) (t u : TS) : TS := fun D σ H => c σ H fun b H1 => if b = true then t D σ H1 else u D σ H1
theorem ps_if {c : Expr} {a b : List Stmt} {tc : TT} (hc : PT X c tc) (ha : PSs X a t) (hb : PSs X b u) : PS X (.If c a b pos) (tIfS tc t u) := by
  intro pins s σ H D I h
  refine wpAny_If (thn (hc pins s σ H _ I h) fun d s1 ⟨H1, I1, q1⟩ => ?_)
  cases d with
  | true => exact ha pins s1 σ H1 D I1 q1
  | false => exact hb pins s1 σ H1 D I1 q1
/-- code that the proof never comes to -/
def tNever : TS := fun _ _ _ => False
theorem ps_never : PS X st tNever := fun _ _ _ _ _ _ h => h.elim
theorem pss_never {sts : List Stmt} : PSs X sts tNever := fun _ _ _ _ _ _ h => h.elim
end

/-! ### targets -/
abbrev TG := V → St → Hp → (St → Hp → Prop) → Prop
abbrev TGs := List V → St → Hp → (St → Hp → Prop) → Prop
def PG (X : Cx) (target : Expr) (t : TG) : Prop :=
  ∀ (pins : List (Addr × Obj)) (s : Shared) (σ : St) (H : Hp) (v : V) (u : Value) (Q : St → Hp → Prop), Inv X pins σ H s → RelV v u → t v σ H Q →
    wpAny (model X.prog X.w) X.A (assign target X.env u) (fun _ s' => ∃ σ' H', Inv X pins σ' H' s' ∧ Q σ' H') X.xe s
/-- several targets, one after another -/
def PGs (X : Cx) (ts : List Expr) (t : TGs) : Prop :=
  ∀ (pins : List (Addr × Obj)) (s : Shared) (σ : St) (H : Hp) (vs : List V) (us : List Value) (Q : St → Hp → Prop), Inv X pins σ H s → Vals vs us → t vs σ H Q →
    wpAny (model X.prog X.w) X.A (assignInOrder ((assignEach ts X.env).map (·.2)) us) (fun _ s' => ∃ σ' H', Inv X pins σ' H' s' ∧ Q σ' H') X.xe s
/-- o[i] = v, by values -/
abbrev TSet := V → V → V → Hp → (Hp → Prop) → Prop
def PSet (X : Cx) (t : TSet) : Prop :=
  ∀ (pins : List (Addr × Obj)) (s : Shared) (σ : St) (H : Hp) (o i v : V) (ov iv u : Value) (Q : Hp → Prop), Inv X pins σ H s → RelV o ov → RelV i iv → RelV v u → t o i v H Q →
    wpAny (model X.prog X.w) X.A (setItem ov iv u) (fun _ s' => ∃ H', Inv X pins σ H' s' ∧ Q H') X.xe s
/-- a op= b, by values -/
abbrev TIp := V → V → Hp → VK → Prop
def PIp (X : Cx) (op : Operator) (t : TIp) : Prop :=
  ∀ (pins : List (Addr × Obj)) (s : Shared) (σ : St) (H : Hp) (x y : V) (v u : Value) (Q : VK), Inv X pins σ H s → RelV x v → RelV y u → t x y H Q →
    wpAny (model X.prog X.w) X.A (inplaceOp op v u) (EP X pins σ Q) X.xe s
section
variable {X : Cx} {pos : Pos}
def gName (i : Nat) : TG := fun v σ H Q => Q (σ.set i (some v)) H
theorem pg_name {i : Nat} {x : Str} (hN : X.N.Nodup) (hi : X.N[i]? = some x) (hx : Loc X.env.scope x) (hf : X.fn x = true ∨ X.env.scope.names.lookup x = some .local := by first | exact .inl rfl | exact .inr rfl | assumption) : PG X (.Name x pos) (gName i) := by
  intro pins s σ H v u Q I r h
  exact wpAny_assign_Name (store_ok I hN hi hx r (fun s' I' => ⟨_, H, I', h⟩) hf)
def gNil : TGs := fun vs σ H Q => vs = [] ∧ Q σ H
def gCons (t : TG) (u : TGs) : TGs := fun vs σ H Q => ∃ v r, vs = v :: r ∧ t v σ H fun σ' H' => u r σ' H' Q
theorem pgs_nil : PGs X [] gNil := by
  intro pins s σ H vs us Q I r h
  obtain ⟨e, h⟩ := h
  subst e
  cases r
  exact assignInOrder_nil ⟨σ, H, I, h⟩
theorem pgs_cons {e : Expr} {es : List Expr} {t : TG} {u : TGs} (h1 : PG X e t) (h2 : PGs X es u)
    (hs : (assignEach (e :: es) X.env).map (·.2) = assign e X.env :: (assignEach es X.env).map (·.2) := by rfl) : PGs X (e :: es) (gCons t u) := by
  intro pins s σ H vs us Q I r h
  obtain ⟨v, vr, e1, h⟩ := h
  subst e1
  cases r with
  | cons r rr =>
    rw [hs]
    refine assignInOrder_cons (thn (h1 pins s σ H _ _ _ I r h) fun _ s1 ⟨σ1, H1, I1, q1⟩ => ?_)
    exact h2 pins s1 σ1 H1 _ _ Q I1 rr q1
/-- (a, b, ..) = a tuple of that length -/
def gTup (K : PySem.W.Frag) (n : Nat) (t : TGs) : TG := fun v σ H Q => ∃ a xs, v = .ref a ∧ SqT K H a xs ∧ xs.length = n ∧ t xs σ H Q
theorem pg_tup {es : List Expr} {k : Nat} {t : TGs} {n : Nat} (hc : X.calm = true) (h : PGs X es t)
    (hn : (assignEach es X.env).length = n := by rfl) (hst : (assignEach es X.env).findIdx? (·.1) = none := by rfl) : PG X (.Tuple es k pos) (gTup X.K n t) := by
  intro pins s σ H v u Q I r hw
  obtain ⟨a, xs, e1, hq, hl, hw⟩ := hw
  subst e1
  cases r
  obtain ⟨its, rv, ht, hz⟩ := I.tuple hq
  refine assign_Tuple_tuple (I.ok.hd hc) ht (by simp [hn, ← hl, rv.length]) hst fun h' hx => ?_
  have I1 : Inv X pins σ H { s with heap := h' } := I.kept (t' := s.toks) fun b o e => hx b o (Nat.ne_of_lt (Heap.lt_size e)) e
  exact h pins _ σ H xs _ Q I1 (by simpa using rv) hw
/-- o[i] = .. -/
def gSub (to ti : TE) (t : TSet) : TG := fun v σ H Q => to σ H fun o H1 => ti σ H1 fun i H2 => t o i v H2 fun H3 => Q σ H3
theorem pg_sub {o i : Expr} {to ti : TE} {t : TSet} (ho : PE X o to) (hi : PE X i ti) (hs : PSet X t)
    (ha : ∀ v, assign (.Subscript o i pos) X.env v = (do
      let ov ← holding [v] (eval o X.env)
      let iv ← holding [v, ov] (eval i X.env)
      standAt pos
      holding [v, ov, iv] (setItem ov iv v)
      release [v, ov, iv] []) := by intro _; rfl) : PG X (.Subscript o i pos) (gSub to ti t) := by
  intro pins s σ H v u Q I r h
  rw [ha]
  refine wpAny_bind (wpAny_holding (thn (ho pins s σ H _ I h) fun ov s1 ⟨x, H1, I1, r1, q1⟩ => ?_))
  refine wpAny_bind (wpAny_holding (thn (hi pins s1 σ H1 _ I1 q1) fun iv s2 ⟨y, H2, I2, r2, q2⟩ => ?_))
  refine wpAny_bind (wpAny_standAt (wpAny_bind (wpAny_holding (thn (hs pins s2 σ H2 x y v ov iv u _ I2 r1 r2 r q2) fun _ s3 ⟨H3, I3, q3⟩ => ?_))))
  exact wpAny_release ⟨σ, H3, I3, q3⟩
/-- target = value -/
def tAsg (te : TE) (g : TG) : TS := fun D σ H => te σ H fun x H1 => g x σ H1 D.nx
theorem ps_asg {tg e : Expr} {te : TE} {g : TG} (he : PE X e te) (hg : PG X tg g) (hs : swapsWithSole [tg] e pos.line X.env = pure false := by rfl) (hw : swappedStores [tg] e X.env = pure none := by rfl)
    (h1 : (assignEach [tg] X.env).map (·.2) = [assign tg X.env] := by rfl) : PS X (.Assign [tg] e pos) (tAsg te g) := by
  intro pins s σ H D I h
  refine wpAny_Assign_stores (thn (he pins s σ H _ I h) fun v s1 ⟨x, H1, I1, r1, q1⟩ => ?_) hs hw
  rw [h1]
  exact thn (hg pins s1 σ H1 x v _ I1 r1 q1) fun _ s2 q => q
/-- name = value -/
theorem ps_set {i : Nat} {x : Str} {e : Expr} {te : TE} {pos' : Pos} (hN : X.N.Nodup) (hi : X.N[i]? = some x) (hx : Loc X.env.scope x) (he : PE X e te) (hs : swapsWith e (some (.Name x pos')) pos.line X.env = pure false := by rfl) (hf : X.fn x = true ∨ X.env.scope.names.lookup x = some .local := by first | exact .inl rfl | exact .inr rfl | assumption) :
    PS X (.Assign [.Name x pos'] e pos) (tAsg te (gName i)) := by
  intro pins s σ H D I h
  refine wpAny_Assign_Name (thn (he pins s σ H _ I h) fun v s1 ⟨y, H1, I1, r1, q1⟩ => ?_) hs
  exact store_ok I1 hN hi hx r1 (fun s2 I2 => ⟨_, H1, I2, q1⟩) hf
/-- a, b = x, y with plain local names: stored from the right; the pair itself is not tracked (the opening rows as in PyProof/Rows/TupAssign.lean:23) -/
def tPar (i j : Nat) (ta : TA) : TS := fun D σ H => ta σ H fun vs H1 => ∃ v w, vs = [v, w] ∧ D.nx ((σ.set i (some v)).set j (some w)) H1
theorem ps_par {i j : Nat} {x y : Str} {a b : Expr} {ta : TA} {px py pt : Pos} {kt k2 pt2} (hc : X.calm = true) (hN : X.N.Nodup) (hi : X.N[i]? = some x) (hj : X.N[j]? = some y) (hij : i ≠ j)
    (hx : X.env.scope.names.lookup x = some .local) (hy : X.env.scope.names.lookup y = some .local) (ha : PA X [a, b] ta)
    (hw : swappedStores [.Tuple [.Name x px, .Name y py] kt pt] (.Tuple [a, b] k2 pt2) X.env = pure (some [x, y]))
    (hs : swapsWithSole [.Tuple [.Name x px, .Name y py] kt pt] (.Tuple [a, b] k2 pt2) pos.line X.env = pure false := by rfl) :
    PS X (.Assign [.Tuple [.Name x px, .Name y py] kt pt] (.Tuple [a, b] k2 pt2) pos) (tPar i j ta) := by
  intro pins s σ H D I h
  rw [exec_Assign_arm]
  refine wpAny_bind (wpAny_standAt ?_)
  rw [hs]
  refine wpAny_bind (wpAny_pure ?_)
  rw [if_neg (by decide)]
  refine wpAny_bind (Tuple_ (thn (ha _ pins s σ H _ I h) fun us s1 ⟨vs, H1, I1, r1, q1⟩ => ?_))
  obtain ⟨v, w, e1, q1⟩ := q1
  subst e1
  obtain ⟨u1, u2, rfl, rv, rw'⟩ : ∃ u1 u2, us = [u1, u2] ∧ RelV v u1 ∧ RelV w u2 := by
    cases r1 with
    | cons p q =>
      cases q with
      | cons p' q' =>
        cases q'
        exact ⟨_, _, rfl, p, p'⟩
  refine wpAny_newObj_type ?_ (by show 2 ≤ sizeLine; decide)
  have I2 : Inv X pins σ H1 { s1 with heap := s1.heap.push { cls := .type "tuple", data := .seq [u1, u2].toArray } } := I1.kept (t' := s1.toks) fun b o e => Heap.get?_push_of_some _ e
  rw [hw]
  refine wpAny_bind (wpAny_pure ?_)
  show wpAny (model X.prog X.w) X.A (do rule "assign.swapped-stores"; let items ← unpackItems (.ref s1.heap.objs.size) 2 none; assignInOrder [fun v => bindName X.env y v, fun v => bindName X.env x v] items.reverse; pure Flow.next) _ _ _
  refine wpAny_bind (wpAny_rule (wpAny_bind (unpackItems_tuple (items := #[u1, u2]) (I.ok.hd hc) (IsTup.new s1.heap _) fun h' hx' => ?_)))
  have I3 := I2.kept (h' := h') (t' := s1.toks) fun b o e => hx' b o (Nat.ne_of_lt (Heap.lt_size e)) e
  show wpAny _ _ (assignInOrder [fun v => bindName X.env y v, fun v => bindName X.env x v] [u2, u1] >>= fun _ => pure Flow.next) _ _ _
  refine wpAny_bind (assignInOrder_cons (wpAny_bindName (store_ok I3 hN hj (.inl hy) rw' (fun s2 I4 => ?_) (.inr hy))))
  refine assignInOrder_cons (wpAny_bindName (store_ok I4 hN hi (.inl hx) rv (fun s3 I5 => assignInOrder_nil (wpAny_pure ?_)) (.inr hx)))
  rw [List.set_comm _ _ (Ne.symm hij)] at I5
  exact ⟨_, H1, I5, q1⟩
/-- name op= e -/
def tAug (i : Nat) (te : TE) (ti : TIp) : TS := fun D σ H => ∃ x, σ[i]? = some (some x) ∧ te σ H fun y H1 => ti x y H1 fun z H2 => D.nx (σ.set i (some z)) H2
theorem ps_aug {i : Nat} {x : Str} {e : Expr} {te : TE} {op : Operator} {ti : TIp} {pos' : Pos} (hN : X.N.Nodup) (hi : X.N[i]? = some x) (hx : Loc X.env.scope x) (he : PE X e te) (ho : PIp X op ti) (hf : X.fn x = true ∨ X.env.scope.names.lookup x = some .local := by first | exact .inl rfl | exact .inr rfl | assumption) :
    PS X (.AugAssign (.Name x pos') op e pos) (tAug i te ti) := by
  intro pins s σ H D I h
  obtain ⟨v, e1, h⟩ := h
  obtain ⟨m, hn, hl⟩ := I.loc
  have vis : Vis X.env.scope x := by rcases hx with k | k; exact .inl k; exact .inr (.inl k)
  obtain ⟨u, r, l⟩ := hl i x v hi e1 vis
  refine wpAny_AugAssign_Name ?_
  have go : wpAny (model X.prog X.w) X.A (eval e X.env) (fun w s₂ => wpAny (model X.prog X.w) X.A (inplaceOp op u w) (fun r s₃ => wpAny (model X.prog X.w) X.A (storeName X.env x r) (fun _ => SP X pins D .next) X.xe s₃) X.xe s₂) X.xe s := by
    refine thn (he pins s σ H _ I h) fun w s1 ⟨y, H1, I1, r1, q1⟩ => ?_
    refine thn (ho pins s1 σ H1 v y u w _ I1 r r1 q1) fun z s2 ⟨zv, H2, I2, r2, q2⟩ => ?_
    exact store_ok I2 hN hi hx r2 (fun s3 I3 => ⟨_, H2, I3, q2⟩) hf
  rcases l with ⟨hk, hm⟩ | ⟨hk, c, hc, hcell⟩
  · exact wpAny_loadName_local I.ok.kind hk hn hm go
  · rcases hk with hk | hk
    · exact wpAny_loadName_cell I.ok.kind hk hc hcell go
    · rcases hx with k | k
      · have : X.env.scope.names.lookup x = some .free := hk
        rw [k] at this; cases this
      · have : X.env.scope.names.lookup x = some .free := hk
        rw [k] at this; cases this
/-- o[i] op= e -/
def tAugS (to ti te : TE) (tget : V → V → Hp → VK → Prop) (tip : TIp) (tset : TSet) : TS := fun D σ H => to σ H fun o H1 => ti σ H1 fun i H2 => tget o i H2 fun x H3 => te σ H3 fun y H4 => tip x y H4 fun z H5 => tset o i z H5 fun H6 => D.nx σ H6
/-- o[i], by values -/
def PGet (X : Cx) (t : V → V → Hp → VK → Prop) : Prop :=
  ∀ (pins : List (Addr × Obj)) (s : Shared) (σ : St) (H : Hp) (o i : V) (ov iv : Value) (Q : VK), Inv X pins σ H s → RelV o ov → RelV i iv → t o i H Q →
    wpAny (model X.prog X.w) X.A (getItem ov iv) (EP X pins σ Q) X.xe s
theorem ps_augS {o i e : Expr} {to ti te : TE} {tget : V → V → Hp → VK → Prop} {tip : TIp} {tset : TSet} {op : Operator} {tpos : Pos} (ho : PE X o to) (hi : PE X i ti) (hg : PGet X tget) (he : PE X e te) (hp : PIp X op tip) (hs : PSet X tset)
    (ha : ∀ ov iv new, augStore i ov iv new = (do holding [new, ov, iv] (setItem ov iv new); release [new, ov, iv] []; pure .next) := by intros; rfl) : PS X (.AugAssign (.Subscript o i tpos) op e pos) (tAugS to ti te tget tip tset) := by
  intro pins s σ H D I h
  refine wpAny_AugAssign_SubscriptAny (thn (ho pins s σ H _ I h) fun ov s1 ⟨x1, H1, I1, r1, q1⟩ => ?_) ha
  refine thn (hi pins s1 σ H1 _ I1 q1) fun iv s2 ⟨x2, H2, I2, r2, q2⟩ => ?_
  refine thn (hg pins s2 σ H2 x1 x2 ov iv _ I2 r1 r2 q2) fun old s3 ⟨x3, H3, I3, r3, q3⟩ => ?_
  refine thn (he pins s3 σ H3 _ I3 q3) fun v s4 ⟨x4, H4, I4, r4, q4⟩ => ?_
  refine thn (hp pins s4 σ H4 x3 x4 old v _ I4 r3 r4 q4) fun new s5 ⟨x5, H5, I5, r5, q5⟩ => ?_
  exact thn (hs pins s5 σ H5 x1 x2 x5 ov iv new _ I5 r1 r2 r5 q5) fun _ s6 ⟨H6, I6, q6⟩ => ⟨σ, H6, I6, q6⟩
/-- ints -/
def ipI (f : Int → Int → Int) : TIp := fun x y H Q => ∃ i j, x = .int i ∧ y = .int j ∧ Q (.int (f i j)) H
theorem ip_add : PIp X .Add (ipI fun i j => i + j) := by
  intro pins s σ H x y v u Q I r1 r2 h
  obtain ⟨i, j, e1, e2, q⟩ := h
  subst e1; subst e2
  obtain ⟨t, rfl⟩ := r1
  obtain ⟨t', rfl⟩ := r2
  exact iadd_int ⟨.int _, H, I.tok _, ⟨_, rfl⟩, q⟩
theorem ip_sub : PIp X .Sub (ipI fun i j => i - j) := by
  intro pins s σ H x y v u Q I r1 r2 h
  obtain ⟨i, j, e1, e2, q⟩ := h
  subst e1; subst e2
  obtain ⟨t, rfl⟩ := r1
  obtain ⟨t', rfl⟩ := r2
  exact isub_int ⟨.int _, H, I.tok _, ⟨_, rfl⟩, q⟩
end

/-! ### while -/
section
variable {X : Cx} {pos : Pos}
/-- the invariant W with its measure -/
def tWhile (c : TT) (tb : TS) : TS := fun D σ H => ∃ W : Nat → St → Hp → Prop, (∃ m, W m σ H) ∧ ∀ m σ H, W m σ H →
  c σ H fun b H1 => if b = true then ∃ N : St → Hp → Prop, (∀ σ' H', N σ' H' → ∃ m', m' < m ∧ W m' σ' H') ∧ tb { D with nx := N, ct := N, bk := D.nx } σ H1 else D.nx σ H1
theorem ps_while {c : Expr} {body : List Stmt} {tc : TT} {tb : TS} (hp : PassesOwn (model X.prog X.w) X.A X.env X.xe) (hc : PT X c tc) (hb : PSs X body tb) : PS X (.While c body [] pos) (tWhile tc tb) := by
  intro pins s σ H D I h
  obtain ⟨W, ⟨m0, w0⟩, turn⟩ := h
  refine wpAny_While (codeAny_whileLoop (fun n s' => ∃ σ' H', Inv X pins σ' H' s' ∧ W n σ' H') ?_ m0 ⟨σ, H, I, w0⟩)
  rintro n s1 ⟨σ1, H1, I1, w1⟩
  refine wpAny_passesOwn hp (thn (hc pins s1 σ1 H1 _ I1 (turn n σ1 H1 w1)) fun b s2 ⟨H2, I2, q2⟩ => ?_)
  cases b with
  | true =>
    obtain ⟨N, hN, q2⟩ := q2
    rw [if_pos rfl]
    refine wpAny_passesOwn hp (thn (hb pins s2 σ1 H2 _ I2 q2) fun f s3 q3 => ?_)
    cases f with
    | next =>
      obtain ⟨σ3, H3, I3, n3⟩ := q3
      obtain ⟨m', hm, w3⟩ := hN σ3 H3 n3
      exact ⟨m', hm, σ3, H3, I3, w3⟩
    | cont =>
      obtain ⟨σ3, H3, I3, n3⟩ := q3
      obtain ⟨m', hm, w3⟩ := hN σ3 H3 n3
      exact ⟨m', hm, σ3, H3, I3, w3⟩
    | brk => exact q3
    | ret v => exact q3
  | false =>
    rw [if_neg Bool.false_ne_true]
    exact wpAny_execs_nil ⟨σ1, H2, I2, q2⟩
end

/-! ### what a loop or a comprehension walks -/
/-- at turn i: it yields x (the heap may grow), or it stops -/
structure It where
  go : Nat → Hp → Prop
  yld : Nat → Hp → V → Hp → Prop
  stop : Nat → Hp → Prop
/-- the iterator's own objects may turn: they are not the frame's, not pinned, younger than the entry (or a comprehension's own) -/
def FpOk (X : Cx) (pins : List (Addr × Obj)) (H : Hp) (b : Addr) : Prop :=
  H b = none ∧ b ≠ X.env.locals ∧ b ∉ X.fs ∧ (b ∈ X.ex ∨ X.s₀.heap.objs.size ≤ b) ∧ (∀ x c, X.env.cells.lookup x = some c → c ≠ b) ∧ ∀ p ∈ X.pn ++ pins, p.1 ≠ b
theorem Inv.fpOk {X : Cx} {pins : List (Addr × Obj)} {σ : St} {H H' : Hp} {s : Shared} {b : Addr} (I : Inv X pins σ H s) (hb : s.heap.objs.size ≤ b) (hn : H' b = none) : FpOk X pins H' b := by
  refine ⟨hn, Nat.ne_of_gt (Nat.lt_of_lt_of_le I.lt hb), I.nofs hb, .inr (Nat.le_trans I.sz hb), fun x c e z => ?_, fun p hp z => ?_⟩
  · obtain ⟨v, q⟩ := I.cell x c e
    exact absurd (Nat.lt_of_lt_of_le q.lt (by rw [z]; exact hb)) (Nat.lt_irrefl _)
  · exact absurd (Nat.lt_of_lt_of_le (Heap.lt_size (I.pin p hp).1) (by rw [z]; exact hb)) (Nat.lt_irrefl _)
structure Turn (P : Program) (w : World) (K : PySem.W.Frag) (tg : Expr) (J : It) (fp : List Addr) (it : Addr) (tn : Nat → Heap → Prop) : Prop where
  mem : it ∈ fp
  obj : ∀ i h, tn i h → ∀ b ∈ fp, ∃ o, h.get? b = some o ∧ ∀ v, o.data ≠ .cell v
  keep : ∀ i h h', tn i h → (∀ b ∈ fp, ∀ o, h.get? b = some o → h'.get? b = some o) → tn i h'
  item : ∀ (X : Cx), X.prog = P → X.w = w → X.K = K → X.calm = true → ∀ (i : Nat) (pins : List (Addr × Obj)) (s : Shared) (σ : St) (H : Hp) (E : Value → Shared → Prop), Inv X pins σ H s → (∀ b ∈ fp, FpOk X pins H b) → tn i s.heap → J.go i H →
    wpAny (model P w) X.A (pyNext (.ref it)) (fun r s1 => ∃ u, r = some u ∧
      wpAny (model P w) X.A (letOwnedTupleGo tg (.ref it) u) (fun _ s2 => ∃ x H', Inv X pins σ H' s2 ∧ RelV x u ∧ J.yld i H x H' ∧ tn (i + 1) s2.heap ∧ ∀ b ∈ fp, H' b = none) E s1) E s
  done : ∀ (X : Cx), X.prog = P → X.w = w → X.K = K → X.calm = true → ∀ (i : Nat) (pins : List (Addr × Obj)) (s : Shared) (σ : St) (H : Hp) (E : Value → Shared → Prop), Inv X pins σ H s → (∀ b ∈ fp, FpOk X pins H b) → tn i s.heap → J.stop i H →
    wpAny (model P w) X.A (pyNext (.ref it)) (fun r s1 => r = none ∧ Inv X pins σ H s1) E s
  self : ∀ (A : Around) (i : Nat) (s : Shared) (Q : Value → Shared → Prop) (E : Value → Shared → Prop), tn i s.heap → Q (.ref it) s → wpAny (model P w) A (pyIter (.ref it)) Q E s
abbrev TI := St → Hp → (It → Hp → Prop) → Prop
/-- an iterator has come -/
def PIE (X : Cx) (pins : List (Addr × Obj)) (σ : St) (tg : Expr) (R : It → Hp → Prop) (itv : Value) (s2 : Shared) : Prop :=
  ∃ (it : Addr) (fp : List Addr) (tn : Nat → Heap → Prop) (J : It) (H' : Hp), itv = .ref it ∧ Inv X pins σ H' s2 ∧ Turn X.prog X.w X.K tg J fp it tn ∧ tn 0 s2.heap ∧ (∀ b ∈ fp, FpOk X pins H' b) ∧ R J H'
def PI (X : Cx) (tg iter : Expr) (wi : TI) : Prop :=
  ∀ (pins : List (Addr × Obj)) (s : Shared) (σ : St) (H : Hp) (R : It → Hp → Prop), Inv X pins σ H s → wi σ H R →
    wpAny (model X.prog X.w) X.A (eval iter X.env) (fun v s1 => wpAny (model X.prog X.w) X.A (pyIter v) (PIE X pins σ tg R) X.xe s1) X.xe s

/-- the step ahead of the store is nothing for an iterator that keeps no tuple -/
theorem go_of {M : Model} {A : Around} {E : Value → Shared → Prop} {s : Shared} {tg : Expr} {it : Addr} {u : Value} {o : Obj} {n : String} {vs : Array Value} {Q : Unit → Shared → Prop} (ho : s.heap.get? it = some o) (hc : o.cls = .type n) (hd : o.data = .fields vs)
    (hn : ["enumerate", "zip", "dict_itemiterator", "dict_reverseitemiterator", "odict_iterator", "itertools.zip_longest", "itertools.pairwise"].contains n = false) (hQ : Q () s) : wpAny M A (letOwnedTupleGo tg (.ref it) u) Q E s := by
  unfold letOwnedTupleGo
  cases tg <;> first
    | exact wpAny_pure hQ
    | (cases u <;> first
        | exact wpAny_pure hQ
        | (refine wpAny_bind (wpAny_load ho ?_)
           rw [hc, hd]
           show wpAny M A (if (["enumerate", "zip", "dict_itemiterator", "dict_reverseitemiterator", "odict_iterator", "itertools.zip_longest", "itertools.pairwise"].contains n && vs[0]? == some (rawInt _)) = true then _ else _) Q E s
           rw [if_neg (by intro h; rw [hn, Bool.false_and] at h; cases h)]
           exact wpAny_pure hQ))

/-- the list at a, as it stands at each turn (a loop may append to it) -/
def Itl (K : PySem.W.Frag) (a : Addr) : It :=
  ⟨fun i H => ∃ xs x, SqL K H a xs ∧ xs[i]? = some x, fun i H x H' => H' = H ∧ ∀ xs, SqL K H a xs → xs[i]? = some x, fun i H => ∃ xs, SqL K H a xs ∧ xs.length ≤ i⟩
def Itt (K : PySem.W.Frag) (a : Addr) : It :=
  ⟨fun i H => ∃ xs x, SqT K H a xs ∧ xs[i]? = some x, fun i H x H' => H' = H ∧ ∀ xs, SqT K H a xs → xs[i]? = some x, fun i H => ∃ xs, SqT K H a xs ∧ xs.length ≤ i⟩
/-- lo, lo + 1, .. (n of them) -/
def Itr (lo : Int) (n : Nat) : It := ⟨fun i _ => i < n, fun i H x H' => H' = H ∧ x = .int (lo + i), fun i _ => n ≤ i⟩
theorem turn_list {P : Program} {w : World} {K : PySem.W.Frag} {tg : Expr} (a it : Addr) : Turn P w K tg (Itl K a) [it] it (fun i h => h.IsListIter it a i) where
  mem := by simp
  obj := fun i h st b hb => by
    have e : b = it := by simpa using hb
    subst e
    obtain ⟨o, e, c, d⟩ := st
    exact ⟨o, e, fun v z => by rw [d] at z; cases z⟩
  keep := fun i h h' st k => st.at fun o e => k it (by simp) o e
  item := by
    intro X hP hw hK hc i pins s σ H E I hf st hg
    subst hP hw hK
    obtain ⟨xs, x, hq, hx⟩ := hg
    obtain ⟨its, rv, p, hz⟩ := I.list hq
    obtain ⟨u, hu, ru⟩ := rv.get hx
    obtain ⟨f0, f1, f2, f3, f4, f5⟩ := hf it (by simp)
    refine wpAny_pyNext_list_item st p.isList (x := u) (by simpa using hu) fun h' st' sb => ?_
    have I1 : Inv X pins σ H { s with heap := h' } := I.turned (t' := s.toks) (fun b o hb e => (sb.2 b hb).trans e) f0 f1 f3 f4 f5
    obtain ⟨o, e, c, d⟩ := id st'
    exact ⟨u, rfl, go_of (s := { s with heap := h' }) e c d (by decide) ⟨x, H, I1, ru, ⟨rfl, fun ys hy => by rw [I.list_inj hy hq]; exact hx⟩, st', fun b hb => (hf b hb).1⟩⟩
  done := by
    intro X hP hw hK hc i pins s σ H E I hf st hg
    subst hP hw hK
    obtain ⟨xs, hq, hx⟩ := hg
    obtain ⟨its, rv, p, hz⟩ := I.list hq
    obtain ⟨f0, f1, f2, f3, f4, f5⟩ := hf it (by simp)
    have hl := rv.length
    exact wpAny_pyNext_list_end (I.ok.hd hc) st p.isList (by simp; omega) fun h' eb => ⟨rfl, I.turned (t' := s.toks) (fun b o hb e => eb b o hb e) f0 f1 f3 f4 f5⟩
  self := fun _ _ _ _ _ st h => wpAny_pyIter_listiter st h
theorem turn_tuple {P : Program} {w : World} {K : PySem.W.Frag} {tg : Expr} (a it : Addr) : Turn P w K tg (Itt K a) [it] it (fun i h => h.IsTupleIter it a i) where
  mem := by simp
  obj := fun i h st b hb => by
    have e : b = it := by simpa using hb
    subst e
    obtain ⟨o, e, c, d⟩ := st
    exact ⟨o, e, fun v z => by rw [d] at z; cases z⟩
  keep := fun i h h' st k => st.at fun o e => k it (by simp) o e
  item := by
    intro X hP hw hK hc i pins s σ H E I hf st hg
    subst hP hw hK
    obtain ⟨xs, x, hq, hx⟩ := hg
    obtain ⟨its, rv, p, hz⟩ := I.tuple hq
    obtain ⟨u, hu, ru⟩ := rv.get hx
    obtain ⟨f0, f1, f2, f3, f4, f5⟩ := hf it (by simp)
    refine wpAny_pyNext_tuple_item st (show s.heap.IsTuple a its.toArray from p) (x := u) (by simpa using hu) fun h' st' sb => ?_
    have I1 : Inv X pins σ H { s with heap := h' } := I.turned (t' := s.toks) (fun b o hb e => (sb.2 b hb).trans e) f0 f1 f3 f4 f5
    obtain ⟨o, e, c, d⟩ := id st'
    exact ⟨u, rfl, go_of (s := { s with heap := h' }) e c d (by decide) ⟨x, H, I1, ru, ⟨rfl, fun ys hy => by rw [I.tuple_inj hy hq]; exact hx⟩, st', fun b hb => (hf b hb).1⟩⟩
  done := by
    intro X hP hw hK hc i pins s σ H E I hf st hg
    subst hP hw hK
    obtain ⟨xs, hq, hx⟩ := hg
    obtain ⟨its, rv, p, hz⟩ := I.tuple hq
    obtain ⟨f0, f1, f2, f3, f4, f5⟩ := hf it (by simp)
    have hl := rv.length
    exact wpAny_pyNext_tuple_end (I.ok.hd hc) st (show s.heap.IsTuple a its.toArray from p) (by simp; omega) fun h' eb => ⟨rfl, I.turned (t' := s.toks) (fun b o hb e => eb b o hb e) f0 f1 f3 f4 f5⟩
  self := fun _ _ _ _ _ st h => wpAny_pyIter_tupleiter st h
theorem turn_range {P : Program} {w : World} {K : PySem.W.Frag} {tg : Expr} (it : Addr) (lo : Int) (n : Nat) : Turn P w K tg (Itr lo n) [it] it (fun i h => IsRangeIter h it (lo + (i : Nat) * 1) ((n : Int) - (i : Nat)) 1) where
  mem := by simp
  obj := fun i h st b hb => by
    have e : b = it := by simpa using hb
    subst e
    exact ⟨_, st, fun v z => by
      have z' : Data.fields _ = Data.cell v := z
      cases z'⟩
  keep := fun i h h' st k => k it (by simp) _ st
  item := by
    intro X hP hw hK hc i pins s σ H E I hf st hg
    subst hP hw hK
    obtain ⟨f0, f1, f2, f3, f4, f5⟩ := hf it (by simp)
    have W := Walks.range (prog := X.prog) (w := X.w) (I.ok.hd hc) it lo 1 n
    refine W.item i s _ _ hg st fun v h' tk hv st' kk => ?_
    obtain ⟨t, rfl⟩ := hv
    have I1 : Inv X pins σ H { s with heap := h', toks := tk } := I.turned (fun b o hb e => kk b o (by simpa using hb) e) f0 f1 f3 f4 f5
    refine ⟨_, rfl, go_of (s := { s with heap := h', toks := tk }) (n := "range_iterator") st' rfl rfl (by decide) ⟨.int (lo + i), H, I1, ⟨t, ?_⟩, ⟨rfl, rfl⟩, st', fun b hb => (hf b hb).1⟩⟩
    rw [Int.mul_one]
  done := by
    intro X hP hw hK hc i pins s σ H E I hf st hg
    subst hP hw hK
    obtain ⟨f0, f1, f2, f3, f4, f5⟩ := hf it (by simp)
    exact wpAny_pyNext_range_end (I.ok.hd hc) st (by have : n ≤ i := hg; omega) fun h' eb => ⟨rfl, I.turned (t' := s.toks) (fun b o hb e => eb b o hb e) f0 f1 f3 f4 f5⟩
  self := fun _ _ _ _ _ st h => wpAny_pyIter_rangeiter st h
end L2

namespace L2
open PySem PySem.Spec PyProof.Rows
section
variable {X : Cx} {tg : Expr}
def iList (K : PySem.W.Frag) (tl : TE) : TI := fun σ H R => tl σ H fun x H1 => ∃ a, x = .ref a ∧ (∃ xs, SqL K H1 a xs) ∧ R (Itl K a) H1
def iTup (K : PySem.W.Frag) (tl : TE) : TI := fun σ H R => tl σ H fun x H1 => ∃ a, x = .ref a ∧ (∃ xs, SqT K H1 a xs) ∧ R (Itt K a) H1
theorem pi_list {l : Expr} {tl : TE} (hl : PE X l tl) : PI X tg l (iList X.K tl) := by
  intro pins s σ H R I h
  refine thn (hl pins s σ H _ I h) fun v s1 ⟨x, H1, I1, r1, q1⟩ => ?_
  obtain ⟨a, e, ⟨xs, hq⟩, q⟩ := q1
  subst e
  cases r1
  obtain ⟨its, rv, p, hz⟩ := I1.list hq
  refine wpAny_pyIter_list p.isList ?_
  refine ⟨s1.heap.objs.size, [s1.heap.objs.size], _, _, H1, rfl, I1.kept (t' := s1.toks) fun b o e => Heap.get?_push_of_some _ e, turn_list a _, ⟨_, Heap.get?_push_size _ rfl, rfl, rfl⟩, fun b hb => ?_, q⟩
  have e : b = s1.heap.objs.size := by simpa using hb
  subst e
  exact I1.fpOk (Nat.le_refl _) (I1.hok.fresh (Nat.le_refl _))
theorem pi_tup {l : Expr} {tl : TE} (hl : PE X l tl) : PI X tg l (iTup X.K tl) := by
  intro pins s σ H R I h
  refine thn (hl pins s σ H _ I h) fun v s1 ⟨x, H1, I1, r1, q1⟩ => ?_
  obtain ⟨a, e, ⟨xs, hq⟩, q⟩ := q1
  subst e
  cases r1
  obtain ⟨its, rv, p, hz⟩ := I1.tuple hq
  refine wpAny_pyIter_tuple (show s1.heap.IsTuple a its.toArray from p) ?_
  refine ⟨s1.heap.objs.size, [s1.heap.objs.size], _, _, H1, rfl, I1.kept (t' := s1.toks) fun b o e => Heap.get?_push_of_some _ e, turn_tuple a _, ⟨_, Heap.get?_push_size _ rfl, rfl, rfl⟩, fun b hb => ?_, q⟩
  have e : b = s1.heap.objs.size := by simpa using hb
  subst e
  exact I1.fpOk (Nat.le_refl _) (I1.hok.fresh (Nat.le_refl _))
/-- a range object just made, walked -/
theorem range_it {pins : List (Addr × Obj)} {σ : St} {H : Hp} {s : Shared} {R : It → Hp → Prop} {E : Value → Shared → Prop} {lo hi : Int} {t u v : Tok} {tk : Nat} (I : Inv X pins σ H s) (h1 : -(2 ^ 62) ≤ lo) (h2 : lo < 2 ^ 62) (h3 : -(2 ^ 62) ≤ hi) (h4 : hi < 2 ^ 62)
    (q : R (Itr lo (hi - lo).toNat) H) : wpAny (model X.prog X.w) X.A (pyIter (.ref s.heap.objs.size)) (PIE X pins σ tg R) E { s with heap := s.heap.push { cls := .type "range", data := .fields #[.int lo t, .int hi u, .int 1 v] }, toks := tk } := by
  refine wpAny_pyIter_range (IsRange.new ..) (small_one h1 h2 h3 h4) ?_
  have I1 : Inv X pins σ H { s with heap := s.heap.push { cls := .type "range", data := .fields #[.int lo t, .int hi u, .int 1 v] }, toks := tk } := I.kept fun b o e => Heap.get?_push_of_some _ e
  refine ⟨(s.heap.push { cls := .type "range", data := .fields #[.int lo t, .int hi u, .int 1 v] }).objs.size, [(s.heap.push { cls := .type "range", data := .fields #[.int lo t, .int hi u, .int 1 v] }).objs.size], _, _, H, rfl,
    I1.kept (t' := tk) fun b o e => Heap.get?_push_of_some _ e, turn_range _ lo (hi - lo).toNat, ?_, fun b hb => ?_, q⟩
  · have e1 : lo + ((0 : Nat) : Int) * 1 = lo := by simp
    have e2 : (((hi - lo).toNat : Nat) : Int) - ((0 : Nat) : Int) = Builtin.Range.rangeSize lo hi 1 := by rw [rangeSize_one]; split <;> omega
    show IsRangeIter _ _ (lo + ((0 : Nat) : Int) * 1) ((((hi - lo).toNat : Nat) : Int) - ((0 : Nat) : Int)) 1
    rw [e1, e2]
    exact Heap.get?_push_size _ rfl
  · have e : b = (s.heap.push { cls := .type "range", data := .fields #[.int lo t, .int hi u, .int 1 v] }).objs.size := by simpa using hb
    subst e
    exact I1.fpOk (Nat.le_refl _) (I1.hok.fresh (Nat.le_refl _))
def iRng1 (ta : TA) : TI := fun σ H R => ta σ H fun vs H1 => ∃ j : Int, vs = [.int j] ∧ -(2 ^ 62) ≤ j ∧ j < 2 ^ 62 ∧ R (Itr 0 j.toNat) H1
def iRng2 (ta : TA) : TI := fun σ H R => ta σ H fun vs H1 => ∃ i j : Int, vs = [.int i, .int j] ∧ (-(2 ^ 62) ≤ i ∧ i < 2 ^ 62 ∧ -(2 ^ 62) ≤ j ∧ j < 2 ^ 62) ∧ R (Itr i (j - i).toNat) H1
theorem pi_range1 {a : Expr} {ta : TA} {p pos : Pos} (hg : Gl X "range") (hm : X.mg "range" = none) (ha : PA X [a] ta) (hs : starEach [a] X.env = [(false, eval a X.env)] := by rfl) : PI X tg (.Call (.Name "range" p) [a] [] pos) (iRng1 ta) := by
  intro pins s σ H R I h
  refine Call_ (ld_blt I hg hm boot_range (PyProof.Rows.callWith_type1 (thn (ha pos pins s σ H _ I h) fun us s1 ⟨vs, H1, I1, r1, q1⟩ => ?_) hs rfl))
  obtain ⟨j, e, q1, q2, q⟩ := q1
  subst e
  cases r1 with
  | cons r rr =>
    cases rr
    obtain ⟨t, rfl⟩ := r
    exact call_range_1 (range_it I1 (by omega) (by omega) q1 q2 (by simpa using q))
theorem pi_range2 {a b : Expr} {ta : TA} {p pos : Pos} (hg : Gl X "range") (hm : X.mg "range" = none) (ha : PA X [a, b] ta) (hs : starEach [a, b] X.env = [(false, eval a X.env), (false, eval b X.env)] := by rfl) (hs2 : starEach [b] X.env = [(false, eval b X.env)] := by rfl) :
    PI X tg (.Call (.Name "range" p) [a, b] [] pos) (iRng2 ta) := by
  intro pins s σ H R I h
  refine Call_ (ld_blt I hg hm boot_range (PyProof.Rows.callWith_type1 (thn (ha pos pins s σ H _ I h) fun us s1 ⟨vs, H1, I1, r1, q1⟩ => ?_) (by rw [hs, hs2]) (by rw [hs2]; rfl)))
  obtain ⟨i, j, e, ⟨q1, q2, q3, q4⟩, q⟩ := q1
  subst e
  cases r1 with
  | cons r rr =>
    cases rr with
    | cons r' rr =>
      cases rr
      obtain ⟨t, rfl⟩ := r
      obtain ⟨t', rfl⟩ := r'
      exact call_range_2 (range_it I1 q1 q2 q3 q4 q)

/-! ### for -/
/-- W: the invariant by the turn and a measure; N: what the body is to reach -/
def tFor (wi : TI) (g : TG) (tb : TS) : TS := fun D σ H => wi σ H fun J H1 => ∃ W : Nat → Nat → St → Hp → Prop, (∃ m, W 0 m σ H1) ∧ ∀ i m σ H, W i m σ H →
  (J.stop i H ∧ D.nx σ H) ∨ (J.go i H ∧ ∃ N : St → Hp → Prop, (∀ σ' H', N σ' H' → ∃ m', m' < m ∧ W (i + 1) m' σ' H') ∧ ∀ x H', J.yld i H x H' → g x σ H' fun σ2 H2 => tb { D with nx := N, ct := N, bk := D.nx } σ2 H2)
/-- the records at fp as they stand -/
def pinsAt (fp : List Addr) (h : Heap) : List (Addr × Obj) := fp.filterMap fun b => (h.get? b).map fun o => (b, o)
theorem mem_pinsAt {fp : List Addr} {h : Heap} {b : Addr} {o : Obj} (hb : b ∈ fp) (e : h.get? b = some o) : (b, o) ∈ pinsAt fp h := List.mem_filterMap.mpr ⟨b, hb, by rw [e]; rfl⟩
theorem of_pinsAt {fp : List Addr} {h : Heap} {p : Addr × Obj} (hp : p ∈ pinsAt fp h) : p.1 ∈ fp ∧ h.get? p.1 = some p.2 := by
  obtain ⟨b, hb, e⟩ := List.mem_filterMap.mp hp
  cases q : h.get? b with
  | none => rw [q] at e; cases e
  | some o =>
    rw [q] at e
    have e' : (b, o) = p := Option.some.inj e
    subst e'
    exact ⟨hb, q⟩
theorem Inv.pinned {pins : List (Addr × Obj)} {σ : St} {H : Hp} {s : Shared} {fp : List Addr} (I : Inv X pins σ H s) (hf : ∀ b ∈ fp, FpOk X pins H b) (ho : ∀ b ∈ fp, ∃ o, s.heap.get? b = some o ∧ ∀ v, o.data ≠ .cell v) : Inv X (pins ++ pinsAt fp s.heap) σ H s :=
  I.pins_of fun p hp => (List.mem_append.mp hp).elim (fun z => I.pin p (List.mem_append_right _ z)) fun z => by
    obtain ⟨hb, e⟩ := of_pinsAt z
    obtain ⟨f0, f1, f2, _⟩ := hf p.1 hb
    obtain ⟨o, e', d⟩ := ho p.1 hb
    rw [e] at e'; cases e'
    exact ⟨e, f0, f1, f2, d⟩
theorem Inv.unpinned {pins pl : List (Addr × Obj)} {σ : St} {H : Hp} {s : Shared} (I : Inv X (pins ++ pl) σ H s) : Inv X pins σ H s := I.pins_of fun p hp => I.pin p (List.mem_append_right _ (List.mem_append_left _ hp))
theorem ps_for {iter : Expr} {body : List Stmt} {wi : TI} {g : TG} {tb : TS} {pos : Pos} (hp : PassesOwn (model X.prog X.w) X.A X.env X.xe) (hc : X.calm = true) (hi : PI X tg iter wi) (hg : PG X tg g) (hb : PSs X body tb)
    (hs : ∀ x, foldedSetIterable iter X.env x = pure x := by intro _; rfl) : PS X (.For tg iter body [] pos) (tFor wi g tb) := by
  intro pins s σ H D I h
  refine wpAny_For (thn (hi pins s σ H _ I h) fun v s1 h1 => thn h1 fun itv s2 h2 => ?_) hs
  obtain ⟨it, fp, tn, J, H2, e, I2, T, st2, f2, W, ⟨m0, w0⟩, turn⟩ := h2
  subst e
  -- what stays true of the iterator's objects through the loop
  have stat : ∀ {H' : Hp}, (∀ b ∈ fp, H' b = none) → ∀ b ∈ fp, FpOk X pins H' b := fun hn b hb => ⟨hn b hb, (f2 b hb).2⟩
  refine codeAny_forLoop_any (fun n s' => ∃ i σ' H', Inv X pins σ' H' s' ∧ tn i s'.heap ∧ (∀ b ∈ fp, H' b = none) ∧ W i n σ' H') ?_ m0 ⟨0, σ, H2, I2, st2, fun b hb => (f2 b hb).1, w0⟩
  rintro n s3 ⟨i, σ3, H3, I3, st3, fr3, w3⟩
  rcases turn i n σ3 H3 w3 with ⟨stop, qn⟩ | ⟨go, N, hN, step⟩
  · refine wpAny_passesOwn hp (thn (T.done X rfl rfl rfl hc i pins s3 σ3 H3 X.xe I3 (stat fr3) st3 stop) fun r s4 ⟨hr, I4⟩ => ?_)
    subst hr
    exact wpAny_execs_nil ⟨σ3, H3, I4, qn⟩
  · refine wpAny_passesOwn hp (thn (T.item X rfl rfl rfl hc i pins s3 σ3 H3 X.xe I3 (stat fr3) st3 go) fun r s4 ⟨u, hr, h4⟩ => ?_)
    subst hr
    refine wpAny_passesOwn hp (thn h4 fun _ s5 ⟨x, H5, I5, r5, y5, st5, fr5⟩ => ?_)
    have I5' := I5.pinned (stat fr5) (T.obj _ _ st5)
    refine wpAny_passesOwn hp (thn (hg _ s5 σ3 H5 x u _ I5' r5 (step x H5 y5)) fun _ s6 ⟨σ6, H6, I6, q6⟩ => ?_)
    refine wpAny_passesOwn hp (thn (hb _ s6 σ6 H6 _ I6 q6) fun f s7 q7 => ?_)
    have again : ∀ {σ7 : St} {H7 : Hp}, Inv X (pins ++ pinsAt fp s5.heap) σ7 H7 s7 → N σ7 H7 → ∃ m, m < n ∧ ∃ i σ' H', Inv X pins σ' H' s7 ∧ tn i s7.heap ∧ (∀ b ∈ fp, H' b = none) ∧ W i m σ' H' := fun {σ7 H7} I7 n7 => by
      obtain ⟨m', hm, w7⟩ := hN σ7 H7 n7
      refine ⟨m', hm, i + 1, σ7, H7, I7.unpinned, T.keep _ _ _ st5 fun b hb o e => (I7.pin (b, o) (List.mem_append_right _ (List.mem_append_right _ (mem_pinsAt hb e)))).1, fun b hb => ?_, w7⟩
      obtain ⟨o, e, d⟩ := T.obj _ _ st5 b hb
      exact (I7.pin (b, o) (List.mem_append_right _ (List.mem_append_right _ (mem_pinsAt hb e)))).2.1
    cases f with
    | next => obtain ⟨σ7, H7, I7, n7⟩ := q7; exact again I7 n7
    | cont => obtain ⟨σ7, H7, I7, n7⟩ := q7; exact again I7 n7
    | brk => obtain ⟨σ7, H7, I7, q7⟩ := q7; exact ⟨σ7, H7, I7.unpinned, q7⟩
    | ret v => obtain ⟨x7, σ7, H7, I7, r7, q7⟩ := q7; exact ⟨x7, σ7, H7, I7.unpinned, r7, q7⟩
end

/-! ### the forms one uses -/
/-- over a list that the body leaves as it is -/
theorem for_list {K : PySem.W.Frag} {a : Addr} {xs : List V} {g : TG} {tb : TS} {D : Ends} {σ : St} {H : Hp} (Pv : Nat → St → Hp → Prop) (h0 : Pv 0 σ H) (hl : ∀ i σ H, i ≤ xs.length → Pv i σ H → SqL K H a xs)
    (hs : ∀ i x σ H, xs[i]? = some x → Pv i σ H → g x σ H fun σ2 H2 => tb { D with nx := Pv (i + 1), ct := Pv (i + 1), bk := D.nx } σ2 H2) (hd : ∀ σ H, Pv xs.length σ H → D.nx σ H) :
    ∃ W : Nat → Nat → St → Hp → Prop, (∃ m, W 0 m σ H) ∧ ∀ i m σ H, W i m σ H →
      ((Itl K a).stop i H ∧ D.nx σ H) ∨ ((Itl K a).go i H ∧ ∃ N : St → Hp → Prop, (∀ σ' H', N σ' H' → ∃ m', m' < m ∧ W (i + 1) m' σ' H') ∧ ∀ x H', (Itl K a).yld i H x H' → g x σ H' fun σ2 H2 => tb { D with nx := N, ct := N, bk := D.nx } σ2 H2) := by
  refine ⟨fun i m σ H => m = xs.length - i ∧ i ≤ xs.length ∧ Pv i σ H, ⟨xs.length, by simp, Nat.zero_le _, h0⟩, ?_⟩
  rintro i m σ H ⟨rfl, hi, p⟩
  have q := hl i σ H hi p
  by_cases hlt : i < xs.length
  · refine .inr ⟨⟨xs, xs[i], q, by simp [hlt]⟩, Pv (i + 1), fun σ' H' p' => ⟨xs.length - (i + 1), by omega, rfl, hlt, p'⟩, fun x H' y => ?_⟩
    obtain ⟨e, y⟩ := y
    subst e
    exact hs i x σ _ (y xs q) p
  · have e : i = xs.length := by omega
    subst e
    exact .inl ⟨⟨xs, q, Nat.le_refl _⟩, hd σ H p⟩
theorem for_tup {K : PySem.W.Frag} {a : Addr} {xs : List V} {g : TG} {tb : TS} {D : Ends} {σ : St} {H : Hp} (Pv : Nat → St → Hp → Prop) (h0 : Pv 0 σ H) (hl : ∀ i σ H, i ≤ xs.length → Pv i σ H → SqT K H a xs)
    (hs : ∀ i x σ H, xs[i]? = some x → Pv i σ H → g x σ H fun σ2 H2 => tb { D with nx := Pv (i + 1), ct := Pv (i + 1), bk := D.nx } σ2 H2) (hd : ∀ σ H, Pv xs.length σ H → D.nx σ H) :
    ∃ W : Nat → Nat → St → Hp → Prop, (∃ m, W 0 m σ H) ∧ ∀ i m σ H, W i m σ H →
      ((Itt K a).stop i H ∧ D.nx σ H) ∨ ((Itt K a).go i H ∧ ∃ N : St → Hp → Prop, (∀ σ' H', N σ' H' → ∃ m', m' < m ∧ W (i + 1) m' σ' H') ∧ ∀ x H', (Itt K a).yld i H x H' → g x σ H' fun σ2 H2 => tb { D with nx := N, ct := N, bk := D.nx } σ2 H2) := by
  refine ⟨fun i m σ H => m = xs.length - i ∧ i ≤ xs.length ∧ Pv i σ H, ⟨xs.length, by simp, Nat.zero_le _, h0⟩, ?_⟩
  rintro i m σ H ⟨rfl, hi, p⟩
  have q := hl i σ H hi p
  by_cases hlt : i < xs.length
  · refine .inr ⟨⟨xs, xs[i], q, by simp [hlt]⟩, Pv (i + 1), fun σ' H' p' => ⟨xs.length - (i + 1), by omega, rfl, hlt, p'⟩, fun x H' y => ?_⟩
    obtain ⟨e, y⟩ := y
    subst e
    exact hs i x σ _ (y xs q) p
  · have e : i = xs.length := by omega
    subst e
    exact .inl ⟨⟨xs, q, Nat.le_refl _⟩, hd σ H p⟩
theorem for_range {lo : Int} {n : Nat} {g : TG} {tb : TS} {D : Ends} {σ : St} {H : Hp} (Pv : Nat → St → Hp → Prop) (h0 : Pv 0 σ H)
    (hs : ∀ i σ H, i < n → Pv i σ H → g (.int (lo + i)) σ H fun σ2 H2 => tb { D with nx := Pv (i + 1), ct := Pv (i + 1), bk := D.nx } σ2 H2) (hd : ∀ σ H, Pv n σ H → D.nx σ H) :
    ∃ W : Nat → Nat → St → Hp → Prop, (∃ m, W 0 m σ H) ∧ ∀ i m σ H, W i m σ H →
      ((Itr lo n).stop i H ∧ D.nx σ H) ∨ ((Itr lo n).go i H ∧ ∃ N : St → Hp → Prop, (∀ σ' H', N σ' H' → ∃ m', m' < m ∧ W (i + 1) m' σ' H') ∧ ∀ x H', (Itr lo n).yld i H x H' → g x σ H' fun σ2 H2 => tb { D with nx := N, ct := N, bk := D.nx } σ2 H2) := by
  refine ⟨fun i m σ H => m = n - i ∧ i ≤ n ∧ Pv i σ H, ⟨n, by simp, Nat.zero_le _, h0⟩, ?_⟩
  rintro i m σ H ⟨rfl, hi, p⟩
  by_cases hlt : i < n
  · refine .inr ⟨hlt, Pv (i + 1), fun σ' H' p' => ⟨n - (i + 1), by omega, rfl, hlt, p'⟩, fun x H' y => ?_⟩
    obtain ⟨e, y⟩ := y
    subst e y
    exact hs i σ _ hlt p
  · have e : i = n := by omega
    subst e
    exact .inl ⟨Nat.le_refl _, hd σ H p⟩
/-- while, by a word and a measure of the state -/
theorem while_by {c : TT} {tb : TS} {D : Ends} {σ : St} {H : Hp} (Pv : St → Hp → Prop) (μ : St → Hp → Nat) (h0 : Pv σ H)
    (hs : ∀ σ H, Pv σ H → c σ H fun b H1 => if b = true then tb { D with nx := fun σ' H' => Pv σ' H' ∧ μ σ' H' < μ σ H, ct := fun σ' H' => Pv σ' H' ∧ μ σ' H' < μ σ H, bk := D.nx } σ H1 else D.nx σ H1)
    (mono : ∀ σ H Q Q', (∀ b H1, Q b H1 → Q' b H1) → c σ H Q → c σ H Q') : tWhile c tb D σ H := by
  refine ⟨fun m σ H => m = μ σ H ∧ Pv σ H, ⟨_, rfl, h0⟩, ?_⟩
  rintro m σ H ⟨rfl, p⟩
  refine mono σ H _ _ (fun b H1 q => ?_) (hs σ H p)
  cases b with
  | true => exact ⟨_, fun σ' H' ⟨p', l⟩ => ⟨_, l, rfl, p'⟩, q⟩
  | false => exact q
end L2

namespace L2
open PySem PySem.Spec PyProof.Rows

abbrev R2 := V → V → Hp → VK → Prop
/-- a two-place operation on values: f is binaryOp op, inplaceOp op or compareOp op -/
def OpR (X : Cx) (f : Value → Value → Sem Value) (r : R2) : Prop :=
  ∀ (pins : List (Addr × Obj)) (s : Shared) (σ : St) (H : Hp) (x y : V) (v u : Value) (Q : VK), Inv X pins σ H s → RelV x v → RelV y u → r x y H Q →
    wpAny (model X.prog X.w) X.A (f v u) (EP X pins σ Q) X.xe s
/-- a one-place operation -/
def UnR (X : Cx) (f : Value → Sem Value) (r : V → Hp → VK → Prop) : Prop :=
  ∀ (pins : List (Addr × Obj)) (s : Shared) (σ : St) (H : Hp) (x : V) (v : Value) (Q : VK), Inv X pins σ H s → RelV x v → r x H Q →
    wpAny (model X.prog X.w) X.A (f v) (EP X pins σ Q) X.xe s
/-- a call of a value that is known (a builtin, a type) with values -/
def CallR (X : Cx) (f : Value) (r : List V → Hp → VK → Prop) : Prop :=
  ∀ (pins : List (Addr × Obj)) (s : Shared) (σ : St) (H : Hp) (xs : List V) (us : List Value) (Q : VK), Inv X pins σ H s → Vals xs us → r xs H Q →
    wpAny (model X.prog X.w) X.A (call f us) (EP X pins σ Q) X.xe s
/-- a value's truth -/
def TruR (X : Cx) (r : V → Hp → (Bool → Hp → Prop) → Prop) : Prop :=
  ∀ (pins : List (Addr × Obj)) (s : Shared) (σ : St) (H : Hp) (x : V) (v : Value) (Q : Bool → Hp → Prop), Inv X pins σ H s → RelV x v → r x H Q →
    wpAny (model X.prog X.w) X.A (truthy v) (TP X pins σ Q) X.xe s

def tOp (r : R2) (ta tb : TE) : TE := fun σ H Q => ta σ H fun x H1 => tb σ H1 fun y H2 => r x y H2 Q
def tUn (r : V → Hp → VK → Prop) (ta : TE) : TE := fun σ H Q => ta σ H fun x H1 => r x H1 Q
/-- ints in, under C, and a value out -/
def rI (C : Int → Int → Prop) (g : Int → Int → V) : R2 := fun x y H Q => ∃ i j, x = .int i ∧ y = .int j ∧ C i j ∧ Q (g i j) H
def rI0 (g : Int → Int → V) : R2 := fun x y H Q => ∃ i j, x = .int i ∧ y = .int j ∧ Q (g i j) H
def rU (g : Int → V) : V → Hp → VK → Prop := fun x H Q => ∃ i, x = .int i ∧ Q (g i) H

section
variable {X : Cx} {a b c : Expr} {ta tb tc : TE} {pos : Pos}

theorem binT (ha : PE X a ta) (hb : PE X b tb) {pins : List (Addr × Obj)} {s : Shared} {σ : St} {H : Hp} {R : V → V → Hp → Prop} (I : Inv X pins σ H s)
    (h : ta σ H fun x H1 => tb σ H1 fun y H2 => R x y H2) {Q : Value → Shared → Prop} {f : Value → Value → Sem Value}
    (hf : ∀ v u s2 x y H2, Inv X pins σ H2 s2 → RelV x v → RelV y u → R x y H2 → wpAny (model X.prog X.w) X.A (f v u) Q X.xe s2) :
    wpAny (model X.prog X.w) X.A (eval a X.env) (fun v s₁ => wpAny (model X.prog X.w) X.A (eval b X.env) (fun u s₂ => wpAny (model X.prog X.w) X.A (f v u) Q X.xe s₂) X.xe s₁) X.xe s := by
  refine thn (ha pins s σ H _ I h) fun v s1 ⟨x, H1, I1, r1, q1⟩ => ?_
  refine thn (hb pins s1 σ H1 _ I1 q1) fun u s2 ⟨y, H2, I2, r2, q2⟩ => ?_
  exact hf v u s2 x y H2 I2 r1 r2 q2

theorem pe_op {op : Operator} {r : R2} (ho : OpR X (binaryOp op) r) (ha : PE X a ta) (hb : PE X b tb) : PE X (.BinOp a op b pos) (tOp r ta tb) := by
  intro pins s σ H Q I h
  exact wpAny_BinOp (binT ha hb I h fun v u s2 x y H2 I2 rx ry q => ho pins s2 σ H2 x y v u Q I2 rx ry q)
theorem pe_un {op : UnaryOp} {r : V → Hp → VK → Prop} (ho : UnR X (unaryOp op) r) (ha : PE X a ta) : PE X (.UnaryOp op a pos) (tUn r ta) := by
  intro pins s σ H Q I h
  exact UnaryOp_ (thn (ha pins s σ H _ I h) fun v s1 ⟨x, H1, I1, r1, q1⟩ => ho pins s1 σ H1 x v Q I1 r1 q1)
/-- a op= e at a name: the name's slot i -/
theorem augR {op : Operator} {r : R2} (ho : OpR X (inplaceOp op) r) {pins : List (Addr × Obj)} {s : Shared} {σ : St} {H : Hp} {x y : V} {v u : Value} {Q : VK} (I : Inv X pins σ H s)
    (rx : RelV x v) (ry : RelV y u) (q : r x y H Q) : wpAny (model X.prog X.w) X.A (inplaceOp op v u) (EP X pins σ Q) X.xe s := ho pins s σ H x y v u Q I rx ry q

/-! ### ints -/
theorem opI {f : Value → Value → Sem Value} {C : Int → Int → Prop} {g : Int → Int → Int}
    (rule : ∀ (i j : Int) (t u : Tok) (s : Shared) (Q : Value → Shared → Prop) (E : Value → Shared → Prop), C i j → Q (.int (g i j) s.toks) { s with toks := s.toks + 1 } → wpAny (model X.prog X.w) X.A (f (.int i t) (.int j u)) Q E s) :
    OpR X f (rI C fun i j => .int (g i j)) := by
  intro pins s σ H x y v u Q I rx ry h
  obtain ⟨i, j, rfl, rfl, hc, q⟩ := h
  obtain ⟨t, rfl⟩ := rx
  obtain ⟨t', rfl⟩ := ry
  exact rule i j t t' s _ _ hc ⟨.int (g i j), H, I.tok _, ⟨_, rfl⟩, q⟩
theorem opI0 {f : Value → Value → Sem Value} {g : Int → Int → Int}
    (rule : ∀ (i j : Int) (t u : Tok) (s : Shared) (Q : Value → Shared → Prop) (E : Value → Shared → Prop), Q (.int (g i j) s.toks) { s with toks := s.toks + 1 } → wpAny (model X.prog X.w) X.A (f (.int i t) (.int j u)) Q E s) :
    OpR X f (rI0 fun i j => .int (g i j)) := by
  intro pins s σ H x y v u Q I rx ry h
  obtain ⟨i, j, rfl, rfl, q⟩ := h
  obtain ⟨t, rfl⟩ := rx
  obtain ⟨t', rfl⟩ := ry
  exact rule i j t t' s _ _ ⟨.int (g i j), H, I.tok _, ⟨_, rfl⟩, q⟩
theorem opB0 {f : Value → Value → Sem Value} {g : Int → Int → Bool}
    (rule : ∀ (i j : Int) (t u : Tok) (s : Shared) (Q : Value → Shared → Prop) (E : Value → Shared → Prop), Q (.bool (g i j)) s → wpAny (model X.prog X.w) X.A (f (.int i t) (.int j u)) Q E s) :
    OpR X f (rI0 fun i j => .bl (g i j)) := by
  intro pins s σ H x y v u Q I rx ry h
  obtain ⟨i, j, rfl, rfl, q⟩ := h
  obtain ⟨t, rfl⟩ := rx
  obtain ⟨t', rfl⟩ := ry
  exact rule i j t t' s _ _ ⟨.bl (g i j), H, I, rfl, q⟩

def CDiv (i j : Int) : Prop := 0 < j ∧ j < 1073741824
def CDivN (i j : Int) : Prop := j ≠ 0 ∧ j.natAbs < 1073741824
def CPow (i j : Int) : Prop := 0 ≤ j ∧ j ≤ 1000000 ∧ i.natAbs < 2 ^ 64
def CMul (i j : Int) : Prop := (-(2 ^ 64) < i ∧ i < 2 ^ 64) ∨ (-(2 ^ 64) < j ∧ j < 2 ^ 64)
theorem CMul.ok {i j : Int} (h : CMul i j) : IntMulOk i j := by
  rcases h with ⟨h1, h2⟩ | ⟨h1, h2⟩
  · exact .of_left (intBits_le_64 h1 h2)
  · exact .of_right (intBits_le_64 h1 h2)
theorem two_pow_nn (k : Nat) : (0 : Int) ≤ 2 ^ k := by
  rw [two_pow_cast]
  exact Int.natCast_nonneg _

theorem op_add : OpR X (binaryOp .Add) (rI0 fun i j => .int (i + j)) := opI0 fun _ _ _ _ _ _ _ q => add_int q
theorem op_sub : OpR X (binaryOp .Sub) (rI0 fun i j => .int (i - j)) := opI0 fun _ _ _ _ _ _ _ q => sub_int q
theorem op_mul : OpR X (binaryOp .Mult) (rI CMul fun i j => .int (i * j)) := opI fun _ _ _ _ _ _ _ hc q => mul_int q hc.ok
/-- // by a positive divisor -/
theorem op_fdiv : OpR X (binaryOp .FloorDiv) (rI CDiv fun i j => .int (i / j)) := opI fun i j _ _ _ _ _ hc q => by
  have h1 : (0 : Int) < j := hc.1
  have h2 : j < 1073741824 := hc.2
  exact floordiv_int (by omega) (by rw [Int.fdiv_eq_ediv_of_nonneg i (by omega)]; exact q) (.inl (PyProof.noPylong_small (by omega)))
theorem op_fdivN : OpR X (binaryOp .FloorDiv) (rI CDivN fun i j => .int (i.fdiv j)) := opI fun _ _ _ _ _ _ _ hc q => floordiv_int hc.1 q (.inl (PyProof.noPylong_small hc.2))
/-- % by a positive divisor of any size -/
theorem op_mod : OpR X (binaryOp .Mod) (rI (fun _ j => 0 < j) fun i j => .int (i % j)) := opI fun i j _ _ _ _ _ hc q => by
  have h1 : (0 : Int) < j := hc
  exact mod_int' (by omega) (by rw [Int.fmod_eq_emod_of_nonneg i (by omega)]; exact q)
theorem op_modN : OpR X (binaryOp .Mod) (rI (fun _ j => j ≠ 0) fun i j => .int (i.fmod j)) := opI fun _ _ _ _ _ _ _ hc q => mod_int' hc q
theorem op_pow : OpR X (binaryOp .Pow) (rI CPow fun i j => .int (i ^ j.toNat)) := opI fun _ _ _ _ _ _ _ hc q => pow_int_small hc.1 hc.2.1 hc.2.2 q
theorem op_shl : OpR X (binaryOp .LShift) (rI CPow fun i j => .int (i * 2 ^ j.toNat)) := opI fun _ _ _ _ _ _ _ hc q => lshift_int_small hc.1 hc.2.1 hc.2.2 q
theorem op_shr : OpR X (binaryOp .RShift) (rI (fun _ j => 0 ≤ j) fun i j => .int (i / 2 ^ j.toNat)) := opI fun i j _ _ _ _ _ hc q =>
  rshift_int hc (by rw [Int.fdiv_eq_ediv_of_nonneg i (two_pow_nn _)]; exact q)
theorem op_and : OpR X (binaryOp .BitAnd) (rI0 fun i j => .int (Builtin.bitAnd i j)) := opI0 fun _ _ _ _ _ _ _ q => and_int q
theorem op_or : OpR X (binaryOp .BitOr) (rI0 fun i j => .int (Builtin.bitOr i j)) := opI0 fun _ _ _ _ _ _ _ q => or_int q
theorem op_xor : OpR X (binaryOp .BitXor) (rI0 fun i j => .int (Builtin.bitXor i j)) := opI0 fun _ _ _ _ _ _ _ q => xor_int q

theorem iop_add : OpR X (inplaceOp .Add) (rI0 fun i j => .int (i + j)) := opI0 fun _ _ _ _ _ _ _ q => iadd_int q
theorem iop_sub : OpR X (inplaceOp .Sub) (rI0 fun i j => .int (i - j)) := opI0 fun _ _ _ _ _ _ _ q => isub_int q
theorem iop_mul : OpR X (inplaceOp .Mult) (rI CMul fun i j => .int (i * j)) := opI fun _ _ _ _ _ _ _ hc q => imul_int q hc.ok
theorem iop_fdiv : OpR X (inplaceOp .FloorDiv) (rI CDiv fun i j => .int (i / j)) := opI fun i j _ _ _ _ _ hc q => by
  have h1 : (0 : Int) < j := hc.1
  have h2 : j < 1073741824 := hc.2
  exact ifloordiv_int (by omega) (by rw [Int.fdiv_eq_ediv_of_nonneg i (by omega)]; exact q) (.inl (PyProof.noPylong_small (by omega)))
theorem iop_mod : OpR X (inplaceOp .Mod) (rI (fun _ j => 0 < j) fun i j => .int (i % j)) := opI fun i j _ _ _ _ _ hc q => by
  have h1 : (0 : Int) < j := hc
  exact imod_int (by omega) (by rw [Int.fmod_eq_emod_of_nonneg i (by omega)]; exact q)
theorem iop_shl : OpR X (inplaceOp .LShift) (rI CPow fun i j => .int (i * 2 ^ j.toNat)) := opI fun _ _ _ _ _ _ _ hc q => ilshift_int_small hc.1 hc.2.1 hc.2.2 q
theorem iop_shr : OpR X (inplaceOp .RShift) (rI (fun _ j => 0 ≤ j) fun i j => .int (i / 2 ^ j.toNat)) := opI fun i j _ _ _ _ _ hc q =>
  irshift_int hc (by rw [Int.fdiv_eq_ediv_of_nonneg i (two_pow_nn _)]; exact q)
theorem iop_and : OpR X (inplaceOp .BitAnd) (rI0 fun i j => .int (Builtin.bitAnd i j)) := opI0 fun _ _ _ _ _ _ _ q => iand_int q
theorem iop_or : OpR X (inplaceOp .BitOr) (rI0 fun i j => .int (Builtin.bitOr i j)) := opI0 fun _ _ _ _ _ _ _ q => ior_int q
theorem iop_xor : OpR X (inplaceOp .BitXor) (rI0 fun i j => .int (Builtin.bitXor i j)) := opI0 fun _ _ _ _ _ _ _ q => ixor_int q

theorem unI {f : Value → Sem Value} {g : Int → Int}
    (rule : ∀ (i : Int) (t : Tok) (s : Shared) (Q : Value → Shared → Prop) (E : Value → Shared → Prop), Q (.int (g i) s.toks) { s with toks := s.toks + 1 } → wpAny (model X.prog X.w) X.A (f (.int i t)) Q E s) :
    UnR X f (rU fun i => .int (g i)) := by
  intro pins s σ H x v Q I rx h
  obtain ⟨i, rfl, q⟩ := h
  obtain ⟨t, rfl⟩ := rx
  exact rule i t s _ _ ⟨.int (g i), H, I.tok _, ⟨_, rfl⟩, q⟩
theorem un_neg : UnR X (unaryOp .USub) (rU fun i => .int (-i)) := unI fun _ _ _ _ _ q => neg_int q
theorem un_inv : UnR X (unaryOp .Invert) (rU fun i => .int (Builtin.bitNot i)) := unI fun _ _ _ _ _ q => invert_int q

/-! ### bools among ints: n += (a < b) -/
theorem op_add_ib : OpR X (binaryOp .Add) (fun x y H Q => ∃ i k, x = .int i ∧ y = .bl k ∧ Q (.int (i + b2i k)) H) := by
  intro pins s σ H x y v u Q I rx ry h
  obtain ⟨i, k, rfl, rfl, q⟩ := h
  obtain ⟨t, rfl⟩ := rx
  cases ry
  exact add_int_bool ⟨.int (i + b2i k), H, I.tok _, ⟨_, rfl⟩, q⟩
end

/-! ### comparisons -/
/-- the scalars that == tells apart as data does -/
def scal : V → V → Bool
  | .non, .non => true | .non, .int _ => true | .int _, .non => true | .non, .bl _ => true | .bl _, .non => true | .non, .str _ => true | .str _, .non => true
  | .int _, .int _ => true | .bl _, .bl _ => true | .str _, .str _ => true | .byt _, .byt _ => true
  | .int _, .str _ => true | .str _, .int _ => true | .bl _, .str _ => true | .str _, .bl _ => true
  | _, _ => false
def rEq : R2 := fun x y H Q => scal x y = true ∧ Q (.bl (decide (x = y))) H
def rNe : R2 := fun x y H Q => scal x y = true ∧ Q (.bl (!decide (x = y))) H

theorem dec_int {i j : Int} : decide (V.int i = V.int j) = (i == j) := by
  rw [Bool.eq_iff_iff]
  simp
theorem dec_bl {i j : Bool} : decide (V.bl i = V.bl j) = (i == j) := by
  rw [Bool.eq_iff_iff]
  simp
theorem dec_str {i j : Str} : decide (V.str i = V.str j) = (i == j) := by
  rw [Bool.eq_iff_iff]
  simp
theorem dec_byt {i j : Array UInt8} : decide (V.byt i = V.byt j) = (i.toList == j.toList) := by
  rw [Bool.eq_iff_iff]
  cases i
  cases j
  simp

section
variable {X : Cx} {a b c : Expr} {ta tb tc : TE} {pos : Pos}
theorem fin_bl {pins : List (Addr × Obj)} {σ : St} {H : Hp} {s : Shared} {Q : VK} {k k' : Bool} (I : Inv X pins σ H s) (q : Q (.bl k) H) (e : k = k') : EP X pins σ Q (.bool k') s := by
  subst e
  exact ⟨.bl k, H, I, rfl, q⟩
theorem op_eq : OpR X (compareOp .Eq) rEq := by
  intro pins s σ H x y v u Q I rx ry h
  obtain ⟨hs, q⟩ := h
  cases x with
  | non =>
    cases rx
    cases y with
    | non => cases ry; exact PySem.EqNone.eq_none_none (fin_bl I q (by simp))
    | bl j => cases ry; exact PySem.EqNone.eq_none_bool (fin_bl I q (by simp))
    | int j => obtain ⟨t', rfl⟩ := ry; exact PySem.EqNone.eq_none_int (fin_bl I q (by simp))
    | str j => obtain ⟨t', rfl⟩ := ry; exact PySem.EqNone.eq_none_str (fin_bl I q (by simp))
    | _ => exact absurd (show false = true from hs) Bool.false_ne_true
  | bl i =>
    cases rx
    cases y with
    | non => cases ry; exact PySem.EqNone.eq_bool_none (fin_bl I q (by simp))
    | bl j => cases ry; exact eq_bool (fin_bl I q dec_bl)
    | str j => obtain ⟨t', rfl⟩ := ry; exact PySem.EqMixed.eq_bool_str (fin_bl I q (by simp))
    | _ => exact absurd (show false = true from hs) Bool.false_ne_true
  | int i =>
    obtain ⟨t, rfl⟩ := rx
    cases y with
    | non => cases ry; exact PySem.EqNone.eq_int_none (fin_bl I q (by simp))
    | int j => obtain ⟨t', rfl⟩ := ry; exact eq_int (fin_bl I q dec_int)
    | str j => obtain ⟨t', rfl⟩ := ry; exact PySem.EqMixed.eq_int_str (fin_bl I q (by simp))
    | _ => exact absurd (show false = true from hs) Bool.false_ne_true
  | str i =>
    obtain ⟨t, rfl⟩ := rx
    cases y with
    | non => cases ry; exact PySem.EqNone.eq_str_none (fin_bl I q (by simp))
    | bl j => cases ry; exact PySem.EqMixed.eq_str_bool (fin_bl I q (by simp))
    | int j => obtain ⟨t', rfl⟩ := ry; exact PySem.EqMixed.eq_str_int (fin_bl I q (by simp))
    | str j => obtain ⟨t', rfl⟩ := ry; exact eq_str (fin_bl I q dec_str)
    | _ => exact absurd (show false = true from hs) Bool.false_ne_true
  | byt i =>
    obtain ⟨t, rfl⟩ := rx
    cases y with
    | byt j => obtain ⟨t', rfl⟩ := ry; exact PySem.W.eq_bytes (fin_bl I q dec_byt)
    | _ => exact absurd (show false = true from hs) Bool.false_ne_true
  | _ => cases y <;> exact absurd (show false = true from hs) Bool.false_ne_true
theorem op_ne : OpR X (compareOp .NotEq) rNe := by
  intro pins s σ H x y v u Q I rx ry h
  obtain ⟨hs, q⟩ := h
  cases x with
  | non =>
    cases rx
    cases y with
    | non => cases ry; exact PySem.EqNone.ne_none_none (fin_bl I q (by simp))
    | bl j => cases ry; exact PySem.EqNone.ne_none_bool (fin_bl I q (by simp))
    | int j => obtain ⟨t', rfl⟩ := ry; exact PySem.EqNone.ne_none_int (fin_bl I q (by simp))
    | str j => obtain ⟨t', rfl⟩ := ry; exact PySem.EqNone.ne_none_str (fin_bl I q (by simp))
    | _ => exact absurd (show false = true from hs) Bool.false_ne_true
  | bl i =>
    cases rx
    cases y with
    | non => cases ry; exact PySem.EqNone.ne_bool_none (fin_bl I q (by simp))
    | bl j => cases ry; exact ne_bool (fin_bl I q (congrArg not dec_bl))
    | str j => obtain ⟨t', rfl⟩ := ry; exact PySem.EqMixed.ne_bool_str (fin_bl I q (by simp))
    | _ => exact absurd (show false = true from hs) Bool.false_ne_true
  | int i =>
    obtain ⟨t, rfl⟩ := rx
    cases y with
    | non => cases ry; exact PySem.EqNone.ne_int_none (fin_bl I q (by simp))
    | int j => obtain ⟨t', rfl⟩ := ry; exact ne_int (fin_bl I q (congrArg not dec_int))
    | str j => obtain ⟨t', rfl⟩ := ry; exact PySem.EqMixed.ne_int_str (fin_bl I q (by simp))
    | _ => exact absurd (show false = true from hs) Bool.false_ne_true
  | str i =>
    obtain ⟨t, rfl⟩ := rx
    cases y with
    | non => cases ry; exact PySem.EqNone.ne_str_none (fin_bl I q (by simp))
    | bl j => cases ry; exact PySem.EqMixed.ne_str_bool (fin_bl I q (by simp))
    | int j => obtain ⟨t', rfl⟩ := ry; exact PySem.EqMixed.ne_str_int (fin_bl I q (by simp))
    | str j => obtain ⟨t', rfl⟩ := ry; exact ne_str (fin_bl I q (congrArg not dec_str))
    | _ => exact absurd (show false = true from hs) Bool.false_ne_true
  | byt i =>
    obtain ⟨t, rfl⟩ := rx
    cases y with
    | byt j => obtain ⟨t', rfl⟩ := ry; exact PySem.W.ne_bytes (fin_bl I q (congrArg not dec_byt))
    | _ => exact absurd (show false = true from hs) Bool.false_ne_true
  | _ => cases y <;> exact absurd (show false = true from hs) Bool.false_ne_true

theorem op_lt : OpR X (compareOp .Lt) (rI0 fun i j => .bl (decide (i < j))) := opB0 fun _ _ _ _ _ _ _ q => lt_int q
theorem op_le : OpR X (compareOp .LtE) (rI0 fun i j => .bl (decide (i ≤ j))) := opB0 fun _ _ _ _ _ _ _ q => le_int q
theorem op_gt : OpR X (compareOp .Gt) (rI0 fun i j => .bl (decide (j < i))) := opB0 fun _ _ _ _ _ _ _ q => gt_int q
theorem op_ge : OpR X (compareOp .GtE) (rI0 fun i j => .bl (decide (j ≤ i))) := opB0 fun _ _ _ _ _ _ _ q => ge_int q
theorem op_lt_str : OpR X (compareOp .Lt) (fun x y H Q => ∃ i j, x = .str i ∧ y = .str j ∧ Q (.bl (decide (i.cps.toList < j.cps.toList))) H) := by
  intro pins s σ H x y v u Q I rx ry h
  obtain ⟨i, j, rfl, rfl, q⟩ := h
  obtain ⟨t, rfl⟩ := rx
  obtain ⟨t', rfl⟩ := ry
  exact lt_str (fin_bl I q rfl)
/-- the one string within the other -/
theorem op_in_str : OpR X (compareOp .In) (fun x y H Q => ∃ i j, x = .str i ∧ y = .str j ∧ Q (.bl (!(Builtin.Str.occurrences j i 0 j.length 1).isEmpty)) H) := by
  intro pins s σ H x y v u Q I rx ry h
  obtain ⟨i, j, rfl, rfl, q⟩ := h
  obtain ⟨t, rfl⟩ := rx
  obtain ⟨t', rfl⟩ := ry
  exact in_str (fin_bl I q rfl)

/-- is None, is not None: the right side a value none -/
theorem op_isN : OpR X (compareOp .Is) (fun x y H Q => y = .non ∧ Q (.bl (decide (x = .non))) H) := by
  intro pins s σ H x y v u Q I rx ry h
  obtain ⟨rfl, q⟩ := h
  cases ry
  refine is_none_gen (fin_bl I q ?_)
  cases x <;> first
    | (cases rx; rfl)
    | (obtain ⟨t, rfl⟩ := rx; rfl)
theorem op_notN : OpR X (compareOp .IsNot) (fun x y H Q => y = .non ∧ Q (.bl (!decide (x = .non))) H) := by
  intro pins s σ H x y v u Q I rx ry h
  obtain ⟨rfl, q⟩ := h
  cases ry
  refine isnot_none_gen (fin_bl I q ?_)
  cases x <;> first
    | (cases rx; rfl)
    | (obtain ⟨t, rfl⟩ := rx; rfl)

theorem op_notin_str : OpR X (compareOp .NotIn) (fun x y H Q => ∃ i j, x = .str i ∧ y = .str j ∧ Q (.bl (!(!(Builtin.Str.occurrences j i 0 j.length 1).isEmpty))) H) := by
  intro pins s σ H x y v u Q I rx ry h
  obtain ⟨i, j, rfl, rfl, q⟩ := h
  obtain ⟨t, rfl⟩ := rx
  obtain ⟨t', rfl⟩ := ry
  exact notIn_str (fin_bl I q rfl)
/-- is, is not of two objects that are tracked lists or instances -/
def isObj : HO → Bool
  | .lst _ => true
  | .ins _ _ _ => true
  | _ => false
theorem obj_there {pins : List (Addr × Obj)} {s : Shared} {σ : St} {H : Hp} {a : Addr} {o : HO} (I : Inv X pins σ H s) (h : H a = some o) (p : isObj o = true) : ∃ ob, s.heap.get? a = some ob ∧ ob.cls ≠ .type "tuple" := by
  cases o with
  | lst xs =>
    obtain ⟨_, its, n, _, e⟩ : xs.length ≤ sizeLine ∧ ∃ (its : List Value) (n : Nat), Vals xs its ∧ s.heap.get? a = some { cls := .type "list", data := .seq its.toArray n } := I.hok a _ h
    exact ⟨_, e, (by show Value.type "list" ≠ .type "tuple"; decide +kernel)⟩
  | ins C dx fs =>
    have x := I.hok a _ h
    obtain ⟨_, _, _, e, _⟩ := x
    exact ⟨_, e, (by show Value.ref C ≠ .type "tuple"; exact fun z => by cases z)⟩
  | _ => exact absurd (show false = true from p) Bool.false_ne_true
theorem op_is_ref : OpR X (compareOp .Is) (fun x y H Q => ∃ a b oa ob, x = .ref a ∧ y = .ref b ∧ H a = some oa ∧ isObj oa = true ∧ H b = some ob ∧ isObj ob = true ∧ Q (.bl (decide (a = b))) H) := by
  intro pins s σ H x y v u Q I rx ry h
  obtain ⟨a, b, oa, ob, rfl, rfl, ha, pa, hb, pb, q⟩ := h
  cases rx
  cases ry
  obtain ⟨o1, e1, n1⟩ := obj_there I ha pa
  obtain ⟨o2, e2, _⟩ := obj_there I hb pb
  by_cases z : a = b
  · subst z
    exact wpAny_is_ref_self (fin_bl I q (by simp))
  · exact wpAny_is_ref_other z e1 e2 n1 (fin_bl I q (by simp [z]))
theorem op_isnot_ref : OpR X (compareOp .IsNot) (fun x y H Q => ∃ a b oa ob, x = .ref a ∧ y = .ref b ∧ H a = some oa ∧ isObj oa = true ∧ H b = some ob ∧ isObj ob = true ∧ Q (.bl (!decide (a = b))) H) := by
  intro pins s σ H x y v u Q I rx ry h
  obtain ⟨a, b, oa, ob, rfl, rfl, ha, pa, hb, pb, q⟩ := h
  cases rx
  cases ry
  obtain ⟨o1, e1, n1⟩ := obj_there I ha pa
  obtain ⟨o2, e2, _⟩ := obj_there I hb pb
  by_cases z : a = b
  · subst z
    exact wpAny_isNot_ref_self (fin_bl I q (by simp))
  · exact wpAny_isNot_ref_other z e1 e2 n1 (fin_bl I q (by simp [z]))

/-- two rules for one operation: by cases -/
theorem OpR.or {f : Value → Value → Sem Value} {r r' : R2} (h : OpR X f r) (h' : OpR X f r') : OpR X f (fun x y H Q => r x y H Q ∨ r' x y H Q) := by
  intro pins s σ H x y v u Q I rx ry q
  rcases q with q | q
  · exact h pins s σ H x y v u Q I rx ry q
  · exact h' pins s σ H x y v u Q I rx ry q

theorem nomark (b : Expr) {op : CmpOp} (h : op ≠ .In := by decide) (h2 : op ≠ .NotIn := by decide) : behindInMarks op b = false := by
  have e1 : (op == CmpOp.In) = false := by cases op <;> first | rfl | exact absurd rfl h
  have e2 : (op == CmpOp.NotIn) = false := by cases op <;> first | rfl | exact absurd rfl h2
  cases b <;> simp [behindInMarks, e1, e2]
/-- a comparison as a value; hm: nomark b, or (for in, not in) by with_unfolding_all rfl -/
theorem pe_cmpR {op : CmpOp} {r : R2} (ho : OpR X (compareOp op) r) (ha : PE X a ta) (hb : PE X b tb) (hm : behindInMarks op b = false) : PE X (.Compare a [op] [b] pos) (tOp r ta tb) := by
  intro pins s σ H Q I h
  exact wpAny_Compare1 (binT ha hb I h fun v u s2 x y H2 I2 rx ry q => ho pins s2 σ H2 x y v u Q I2 rx ry q) hm
/-- a reading of a value as a test -/
def tTest (t : TE) : TT := fun σ H Q => t σ H fun x H' => ∃ k, x = .bl k ∧ Q k H'
theorem pt_cmpR {op : CmpOp} {r : R2} (ho : OpR X (compareOp op) r) (ha : PE X a ta) (hb : PE X b tb) (hm : behindInMarks op b = false) : PT X (.Compare a [op] [b] pos) (tTest (tOp r ta tb)) := by
  intro pins s σ H Q I h
  refine wpAny_isTrue_Compare1 (thn (ha pins s σ H _ I h) fun v s1 ⟨x, H1, I1, r1, q1⟩ => thn (hb pins s1 σ H1 _ I1 q1) fun u s2 ⟨y, H2, I2, r2, q2⟩ =>
    thn (ho pins s2 σ H2 x y v u _ I2 r1 r2 q2) fun c s3 ⟨z, H3, I3, r3, k, e, q3⟩ => ?_) hm
  subst e
  cases r3
  exact wpAny_truthy_bool ⟨H3, I3, q3⟩
/-- a op1 b op2 c -/
def tChain (r r' : R2) (ta tb tc : TE) : TE := fun σ H Q => ta σ H fun x H1 => tb σ H1 fun y H2 => r x y H2 fun z H3 => ∃ k, z = .bl k ∧
  (if k = true then tc σ H3 fun w' H4 => r' y w' H4 Q else Q (.bl false) H3)
theorem pe_chain {op op' : CmpOp} {r r' : R2} (ho : OpR X (compareOp op) r) (ho' : OpR X (compareOp op') r') (ha : PE X a ta) (hb : PE X b tb) (hc : PE X c tc)
    (hm : lastMarks [op, op'] [b, c] = false := by with_unfolding_all rfl) : PE X (.Compare a [op, op'] [b, c] pos) (tChain r r' ta tb tc) := by
  intro pins s σ H Q I h
  refine Compare_chain (thn (ha pins s σ H _ I h) fun v s1 ⟨x, H1, I1, r1, q1⟩ => chain_link (thn (hb pins s1 σ H1 _ I1 q1) fun u s2 ⟨y, H2, I2, r2, q2⟩ =>
    thn (ho pins s2 σ H2 x y v u _ I2 r1 r2 q2) fun d s3 ⟨z, H3, I3, r3, k, e, q3⟩ => ?_)) hm
  subst e
  cases r3
  refine wpAny_truthy_bool ?_
  cases k with
  | false => exact ite_ff ⟨.bl false, H3, I3, rfl, q3⟩
  | true => exact ite_tt (chain_last (thn (hc pins s3 σ H3 _ I3 q3) fun w' s4 ⟨z', H4, I4, r4, q4⟩ => ho' pins s4 σ H4 y z' u w' Q I4 r2 r4 q4))
theorem pt_chain {op op' : CmpOp} {r r' : R2} (ho : OpR X (compareOp op) r) (ho' : OpR X (compareOp op') r') (ha : PE X a ta) (hb : PE X b tb) (hc : PE X c tc)
    (hm : lastMarks [op, op'] [b, c] = false := by with_unfolding_all rfl) : PT X (.Compare a [op, op'] [b, c] pos) (tTest (tChain r r' ta tb tc)) := by
  intro pins s σ H Q I h
  refine isTrue_chain (thn (ha pins s σ H _ I h) fun v s1 ⟨x, H1, I1, r1, q1⟩ => test_link (thn (hb pins s1 σ H1 _ I1 q1) fun u s2 ⟨y, H2, I2, r2, q2⟩ =>
    thn (ho pins s2 σ H2 x y v u _ I2 r1 r2 q2) fun d s3 ⟨z, H3, I3, r3, k, e, q3⟩ => ?_)) hm
  subst e
  cases r3
  refine wpAny_truthy_bool ?_
  cases k with
  | false =>
    obtain ⟨k', e', q'⟩ := q3
    cases e'
    exact ite_ff ⟨H3, I3, q'⟩
  | true =>
    refine ite_tt (test_last (thn (hc pins s3 σ H3 _ I3 q3) fun w' s4 ⟨z', H4, I4, r4, q4⟩ => thn (ho' pins s4 σ H4 y z' u w' _ I4 r2 r4 q4) fun d' s5 ⟨z2, H5, I5, r5, k2, e2, q5⟩ => ?_))
    subst e2
    cases r5
    exact wpAny_truthy_bool ⟨H5, I5, q5⟩

/-! ### truth -/
/-- a value's truth by the abstract heap -/
def TruV (K : PySem.W.Frag) (x : V) (H : Hp) (k : Bool) : Prop :=
  match x with
  | .non => k = false
  | .bl b => k = b
  | .int i => k = (i != 0)
  | .str y => y.length ≤ sizeLine ∧ k = ((y.length : Int) != 0)
  | .byt y => y.size ≤ sizeLine ∧ k = ((y.size : Int) != 0)
  | .ref p => (∃ xs, SqL K H p xs ∧ k = !xs.isEmpty) ∨ (∃ xs, SqT K H p xs ∧ k = !xs.isEmpty) ∨ ∃ kvs, H p = some (.dK kvs) ∧ k = !kvs.isEmpty
  | _ => False
theorem isEmpty_kv {κ : Type} {kvs : List (κ × V)} {vs : List (κ × Value)} (r : KV kvs vs) : (!vs.isEmpty) = !kvs.isEmpty := by
  cases r <;> rfl
theorem isEmpty_of {xs : List V} {its : List Value} (r : Vals xs its) : (!its.toArray.isEmpty) = !xs.isEmpty := by
  cases r <;> simp
theorem line63 : (sizeLine : Nat) < 2 ^ 63 := by rw [sizeLine_eq]; decide
theorem tru_ok : TruR X (fun x H Q => ∃ k, TruV X.K x H k ∧ Q k H) := by
  intro pins s σ H x v Q I rx h
  obtain ⟨k, e, q⟩ := h
  have hl := line63
  have hs : sizeLine = 16777216 := sizeLine_eq
  cases x with
  | non =>
    cases rx
    have e' : k = false := e
    subst e'
    exact truthy_none ⟨H, I, q⟩
  | bl b =>
    cases rx
    have e' : k = b := e
    subst e'
    exact wpAny_truthy_bool ⟨H, I, q⟩
  | int i =>
    obtain ⟨t, rfl⟩ := rx
    have e' : k = (i != 0) := e
    subst e'
    exact PySem.P.truthy_int ⟨H, I, q⟩
  | str y =>
    obtain ⟨t, rfl⟩ := rx
    obtain ⟨hy, e'⟩ : y.length ≤ sizeLine ∧ k = ((y.length : Int) != 0) := e
    subst e'
    exact PySem.P.truthy_str (by omega) ⟨H, I.tok _, q⟩
  | byt y =>
    obtain ⟨t, rfl⟩ := rx
    obtain ⟨hy, e'⟩ : y.size ≤ sizeLine ∧ k = ((y.size : Int) != 0) := e
    subst e'
    exact PySem.W.truthy_bytes (by omega) ⟨H, I.tok _, q⟩
  | ref p =>
    cases rx
    have e' : (∃ xs, SqL X.K H p xs ∧ k = !xs.isEmpty) ∨ (∃ xs, SqT X.K H p xs ∧ k = !xs.isEmpty) ∨ ∃ kvs, H p = some (.dK kvs) ∧ k = !kvs.isEmpty := e
    rcases e' with ⟨xs, hx, e'⟩ | ⟨xs, hx, e'⟩ | ⟨kvs, hx, e'⟩
    · subst e'
      obtain ⟨its, r, pl, hz⟩ := I.list hx
      have hlen := r.length
      exact wpAny_truthy_list pl.isList (by simp only [List.size_toArray]; omega) ⟨H, I.tok _, by rw [isEmpty_of r]; exact q⟩
    · subst e'
      obtain ⟨its, r, pl, hz⟩ := I.tuple hx
      have hlen := r.length
      exact truthy_tuple pl (by simp only [List.size_toArray]; omega) ⟨H, I.tok _, by rw [isEmpty_of r]; exact q⟩
    · subst e'
      obtain ⟨hz, hS, vs, r, m⟩ : kvs.length ≤ sizeLine ∧ (p == sysModules) = false ∧ ∃ vs, KV kvs vs ∧ s.heap.DictOf (mixKind X.prog X.w) p vs := I.hok p _ hx
      have hlen : kvs.length = vs.length := Paired.length r
      exact wpAny_truthy_dict hS m (by omega) ⟨H, I.tok _, by rw [isEmpty_kv r]; exact q⟩
  | _ => exact (show False from e).elim
/-- any expression whose test is its value's truth (a name, a call, a subscript, a field ..: he by fun _ => rfl) -/
theorem pt_truth (ha : PE X a ta) (he : ∀ whole, isTrue a X.env whole = (do let v ← whole; standAt a.pos; holding [v] (truthy v))) :
    PT X a (fun σ H Q => ta σ H fun x H' => ∃ k, TruV X.K x H' k ∧ Q k H') := by
  intro pins s σ H Q I h
  exact isTrue_plain (thn (ha pins s σ H _ I h) fun v s1 ⟨x, H1, I1, r1, q1⟩ => tru_ok pins s1 σ H1 x v Q I1 r1 q1) (he _)

/-! ### strs and bytes -/
theorem pe_byt {x : List UInt8} {k : Nat} : PE X (.Constant (.bytes x) k pos) (fun _ H Q => Q (.byt x.toArray) H) := fun _ _ _ H _ I h => PySem.W.Constant_bytes ⟨.byt x.toArray, H, I.tok _, ⟨_, rfl⟩, h⟩
theorem op_add_str : OpR X (binaryOp .Add) (fun x y H Q => ∃ i j, x = .str i ∧ y = .str j ∧ i.length + j.length ≤ sizeLine ∧ Q (.str (i ++ j)) H) := by
  intro pins s σ H x y v u Q I rx ry h
  obtain ⟨i, j, rfl, rfl, hz, q⟩ := h
  obtain ⟨t, rfl⟩ := rx
  obtain ⟨t', rfl⟩ := ry
  exact add_str (fun t' tk => ⟨.str (i ++ j), H, I.tok _, ⟨_, rfl⟩, q⟩) hz
theorem iop_add_str : OpR X (inplaceOp .Add) (fun x y H Q => ∃ i j, x = .str i ∧ y = .str j ∧ i.length + j.length ≤ sizeLine ∧ Q (.str (i ++ j)) H) := by
  intro pins s σ H x y v u Q I rx ry h
  obtain ⟨i, j, rfl, rfl, hz, q⟩ := h
  obtain ⟨t, rfl⟩ := rx
  obtain ⟨t', rfl⟩ := ry
  exact iadd_str (fun t' tk => ⟨.str (i ++ j), H, I.tok _, ⟨_, rfl⟩, q⟩) hz
theorem op_add_byt : OpR X (binaryOp .Add) (fun x y H Q => ∃ i j, x = .byt i ∧ y = .byt j ∧ i.size + j.size ≤ 16777216 ∧ Q (.byt (i ++ j)) H) := by
  intro pins s σ H x y v u Q I rx ry h
  obtain ⟨i, j, rfl, rfl, hz, q⟩ := h
  obtain ⟨t, rfl⟩ := rx
  obtain ⟨t', rfl⟩ := ry
  exact PySem.W.KBy.add_bytes hz (fun t' tk => ⟨.byt (i ++ j), H, I.tok _, ⟨_, rfl⟩, q⟩)

def PlainIxT (b : Expr) : Prop := ∀ o i, subscripted b false o i = operate [o, i] (getItem o i)
/-- s[i], 0 ≤ i < len -/
theorem pe_item_str (ha : PE X a ta) (hb : PE X b tb) (hs : PlainIxT b) :
    PE X (.Subscript a b pos) (tOp (fun x y H Q => ∃ z i c, x = .str z ∧ y = .int i ∧ 0 ≤ i ∧ i < 2 ^ 63 ∧ i < z.length ∧ z.cps[i.toNat]? = some c ∧ Q (.str ⟨#[c]⟩) H) ta tb) := by
  intro pins s σ H Q I h
  refine Subscript_ (binT ha hb I h fun v u s2 x y H2 I2 rx ry q => ?_)
  obtain ⟨z, i, c, rfl, rfl, h0, h63, h1, hc, q⟩ := q
  obtain ⟨t, rfl⟩ := rx
  obtain ⟨t', rfl⟩ := ry
  have e : seqIndex? i z.length = some i.toNat := PySem.StrLaws.seqIndex_nonneg h0 h1
  exact tail_any (typeIs_str s2 z t) slot_str_getitem.lookup (getItem_str (c := c) (by
    have e1 : decide (i < -(2 ^ 63 : Int)) = false := decide_eq_false (by omega)
    have e2 : decide (i ≥ 2 ^ 63) = false := decide_eq_false (by omega)
    rw [e1, e2] <;> rfl) (by rw [e]; exact hc) ⟨.str ⟨#[c]⟩, H2, I2.tok _, ⟨_, rfl⟩, q⟩) (hs _ _)
/-- b[i], 0 ≤ i < len -/
theorem pe_item_byt (ha : PE X a ta) (hb : PE X b tb) (hs : PlainIxT b) :
    PE X (.Subscript a b pos) (tOp (fun x y H Q => ∃ (z : List UInt8) (i : Int), x = .byt z.toArray ∧ y = .int i ∧ z.length ≤ sizeLine ∧ 0 ≤ i ∧ i < z.length ∧ Q (.int ((z.getD i.toNat 0).toNat : Nat)) H) ta tb) := by
  intro pins s σ H Q I h
  refine Subscript_ (binT ha hb I h fun v u s2 x y H2 I2 rx ry q => ?_)
  obtain ⟨z, i, rfl, rfl, hz, h0, h1, q⟩ := q
  obtain ⟨t, rfl⟩ := rx
  obtain ⟨t', rfl⟩ := ry
  have hl : sizeLine = 16777216 := sizeLine_eq
  exact tail_any (PySem.W.typeIs_bytes s2 z.toArray t) PySem.W.FB.slot_bytes_getitem.lookup (PySem.W.getItem_bytes (by omega) h0 h1 ⟨.int ((z.getD i.toNat 0).toNat : Nat), H2, I2.tok _, ⟨_, rfl⟩, q⟩) (hs _ _)

/-! ### scalar builtins, by CallR -/
theorem vals1 {x : V} {us : List Value} (r : Vals [x] us) : ∃ u, us = [u] ∧ RelV x u := by
  cases r with
  | cons r1 r2 => cases r2; exact ⟨_, rfl, r1⟩
theorem vals2 {x y : V} {us : List Value} (r : Vals [x, y] us) : ∃ u w', us = [u, w'] ∧ RelV x u ∧ RelV y w' := by
  cases r with
  | cons r1 r2 =>
    cases r2 with
    | cons r3 r4 => cases r4; exact ⟨_, _, rfl, r1, r3⟩
theorem call_abs : CallR X (.builtin "abs") (fun xs H Q => ∃ i, xs = [.int i] ∧ Q (.int (if i < 0 then -i else i)) H) := by
  intro pins s σ H xs us Q I r h
  obtain ⟨i, rfl, q⟩ := h
  obtain ⟨u, rfl, t, rfl⟩ := vals1 r
  exact call_abs_int fun u tk => ⟨.int (if i < 0 then -i else i), H, I.tok _, ⟨_, rfl⟩, q⟩
theorem call_max2 (hc : X.calm = true) : CallR X (.builtin "max") (fun xs H Q => ∃ i j, xs = [.int i, .int j] ∧ Q (.int (if j > i then j else i)) H) := by
  intro pins s σ H xs us Q I r h
  obtain ⟨i, j, rfl, q⟩ := h
  obtain ⟨u, w', rfl, ⟨t, rfl⟩, ⟨t', rfl⟩⟩ := vals2 r
  refine max_two_ints (I.ok.hd hc) fun h' tk k => ⟨_, H, I.kept k, ?_, q⟩
  by_cases hj : j > i
  · rw [if_pos hj, if_pos hj]; exact ⟨_, rfl⟩
  · rw [if_neg hj, if_neg hj]; exact ⟨_, rfl⟩
theorem call_min2 (hc : X.calm = true) : CallR X (.builtin "min") (fun xs H Q => ∃ i j, xs = [.int i, .int j] ∧ Q (.int (if j < i then j else i)) H) := by
  intro pins s σ H xs us Q I r h
  obtain ⟨i, j, rfl, q⟩ := h
  obtain ⟨u, w', rfl, ⟨t, rfl⟩, ⟨t', rfl⟩⟩ := vals2 r
  refine min_two_ints (I.ok.hd hc) fun h' tk k => ⟨_, H, I.kept k, ?_, q⟩
  by_cases hj : j < i
  · rw [if_pos hj, if_pos hj]; exact ⟨_, rfl⟩
  · rw [if_neg hj, if_neg hj]; exact ⟨_, rfl⟩
theorem call_int1 : CallR X (.type "int") (fun xs H Q => (∃ i, xs = [.int i] ∧ Q (.int i) H) ∨ ∃ k, xs = [.bl k] ∧ Q (.int (if k then 1 else 0)) H) := by
  intro pins s σ H xs us Q I r h
  rcases h with ⟨i, rfl, q⟩ | ⟨k, rfl, q⟩
  · obtain ⟨u, rfl, t, rfl⟩ := vals1 r
    exact call_int_int ⟨.int i, H, I, ⟨_, rfl⟩, q⟩
  · obtain ⟨u, rfl, r1⟩ := vals1 r
    cases r1
    exact call_int_bool ⟨.int (if k then 1 else 0), H, I.tok _, ⟨_, rfl⟩, q⟩
theorem call_bool1 : CallR X (.type "bool") (fun xs H Q => (∃ i, xs = [.int i] ∧ Q (.bl (i != 0)) H) ∨ ∃ k, xs = [.bl k] ∧ Q (.bl k) H) := by
  intro pins s σ H xs us Q I r h
  rcases h with ⟨i, rfl, q⟩ | ⟨k, rfl, q⟩
  · obtain ⟨u, rfl, t, rfl⟩ := vals1 r
    exact call_bool_int ⟨.bl (i != 0), H, I, rfl, q⟩
  · obtain ⟨u, rfl, r1⟩ := vals1 r
    cases r1
    exact call_bool_bool ⟨.bl k, H, I, rfl, q⟩
theorem call_str_int : CallR X (.type "str") (fun xs H Q => ∃ i, xs = [.int i] ∧ i.natAbs.log2 < 1920 ∧ Q (.str (toString i)) H) := by
  intro pins s σ H xs us Q I r h
  obtain ⟨i, rfl, hz, q⟩ := h
  obtain ⟨u, rfl, t, rfl⟩ := vals1 r
  exact PySem.P.str_of_int hz ⟨.str _, H, I.tok _, ⟨_, rfl⟩, q⟩
theorem call_ord : CallR X (.builtin "ord") (fun xs H Q => ∃ x, xs = [.str x] ∧ x.length = 1 ∧ Q (.int (x.cps.getD 0 0 : Nat)) H) := by
  intro pins s σ H xs us Q I r h
  obtain ⟨x, rfl, hz, q⟩ := h
  obtain ⟨u, rfl, t, rfl⟩ := vals1 r
  exact ord_of_one hz ⟨.int _, H, I.tok _, ⟨_, rfl⟩, q⟩
theorem call_chr : CallR X (.builtin "chr") (fun xs H Q => ∃ i, xs = [.int i] ∧ 0 ≤ i ∧ i ≤ 1114111 ∧ Q (.str ⟨#[i.toNat]⟩) H) := by
  intro pins s σ H xs us Q I r h
  obtain ⟨i, rfl, h0, h1, q⟩ := h
  obtain ⟨u, rfl, t, rfl⟩ := vals1 r
  exact chr_of_range h0 h1 ⟨.str _, H, I.tok _, ⟨_, rfl⟩, q⟩
/-- len of a str, a bytes, a list, a tuple -/
def LenV (K : PySem.W.Frag) (x : V) (H : Hp) (n : Nat) : Prop :=
  match x with
  | .str y => y.length ≤ sizeLine ∧ n = y.length
  | .byt y => y.size ≤ sizeLine ∧ n = y.size
  | .ref p => (∃ xs, SqL K H p xs ∧ n = xs.length) ∨ ∃ xs, SqT K H p xs ∧ n = xs.length
  | _ => False
theorem call_len : CallR X (.builtin "len") (fun xs H Q => ∃ x n, xs = [x] ∧ LenV X.K x H n ∧ Q (.int n) H) := by
  intro pins s σ H xs us Q I r h
  obtain ⟨x, n, rfl, e, q⟩ := h
  obtain ⟨u, rfl, rx⟩ := vals1 r
  have hl := line63
  have hs : sizeLine = 16777216 := sizeLine_eq
  cases x with
  | str y =>
    obtain ⟨t, rfl⟩ := rx
    obtain ⟨hy, e'⟩ : y.length ≤ sizeLine ∧ n = y.length := e
    subst e'
    exact len_str (by omega) ⟨.int _, H, I.tok _, ⟨_, rfl⟩, q⟩
  | byt y =>
    obtain ⟨t, rfl⟩ := rx
    obtain ⟨hy, e'⟩ : y.size ≤ sizeLine ∧ n = y.size := e
    subst e'
    exact PySem.W.len_bytes (by omega) ⟨.int _, H, I.tok _, ⟨_, rfl⟩, q⟩
  | ref p =>
    cases rx
    have e' : (∃ xs, SqL X.K H p xs ∧ n = xs.length) ∨ ∃ xs, SqT X.K H p xs ∧ n = xs.length := e
    rcases e' with ⟨xs, hx, e'⟩ | ⟨xs, hx, e'⟩
    · subst e'
      obtain ⟨its, r', pl, hz⟩ := I.list hx
      have hlen := r'.length
      exact Calls.call_len_list pl.isList (by simp only [List.size_toArray]; omega) ⟨.int xs.length, H, I.tok _, ⟨_, by simp only [List.size_toArray]; rw [hlen]⟩, q⟩
    · subst e'
      obtain ⟨its, r', pl, hz⟩ := I.tuple hx
      have hlen := r'.length
      exact len_tuple pl (by simp only [List.size_toArray]; omega) ⟨.int xs.length, H, I.tok _, ⟨_, by simp only [List.size_toArray]; rw [hlen]⟩, q⟩
  | _ => exact (show False from e).elim
/-- divmod: a new tuple -/
theorem call_divmod : CallR X (.builtin "divmod") (fun xs H Q => ∃ i j, xs = [.int i, .int j] ∧ CDiv i j ∧ ∀ p, H p = none → Q (.ref p) (upd H p (.tup [.int (i / j), .int (i % j)]))) := by
  intro pins s σ H xs us Q I r h
  obtain ⟨i, j, rfl, ⟨h1, h2⟩, q⟩ := h
  obtain ⟨u, w', rfl, ⟨t, rfl⟩, ⟨t', rfl⟩⟩ := vals2 r
  refine divmod_int (by omega) ?_ (.inl (PyProof.noPylong_small (by omega)))
  rw [Int.fdiv_eq_ediv_of_nonneg i (by omega), Int.fmod_eq_emod_of_nonneg i (by omega)]
  have hn : H s.heap.objs.size = none := I.hok.fresh (Nat.le_refl _)
  refine ⟨.ref s.heap.objs.size, _, ?_, rfl, q _ hn⟩
  refine I.laid (fun b o e => Heap.get?_push_of_some _ e) (Nat.le_refl _) ⟨by simp only [List.length_cons, List.length_nil]; rw [sizeLine_eq]; decide, [.int (i / j) s.toks, .int (i % j) (s.toks + 1)], .cons ⟨_, rfl⟩ (.cons ⟨_, rfl⟩ .nil), ?_⟩
  exact ⟨_, Heap.get?_push_size s.heap rfl, rfl, 0, rfl⟩
end
end L2

namespace L2
open PySem PySem.Spec PyProof.Rows

/-! ### an instance, its attributes a map -/
structure ObjM (h : Heap) (x dx C : Addr) (mA : Str → Option Value) : Prop where
  obj : h.get? x = some (PySem.W.instObj C dx)
  ns : h.Ns1 dx mA
  ne : dx ≠ x

theorem lookIn_ns {h : Heap} {dx : Addr} {mA : Str → Option Value} (n : h.Ns1 dx mA) : ∃ od, h.get? dx = some od ∧ ∀ name, PySem.W.lookIn name od = some (mA name) := by
  obtain ⟨o, es, ep, ho, hd, hk, _, hm⟩ := n
  refine ⟨o, ho, fun name => ?_⟩
  have e := hm name
  unfold nsFind findBy at e
  rw [← Array.find?_toList] at e
  unfold PySem.W.lookIn
  rw [hd]
  dsimp only
  split
  · rename_i y q
    rw [q] at e
    exact congrArg some e
  · rename_i q
    rw [q] at e
    have a : es.toList.any (·.refKey) = false := by
      rw [List.any_eq_false]
      intro y hy
      obtain ⟨z, t, hkey⟩ := hk y (Array.mem_toList_iff.mp hy)
      simp [DictEntry.refKey, hkey]
    have a' : ¬ es.toList.any (·.refKey) = true := by rw [a]; exact Bool.false_ne_true
    rw [if_neg a']
    exact congrArg some e

theorem ObjM.look {h : Heap} {x dx C : Addr} {mA : Str → Option Value} (I : ObjM h x dx C mA) : ∃ od, PySem.W.InstAt h x (PySem.W.instObj C dx) C (some od) ∧ ∀ name, PySem.W.lookIn name od = some (mA name) :=
  let ⟨od, ho, hl⟩ := lookIn_ns I.ns
  ⟨od, ⟨I.obj, rfl, rfl, ho⟩, hl⟩

section
variable {prog : Program} {w : World} {A : Around} {E : Value → Shared → Prop} {s : Shared} {K : PySem.W.Frag} {x dx C f : Addr} {mA : Str → Option Value} {name : Str} {v : Value}

theorem get_map {expr : Bool} {Q : Value → Shared → Prop} (X : K.In s.heap) (I : ObjM s.heap x dx C mA) (hg : PySem.W.plainGet K C name = true) (hh : PySem.W.hasDictIn K C = true)
    (ha : PySem.W.findIn K (.ref C) name = some none) (hv : mA name = some v) (hv' : PySem.W.handedIn v = true) (h : Q v { s with toks := s.toks + 1 }) :
    wpAny (model prog w) A (getAttr (.ref x) name expr) Q E s := by
  obtain ⟨od, J, hl⟩ := I.look
  exact PySem.W.get_value X J (PySem.W.plainGet_of hg).1 (PySem.W.findObj_own hh ha rfl (by rw [hl, hv])) hv' h

theorem get_const {expr : Bool} {a : Value} {Q : Value → Shared → Prop} (X : K.In s.heap) (I : ObjM s.heap x dx C mA) (hg : PySem.W.plainGet K C name = true) (hh : PySem.W.hasDictIn K C = true)
    (ha : PySem.W.findIn K (.ref C) name = some (some a)) (hn : PySem.W.specialIn K a "__get__" = some none) (hc : PySem.W.copiedNames.contains name = false) (hv : mA name = none) (hv' : PySem.W.handedIn a = true)
    (h : Q a { s with toks := s.toks + 1 }) : wpAny (model prog w) A (getAttr (.ref x) name expr) Q E s := by
  obtain ⟨od, J, hl⟩ := I.look
  exact PySem.W.get_value X J (PySem.W.plainGet_of hg).1 (PySem.W.findObj_cls hh ha hn hv' hc (by rw [hl, hv])) hv' h

theorem get_meth {pl : Sem Bool} {Q : Value × List Value → Shared → Prop} (X : K.In s.heap) (I : ObjM s.heap x dx C mA) (hg : PySem.W.plainGet K C name = true)
    (hf : PySem.W.findIn K (.ref C) name = some (some (.ref f))) (ht : PySem.W.isFn K (.ref f) = true) (hv : mA name = none) (h : Q (.ref f, [.ref x]) s) :
    wpAny (model prog w) A (getMethod (.ref x) name pl) Q E s := by
  obtain ⟨od, J, hl⟩ := I.look
  exact PySem.W.method_fn X J (PySem.W.plainGet_of hg).1 (PySem.W.plainGet_of hg).2 hf (beq_iff_eq.mp ht) (by show (PySem.W.lookIn name od).map (·.isSome) = some false; rw [hl, hv]; rfl) h

theorem set_map {ns : List Str} {Q : Unit → Shared → Prop} (X : K.In s.heap) (I : ObjM s.heap x dx C mA)
    (hs : PySem.W.findIn K (.ref C) "__setattr__" = some (some (.builtin "object.__setattr__"))) (hp : PySem.W.plainOver K C = true) (ht : PySem.W.takerIn K C name = some none) (hh : PySem.W.hasDictIn K C = true)
    (hw : PySem.Within mA ns) (hsz : ns.length ≤ sizeLine)
    (h : ∀ h', ObjM h' x dx C (fun y => if y = name then some v else mA y) → Heap.SameBut dx s.heap h' → Q () { s with heap := h', toks := s.toks + 2 }) :
    wpAny (model prog w) A (setAttr (.ref x) name v) Q E s := by
  obtain ⟨od, J, hl⟩ := I.look
  refine PySem.W.set_plain X J hs (PySem.W.osa_open (s := { s with toks := s.toks + 1 }) (r := none) X J hp ht fun b => ?_)
  obtain ⟨cd, hc, hd'⟩ := PySem.W.any_some hh
  have hx : s.heap.get? x = some ⟨.ref C, some dx, .plain, #[]⟩ := I.obj
  refine wpAny_bind (wpAny_pure (wpAny_bind (wpAny_bind (wpAny_loadPart hx (wpAny_bind (PySem.W.Looks.here (s := { s with toks := s.toks + 1 }) (PySem.W.looks_clsIn X hc) ?_))))))
  rw [hd']
  refine wpAny_pure (a := some dx) (wpAny_bind (wpAny_pure (wpAny_bind ?_)))
  refine wpAny_nsSet1 (s := { s with toks := s.toks + 1 }) I.ns fun h' hn2 hs2 => ?_
  obtain ⟨oD, esD, epD, hoD, hdD, hcD⟩ := hn2.count (PySem.Within.cons name v hw)
  refine wpAny_bind (wpAny_lookBehind hoD (by rw [hdD]; exact pastItsLine_dict (Nat.le_trans hcD (by rw [List.length_cons]; omega))) ?_)
  exact wpAny_pure (h _ ⟨(hs2.2 _ (Ne.symm I.ne)).trans I.obj, hn2, I.ne⟩ hs2)

/-- C(..): the dict at the heap's end, the instance behind it; then its __init__ -/
theorem make_map {R : Result → Shared → Prop} {vs : List Value} {kw : List (Str × Value)} (X : K.In s.heap) (hm : PySem.W.makesIn K C = true)
    (hi : PySem.W.findIn K (.ref C) "__init__" = some (some (.ref f))) (hf : PySem.W.typeIn K (.ref f) = some (.type "function"))
    (h : codeAny (model prog w) (A.under (.builtin "type.__call__" ⟨.ref C :: vs, kw⟩)) (.call (.ref f) ⟨.ref (s.heap.objs.size + 1) :: vs, kw⟩) (PySem.W.InitBack (s.heap.objs.size + 1) R)
      { s with heap := (s.heap.push PySem.W.emptyDict).push (PySem.W.instObj C s.heap.objs.size) }) :
    codeAny (model prog w) A (.call (.ref C) ⟨vs, kw⟩) R s := by
  obtain ⟨hh, g, d, t, os⟩ := s
  exact PySem.W.make_core (PySem.W.makes_of X hm) (PySem.W.looks_findIn X hi) (fun self => PySem.W.bind_fn X self hf) (.inl rfl) h
/-- C() where there is no __init__ but object's -/
theorem make_map0 {R : Result → Shared → Prop} (X : K.In s.heap) (hm : PySem.W.makesIn K C = true)
    (hi : PySem.W.findIn K (.ref C) "__init__" = some (some (.builtin "object.__init__")))
    (hb : ∀ self, PySem.W.Looks (model prog w) s.heap (bindSpecial (.builtin "object.__init__") self) (.builtin "object.__init__", [self]))
    (h : codeAny (model prog w) (A.under (.builtin "type.__call__" ⟨[.ref C], []⟩)) (.call (.builtin "object.__init__") ⟨[.ref (s.heap.objs.size + 1)], []⟩) (PySem.W.InitBack (s.heap.objs.size + 1) R)
      { s with heap := (s.heap.push PySem.W.emptyDict).push (PySem.W.instObj C s.heap.objs.size) }) :
    codeAny (model prog w) A (.call (.ref C) ⟨[], []⟩) R s := by
  obtain ⟨hh, g, d, t, os⟩ := s
  exact PySem.W.make_core (PySem.W.makes_of X hm) (PySem.W.looks_findIn X hi) hb (.inr ⟨rfl, rfl⟩) h
end

/-! ### the attributes as a list of pairs -/
def putF (f : Str) (v : V) : List (Str × V) → List (Str × V)
  | [] => [(f, v)]
  | (g, x) :: r => if g = f then (g, v) :: r else (g, x) :: putF f v r
theorem lookup_putF (f g : Str) (v : V) : ∀ fs : List (Str × V), (putF f v fs).lookup g = if g = f then some v else fs.lookup g
  | [] => by
    show List.lookup g [(f, v)] = _
    by_cases h : g = f
    · have hb : (g == f) = true := beq_iff_eq.mpr h
      simp only [List.lookup, hb, if_pos h]
    · have hb : (g == f) = false := beq_eq_false_iff_ne.mpr h
      simp only [List.lookup, hb, if_neg h]
  | (k, x) :: r => by
    have ih := lookup_putF f g v r
    rw [show putF f v ((k, x) :: r) = (if k = f then (k, v) :: r else (k, x) :: putF f v r) from rfl]
    by_cases hk : k = f
    · rw [if_pos hk]
      by_cases h : g = k
      · have hb : (g == k) = true := beq_iff_eq.mpr h
        simp only [List.lookup, hb, if_pos (h.trans hk)]
      · have hb : (g == k) = false := beq_eq_false_iff_ne.mpr h
        simp only [List.lookup, hb, if_neg (fun e : g = f => h (e.trans hk.symm))]
    · rw [if_neg hk]
      by_cases h : g = k
      · have hb : (g == k) = true := beq_iff_eq.mpr h
        simp only [List.lookup, hb, if_neg (fun e : g = f => hk (h.symm.trans e))]
      · have hb : (g == k) = false := beq_eq_false_iff_ne.mpr h
        simp only [List.lookup, hb]
        exact ih
theorem keys_putF (f : Str) (v : V) : ∀ fs : List (Str × V), f ∈ (putF f v fs).map (·.1) ∧ ∀ g, g ∈ fs.map (·.1) → g ∈ (putF f v fs).map (·.1)
  | [] => ⟨by simp [putF], fun g h => by simp at h⟩
  | (k, x) :: r => by
    obtain ⟨i1, i2⟩ := keys_putF f v r
    rw [show putF f v ((k, x) :: r) = (if k = f then (k, v) :: r else (k, x) :: putF f v r) from rfl]
    by_cases hk : k = f
    · rw [if_pos hk]
      subst hk
      exact ⟨by simp, fun g h => by simpa using h⟩
    · rw [if_neg hk]
      refine ⟨?_, fun g h => ?_⟩
      · rw [List.map_cons]
        exact List.mem_cons_of_mem _ i1
      · rw [List.map_cons] at h ⊢
        rcases List.mem_cons.mp h with e | e
        · exact List.mem_cons.mpr (.inl e)
        · exact List.mem_cons_of_mem _ (i2 g e)
theorem length_putF (f : Str) (v : V) : ∀ fs : List (Str × V), (putF f v fs).length ≤ fs.length + 1
  | [] => by simp [putF]
  | (k, x) :: r => by
    have ih := length_putF f v r
    rw [show putF f v ((k, x) :: r) = (if k = f then (k, v) :: r else (k, x) :: putF f v r) from rfl]
    by_cases hk : k = f
    · rw [if_pos hk, List.length_cons, List.length_cons]; omega
    · rw [if_neg hk, List.length_cons, List.length_cons]; omega

theorem RelO.some_of {v : V} {o : Option Value} (r : RelO (some v) o) : ∃ u, o = some u ∧ RelV v u := by
  cases o with
  | none => exact (show False from r).elim
  | some u => exact ⟨u, rfl, r⟩
theorem RelO.none_of {o : Option Value} (r : RelO none o) : o = none := by
  cases o with
  | none => rfl
  | some u => exact (show False from r).elim
theorem handed_of {v : V} {u : Value} (r : RelV v u) : PySem.W.handedIn u = true := by
  cases v with
  | non => cases (show u = Value.none from r); rfl
  | bl b => cases (show u = Value.bool b from r); rfl
  | int i => obtain ⟨t, e⟩ := (show ∃ t, u = Value.int i t from r); cases e; rfl
  | str x => obtain ⟨t, e⟩ := (show ∃ t, u = Value.str x t from r); cases e; rfl
  | byt b => obtain ⟨t, e⟩ := (show ∃ t, u = Value.bytes b t from r); cases e; rfl
  | flt b => obtain ⟨t, e⟩ := (show ∃ t, u = Value.float b t from r); cases e; rfl
  | ref a => cases (show u = Value.ref a from r); rfl
  | ty n => cases (show u = Value.type n from r); rfl

section
variable {P : Program} {w : World} {H H' : Hp} {h h' : Heap} {a C dx : Addr} {fs fs' : List (Str × V)}
theorem ins_get (hok : HOk P w H h) (e : H a = some (.ins C dx fs)) : ∃ mA, ObjM h a dx C mA ∧ (∀ f, RelO (fs.lookup f) (mA f)) ∧ PySem.Within mA (fs.map (·.1)) ∧ fs.length ≤ 1000 ∧ H dx = some (.own a) := by
  obtain ⟨d, z, ne, ob, mA, n, r, q⟩ := (show ObjOk P w H h a (.ins C dx fs) from hok a _ e)
  exact ⟨mA, ⟨ob, n, ne⟩, r, q, z, d⟩
end

/-! ### what of the text a class must have -/
structure Cls (K : PySem.W.Frag) (C : Addr) : Prop where
  pg : PySem.W.plainGet K C Str.empty = true
  hd : PySem.W.hasDictIn K C = true
  po : PySem.W.plainOver K C = true
  sa : PySem.W.findIn K (.ref C) "__setattr__" = some (some (.builtin "object.__setattr__"))
theorem Cls.get {K : PySem.W.Frag} {C : Addr} (c : Cls K C) (f : Str) : PySem.W.plainGet K C f = true := c.pg
/-- no class of it has the name -/
def NoAttr (K : PySem.W.Frag) (C : Addr) (f : Str) : Prop := PySem.W.findIn K (.ref C) f = some none
theorem NoAttr.taker {K : PySem.W.Frag} {C : Addr} {f : Str} (n : NoAttr K C f) : PySem.W.takerIn K C f = some none := by
  unfold PySem.W.takerIn
  rw [show PySem.W.findIn K (.ref C) f = some none from n]
  rfl
/-- a constant of the class -/
structure Con (K : PySem.W.Frag) (C : Addr) (f : Str) (v : V) (u : Value) : Prop where
  at_ : PySem.W.findIn K (.ref C) f = some (some u)
  rel : RelV v u
  get : PySem.W.specialIn K u "__get__" = some none
  cp : PySem.W.copiedNames.contains f = false
/-- a method: a plain def of the class or of one above it -/
structure Meth (K : PySem.W.Frag) (C : Addr) (m : Str) (f : Addr) : Prop where
  at_ : PySem.W.findIn K (.ref C) m = some (some (.ref f))
  fn : PySem.W.isFn K (.ref f) = true
  kp : PySem.W.keepIn K (.ref f) = true

section
variable {X : Cx} {pins : List (Addr × Obj)} {σ : St} {H : Hp} {s : Shared} {a C dx : Addr} {fs : List (Str × V)} {f : Str} {v : V} {A : Around} {E : Value → Shared → Prop}

theorem getattr_ok {b : Bool} {Q : Value → Shared → Prop} (I : Inv X pins σ H s) (e : H a = some (.ins C dx fs)) (c : Cls X.K C) (n : NoAttr X.K C f) (l : fs.lookup f = some v)
    (h : ∀ u s', Inv X pins σ H s' → RelV v u → Q u s') : wpAny (model X.prog X.w) A (getAttr (.ref a) f b) Q E s := by
  obtain ⟨mA, O, r, _, _, _⟩ := ins_get I.hok e
  obtain ⟨u, hu, ru⟩ := RelO.some_of (v := v) (o := mA f) (by rw [← l]; exact r f)
  exact get_map I.kIn O (c.get f) c.hd n hu (handed_of ru) (h u _ (I.tok _) ru)

theorem getcon_ok {b : Bool} {u : Value} {Q : Value → Shared → Prop} (I : Inv X pins σ H s) (e : H a = some (.ins C dx fs)) (c : Cls X.K C) (k : Con X.K C f v u) (l : fs.lookup f = none)
    (h : ∀ s', Inv X pins σ H s' → Q u s') : wpAny (model X.prog X.w) A (getAttr (.ref a) f b) Q E s := by
  obtain ⟨mA, O, r, _, _, _⟩ := ins_get I.hok e
  have hn : mA f = none := RelO.none_of (by rw [← l]; exact r f)
  exact get_const I.kIn O (c.get f) c.hd k.at_ k.get k.cp hn (handed_of k.rel) (h _ (I.tok _))

theorem getmeth_ok {m : Str} {g : Addr} {pl : Sem Bool} {Q : Value × List Value → Shared → Prop} (I : Inv X pins σ H s) (e : H a = some (.ins C dx fs)) (c : Cls X.K C) (k : Meth X.K C m g) (l : fs.lookup m = none)
    (h : Q (.ref g, [.ref a]) s) : wpAny (model X.prog X.w) A (getMethod (.ref a) m pl) Q E s := by
  obtain ⟨mA, O, r, _, _, _⟩ := ins_get I.hok e
  have hn : mA m = none := RelO.none_of (by rw [← l]; exact r m)
  exact get_meth I.kIn O (c.get m) k.at_ k.fn hn h

theorem setattr_ok {y : V} {u : Value} {Q : Unit → Shared → Prop} (I : Inv X pins σ H s) (e : H a = some (.ins C dx fs)) (c : Cls X.K C) (n : NoAttr X.K C f) (hl : fs.length < 1000) (ry : RelV y u)
    (h : ∀ s', Inv X pins σ (upd H a (.ins C dx (putF f y fs))) s' → Q () s') : wpAny (model X.prog X.w) A (setAttr (.ref a) f u) Q E s := by
  obtain ⟨mA, O, r, wi, _, ho⟩ := ins_get I.hok e
  have hz : (fs.map (·.1)).length ≤ sizeLine := by rw [List.length_map, sizeLine_eq]; omega
  refine set_map I.kIn O c.sa c.po n.taker c.hd wi hz fun h' O' sb => h _ ?_
  have hd : ∃ o, h'.get? dx = some o := let ⟨o, _, _, e', _⟩ := O'.ns; ⟨o, e'⟩
  refine I.write (x := a) (e := dx) (by rw [e]; exact True.intro) (.inr ho) (fun b q hb z => (sb.2 b hb).trans z) hd ?_
  refine ⟨by rw [upd_ne O.ne]; exact ho, ?_, O.ne, O'.obj, _, O'.ns, fun g => ?_, fun g hg => ?_⟩
  · have := length_putF f y fs; omega
  · show RelO ((putF f y fs).lookup g) (if g = f then some u else mA g)
    rw [lookup_putF]
    by_cases q : g = f
    · rw [if_pos q, if_pos q]; exact ry
    · rw [if_neg q, if_neg q]; exact r g
  · by_cases q : g = f
    · rw [q]; exact (keys_putF f y fs).1
    · refine (keys_putF f y fs).2 g (wi g fun z => hg ?_)
      show (if g = f then some u else mA g) = none
      rw [if_neg q]; exact z

/-- a new instance, tracked, without attributes -/
theorem Inv.made (I : Inv X pins σ H s) : Inv X pins σ (upd (upd H s.heap.objs.size (.own (s.heap.objs.size + 1))) (s.heap.objs.size + 1) (.ins C s.heap.objs.size []))
    { s with heap := (s.heap.push PySem.W.emptyDict).push (PySem.W.instObj C s.heap.objs.size) } := by
  have e1 : (s.heap.push PySem.W.emptyDict).get? s.heap.objs.size = some PySem.W.emptyDict := Heap.get?_push_size s.heap rfl
  have e2 : ((s.heap.push PySem.W.emptyDict).push (PySem.W.instObj C s.heap.objs.size)).get? (s.heap.objs.size + 1) = some (PySem.W.instObj C s.heap.objs.size) := by
    have := Heap.get?_push_size (s.heap.push PySem.W.emptyDict) (o := PySem.W.instObj C s.heap.objs.size) rfl
    rwa [Heap.size_push] at this
  have e3 : (s.heap.push PySem.W.emptyDict).Ns s.heap.objs.size (fun _ => none) := ⟨PySem.W.emptyDict, #[], _, e1, rfl, (fun e he => absurd he (by simp)), fun _ => rfl⟩
  have I1 := I.laid (a := s.heap.objs.size) (o := .own (s.heap.objs.size + 1)) (h' := s.heap.push PySem.W.emptyDict) (t' := s.toks) (fun b u q => Heap.get?_push_of_some _ q) (Nat.le_refl _) ⟨_, e1⟩
  refine I1.laid (a := s.heap.objs.size + 1) (o := .ins C s.heap.objs.size []) (t' := s.toks) (fun b u q => Heap.get?_push_of_some _ q) (Nat.le_of_eq (Heap.size_push _ _)) ?_
  have ne : s.heap.objs.size ≠ s.heap.objs.size + 1 := Nat.ne_of_lt (Nat.lt_succ_self _)
  refine ⟨by rw [upd_ne ne, upd_same], Nat.zero_le _, ne, e2, fun _ => none, (Heap.Ns1.of_empty e3).at fun o q => Heap.get?_push_of_some _ q, fun _ => True.intro, fun y hy => absurd rfl hy⟩

/-- e.f where nothing but the object is asked: through attributeBase (super) and the last hold -/
theorem attr_of {prog : Program} {w : World} {env : Env} {e : Expr} {f : Str} {pos : Pos} {s : Shared} {Q : Value → Shared → Prop} (hb : attributeBase e f env (eval e env) = eval e env)
    (h : wpAny (model prog w) A (eval e env) (fun o s₁ => wpAny (model prog w) A (getAttr o f true) Q E s₁) E s) : wpAny (model prog w) A (eval (.Attribute e f pos) env) Q E s :=
  Attribute_any_ h (by rw [arm_eval_Attribute, hb])
end

/-! ### readings and rules -/
/-- e.f, an attribute of the instance -/
def tFld (K : PySem.W.Frag) (ta : TE) (f : Str) : TE := fun σ H Q => ta σ H fun x H1 => ∃ a C dx fs v, x = .ref a ∧ H1 a = some (.ins C dx fs) ∧ Cls K C ∧ NoAttr K C f ∧ fs.lookup f = some v ∧ Q v H1
/-- e.f, a constant of the class -/
def tCon (K : PySem.W.Frag) (ta : TE) (f : Str) : TE := fun σ H Q => ta σ H fun x H1 => ∃ a C dx fs v u, x = .ref a ∧ H1 a = some (.ins C dx fs) ∧ Cls K C ∧ Con K C f v u ∧ fs.lookup f = none ∧ Q v H1
/-- e.f = value -/
def sFld (K : PySem.W.Frag) (ta tv : TE) (f : Str) : TS := fun D σ H => tv σ H fun y H1 => ta σ H1 fun x H2 => ∃ a C dx fs, x = .ref a ∧ H2 a = some (.ins C dx fs) ∧ Cls K C ∧ NoAttr K C f ∧ fs.length < 1000 ∧
  D.nx σ (upd H2 a (.ins C dx (putF f y fs)))
/-- an augmented operator on two values -/
def InOp (X : Cx) (op : Operator) (rd : V → V → Hp → VK → Prop) : Prop :=
  ∀ (pins : List (Addr × Obj)) (s : Shared) (σ : St) (H : Hp) (x y : V) (u v : Value) (Q : VK), Inv X pins σ H s → RelV x u → RelV y v → rd x y H Q → wpAny (model X.prog X.w) X.A (inplaceOp op u v) (EP X pins σ Q) X.xe s
/-- e.f op= value -/
def sFldAug (K : PySem.W.Frag) (ta tv : TE) (rd : V → V → Hp → VK → Prop) (f : Str) : TS := fun D σ H => ta σ H fun x H1 => ∃ a C dx fs v, x = .ref a ∧ H1 a = some (.ins C dx fs) ∧ Cls K C ∧ NoAttr K C f ∧ fs.lookup f = some v ∧
  tv σ H1 fun y H2 => rd v y H2 fun z H3 => ∃ dx' fs', H3 a = some (.ins C dx' fs') ∧ fs'.length < 1000 ∧ D.nx σ (upd H3 a (.ins C dx' (putF f z fs')))

section
variable {X : Cx} {o e value : Expr} {f : Str} {pos pos' tpos : Pos} {ta tv : TE}
theorem pe_fld (he : PE X e ta) (hb : attributeBase e f X.env (eval e X.env) = eval e X.env) : PE X (.Attribute e f pos) (tFld X.K ta f) := by
  intro pins s σ H Q I h
  refine attr_of hb (thn (he pins s σ H _ I h) fun u s1 ⟨x, H1, I1, rx, a, C, dx, fs, v, ex, ea, c, n, l, q⟩ => ?_)
  subst ex
  obtain rfl : u = Value.ref a := rx
  exact getattr_ok I1 ea c n l fun u' s2 I2 ru => ⟨v, H1, I2, ru, q⟩
theorem pe_con (he : PE X e ta) (hb : attributeBase e f X.env (eval e X.env) = eval e X.env) : PE X (.Attribute e f pos) (tCon X.K ta f) := by
  intro pins s σ H Q I h
  refine attr_of hb (thn (he pins s σ H _ I h) fun u s1 ⟨x, H1, I1, rx, a, C, dx, fs, v, u0, ex, ea, c, k, l, q⟩ => ?_)
  subst ex
  obtain rfl : u = Value.ref a := rx
  exact getcon_ok I1 ea c k l fun s2 I2 => ⟨v, H1, I2, k.rel, q⟩
theorem ps_fld (ha : PE X o ta) (hv : PE X value tv) (hs : swapsWith value (some (.Attribute o f pos')) pos.line X.env = pure false) : PS X (.Assign [.Attribute o f pos'] value pos) (sFld X.K ta tv f) := by
  intro pins s σ H D I h
  refine plainObj_wpAny_Assign_Attribute (thn (hv pins s σ H _ I h) fun u s1 ⟨y, H1, I1, ry, q⟩ => thn (ha pins s1 σ H1 _ I1 q) fun ov s2 ⟨x, H2, I2, rx, a, C, dx, fs, ex, ea, c, n, l, q2⟩ => ?_) hs
  subst ex
  obtain rfl : ov = Value.ref a := rx
  exact setattr_ok I2 ea c n l ry fun s3 I3 => ⟨σ, _, I3, q2⟩
theorem ps_fldaug {op : Operator} {rd : V → V → Hp → VK → Prop} (ha : PE X o ta) (hv : PE X value tv) (hop : InOp X op rd) : PS X (.AugAssign (.Attribute o f tpos) op value pos) (sFldAug X.K ta tv rd f) := by
  intro pins s σ H D I h
  refine wpAny_AugAssign_AttributeAny (thn (ha pins s σ H _ I h) fun ov s1 ⟨x, H1, I1, rx, a, C, dx, fs, v, ex, ea, c, n, l, q⟩ => ?_)
  subst ex
  obtain rfl : ov = Value.ref a := rx
  refine getattr_ok I1 ea c n l fun u s2 I2 ru => thn (hv pins s2 σ H1 _ I2 q) fun w3 s3 ⟨y, H2, I3, ry, q3⟩ => thn (hop pins s3 σ H2 v y u w3 _ I3 ru ry q3) fun w4 s4 ⟨z, H3, I4, rz, dx', fs', ea', l', q4⟩ => ?_
  exact setattr_ok I4 ea' c n l' rz fun s5 I5 => ⟨σ, _, I5, q4⟩
def rAdd : V → V → Hp → VK → Prop := fun x y H Q => ∃ i j, x = .int i ∧ y = .int j ∧ Q (.int (i + j)) H
def rSub : V → V → Hp → VK → Prop := fun x y H Q => ∃ i j, x = .int i ∧ y = .int j ∧ Q (.int (i - j)) H
theorem in_add : InOp X .Add rAdd := by
  rintro pins s σ H x y u v Q I rx ry ⟨i, j, rfl, rfl, q⟩
  obtain ⟨t, rfl⟩ := (show ∃ t, u = Value.int i t from rx)
  obtain ⟨t', rfl⟩ := (show ∃ t', v = Value.int j t' from ry)
  exact PyProof.Rows.iadd_int ⟨.int (i + j), H, I.tok _, ⟨_, rfl⟩, q⟩
theorem in_sub : InOp X .Sub rSub := by
  rintro pins s σ H x y u v Q I rx ry ⟨i, j, rfl, rfl, q⟩
  obtain ⟨t, rfl⟩ := (show ∃ t, u = Value.int i t from rx)
  obtain ⟨t', rfl⟩ := (show ∃ t', v = Value.int j t' from ry)
  exact PyProof.Rows.isub_int ⟨.int (i - j), H, I.tok _, ⟨_, rfl⟩, q⟩

/-- what is between an instance and its method: the tree of a method call -/
theorem methcall_of {pl : Sem Bool} {m : Str} {apos : Pos} {args : List Expr} {pins : List (Addr × Obj)} {s : Shared} {σ : St} {H : Hp} {Q : Value → Shared → Prop} {te : TE} (he : PE X e te) (I : Inv X pins σ H s)
    (h : te σ H fun x H1 => ∃ a C dx fs g, x = .ref a ∧ H1 a = some (.ins C dx fs) ∧ Cls X.K C ∧ Meth X.K C m g ∧ fs.lookup m = none ∧
      ∀ s1, Inv X pins σ H1 s1 → wpAny (model X.prog X.w) X.A (callWith pos (.ref g) [.ref a] (backTo pos (starEach args X.env)) (backToKw pos (keywordEach [] X.env))) Q X.xe s1)
    (ht : eval (.Call (.Attribute e m apos) args [] pos) X.env = (do
      let ov ← eval e X.env
      standAt apos.atName
      let (f, first) ← holding [ov] (getMethod ov m pl)
      callWith pos f first (backTo pos (starEach args X.env)) (backToKw pos (keywordEach [] X.env)))) :
    wpAny (model X.prog X.w) X.A (eval (.Call (.Attribute e m apos) args [] pos) X.env) Q X.xe s := by
  refine PySem.W.methodCall_KW (pl := pl) (thn (he pins s σ H _ I h) fun u s1 ⟨x, H1, I1, rx, a, C, dx, fs, g, ex, ea, c, k, l, q⟩ => ?_) ht
  subst ex
  obtain rfl : u = Value.ref a := rx
  exact getmeth_ok I1 ea c k l (q s1 I1)
end

/-! ### isinstance -/
section
variable {X : Cx} {pins : List (Addr × Obj)} {σ : St} {H : Hp} {s : Shared} {A : Around} {E : Value → Shared → Prop} {Q : Value → Shared → Prop} {c : Value} {b : Bool}
/-- the type of a value, as the fragment's deciders take it; for an instance its class -/
inductive TyOf (K : PySem.W.Frag) (H : Hp) : V → Value → Prop where
  | non : TyOf K H .non (.type "NoneType")
  | bl (x : Bool) : TyOf K H (.bl x) (.type "bool")
  | int (i : Int) : TyOf K H (.int i) (.type "int")
  | str (x : Str) : TyOf K H (.str x) (.type "str")
  | flt (x : UInt64) : TyOf K H (.flt x) (.type "float")
  | lst {a : Addr} {xs : List V} (e : H a = some (.lst xs)) : TyOf K H (.ref a) (.type "list")
  | frz {a : Addr} {o : Obj} {xs : List V} (e : H a = some (.frz o (.lst xs))) : TyOf K H (.ref a) (.type "list")
  | tup {a : Addr} {xs : List V} (e : H a = some (.tup xs)) : TyOf K H (.ref a) (.type "tuple")
  | dK {a : Addr} {kvs : List (Key × V)} (e : H a = some (.dK kvs)) : TyOf K H (.ref a) (.type "dict")
  | dT {a : Addr} {kvs : List (List Key × V)} (e : H a = some (.dT kvs)) : TyOf K H (.ref a) (.type "dict")
  | ins {a C dx : Addr} {fs : List (Str × V)} (e : H a = some (.ins C dx fs)) (cl : Cls K C) (ha : PySem.W.findIn K (.ref C) "__class__" = some (some (.builtin "object.__class__")))
      (hn : PySem.W.specialIn K (.builtin "object.__class__") "__get__" = some (some (.builtin "getset_descriptor.__get__"))) (htk : PySem.W.takesIn K (.builtin "object.__class__") = some true)
      (hm : PySem.W.mroIn K C (.type "object") = some true) : TyOf K H (.ref a) (.ref C)
/-- isinstance(x, c) for one class c, a built-in or an own one: kitOne's answer -/
theorem isinst_ok {x : V} {u t : Value} (I : Inv X pins σ H s) (rx : RelV x u) (ty : TyOf X.K H x t) (e : PySem.W.kitOne X.K t c = some b) (h : ∀ tk, Q (.bool b) { s with toks := tk }) :
    wpAny (model X.prog X.w) A (call (.builtin "isinstance") [u, c]) Q E s := by
  cases ty with
  | non => cases (show u = Value.none from rx); exact PySem.W.kia_one PySem.W.kitx_none I.kIn True.intro e (fun z => nomatch z) h
  | bl y => cases (show u = Value.bool y from rx); exact PySem.W.kia_one PySem.W.kitx_bool I.kIn True.intro e (fun z => nomatch z) h
  | int i => obtain ⟨t, q⟩ := (show ∃ t, u = Value.int i t from rx); cases q; exact PySem.W.kia_one PySem.W.kitx_int I.kIn True.intro e (fun z => nomatch z) h
  | str y => obtain ⟨t, q⟩ := (show ∃ t, u = Value.str y t from rx); cases q; exact PySem.W.kia_one PySem.W.kitx_str I.kIn True.intro e (fun z => nomatch z) h
  | flt y => obtain ⟨t, q⟩ := (show ∃ t, u = Value.float y t from rx); cases q; exact PySem.W.kia_one PySem.W.kitx_float I.kIn True.intro e (fun z => nomatch z) h
  | @lst a xs ea =>
    cases (show u = Value.ref a from rx)
    obtain ⟨_, _, n, _, h1⟩ := (show ObjOk X.prog X.w H s.heap a (.lst xs) from I.hok a _ ea)
    exact PySem.W.kia_one PySem.W.kitx_list I.kIn ⟨_, h1, rfl⟩ e (fun z => nomatch z) h
  | @frz a ob xs ea =>
    cases (show u = Value.ref a from rx)
    obtain ⟨_, _, _, n, _, h1⟩ := (show ObjOk X.prog X.w H s.heap a (.frz ob (.lst xs)) from I.hok a _ ea)
    exact PySem.W.kia_one PySem.W.kitx_list I.kIn ⟨_, h1, rfl⟩ e (fun z => nomatch z) h
  | @tup a xs ea =>
    cases (show u = Value.ref a from rx)
    obtain ⟨_, _, _, p⟩ := (show ObjOk X.prog X.w H s.heap a (.tup xs) from I.hok a _ ea)
    obtain ⟨o, h1, h2, _⟩ := p
    exact PySem.W.kia_one PySem.W.kitx_tuple I.kIn ⟨o, h1, h2⟩ e (fun z => nomatch z) h
  | @dK a kvs ea =>
    cases (show u = Value.ref a from rx)
    obtain ⟨_, _, vs, _, p⟩ := (show ObjOk X.prog X.w H s.heap a (.dK kvs) from I.hok a _ ea)
    obtain ⟨o, es, ep, h1, h2, _⟩ := p
    exact PySem.W.kia_one PySem.W.kitx_dict I.kIn ⟨o, h1, h2.1⟩ e (fun z => nomatch z) h
  | @dT a kvs ea =>
    cases (show u = Value.ref a from rx)
    obtain ⟨_, _, xs, _, o, es, ep, h1, h2, _⟩ := (show ObjOk X.prog X.w H s.heap a (.dT kvs) from I.hok a _ ea)
    exact PySem.W.kia_one PySem.W.kitx_dict I.kIn ⟨o, h1, h2.1⟩ e (fun z => nomatch z) h
  | @ins a C dx fs ea cl ha hn htk hm =>
    cases (show u = Value.ref a from rx)
    obtain ⟨mA, O, _⟩ := ins_get I.hok ea
    obtain ⟨od, J, _⟩ := O.look
    exact PySem.W.kia_one (PySem.W.kitx_own (cl.get _) cl.hd ha hn htk hm) I.kIn J e (fun z => nomatch z) h
end
end L2

namespace L2
open PySem PySem.Spec PyProof.Rows

/-! ### room -/
structure Room (k : Nat) (A : Around) : Prop where
  hd : A.handled = none
  dp : A.depth + 3 * k + 5 < recursionLimit
  un : A.units + 16 * k + 200 < cLine
theorem Room.mono {j k : Nat} {A : Around} (r : Room k A) (h : j ≤ k) : Room j A := ⟨r.hd, by have := r.dp; omega, by have := r.un; omega⟩
theorem Room.deeper {k : Nat} {A : Around} (r : Room (k + 1) A) (env : Env) : Room k (A.deeper env) :=
  ⟨r.hd, by have := r.dp; show A.depth + 1 + 3 * k + 5 < _; omega, by have := r.un; show A.units + 3 + 16 * k + 200 < _; omega⟩
theorem Room.in1 {k : Nat} {A : Around} (r : Room (k + 1) A) : Room k A.in1 :=
  ⟨r.hd, by have := r.dp; show A.depth + 3 * k + 5 < _; omega, by have := r.un; show A.units + 1 + 16 * k + 200 < _; omega⟩
theorem make_depth {A : Around} {C : Addr} {us : List Value} {kw : List (Str × Value)} : (A.under (.builtin "type.__call__" ⟨.ref C :: us, kw⟩)).depth = A.depth + 1 := by
  first | rfl | simp [Around.under, Code.weight, Code.isCreation, Code.isGuard, Code.isCaller, Code.frames, Code.isFrame, guardIds]
theorem make_units {A : Around} {C : Addr} {us : List Value} {kw : List (Str × Value)} : (A.under (.builtin "type.__call__" ⟨.ref C :: us, kw⟩)).units = A.units + 1 := by
  first | rfl | simp [Around.under, Code.cUnits, Code.frames, Code.isFrame]
theorem Room.make {k : Nat} {A : Around} (r : Room (k + 1) A) (C : Addr) (us : List Value) (kw : List (Str × Value)) : Room k (A.under (.builtin "type.__call__" ⟨.ref C :: us, kw⟩)) :=
  ⟨r.hd, by have := r.dp; rw [make_depth]; omega, by have := r.un; rw [make_units]; omega⟩
theorem Room.depth {k : Nat} {A : Around} (r : Room k A) : A.depth < recursionLimit := by have := r.dp; omega
theorem Room.units {k : Nat} {A : Around} (r : Room k A) : A.units + 64 < cLine := by have := r.un; omega
theorem Room.units0 {k : Nat} {A : Around} (r : Room k A) : A.units < cLine := by have := r.un; omega

/-! ### argument lists and displays -/
def tNil : TA := fun _ H Q => Q [] H
def tCons (ta : TE) (tr : TA) : TA := fun σ H Q => ta σ H fun x H1 => tr σ H1 fun xs H2 => Q (x :: xs) H2
section
variable {X : Cx} {e : Expr} {es : List Expr} {te : TE} {t : TA} {pos : Pos}
theorem pa_nil : PA X [] tNil := fun _ _ _ _ H Q I h => Calls.spliced_nil ⟨[], H, I, .nil, h⟩
theorem pa_cons (ha : PE X e te) (hr : PA X es t) (hs : starEach (e :: es) X.env = (false, eval e X.env) :: starEach es X.env := by rfl) : PA X (e :: es) (tCons te t) := by
  intro pos pins s σ H Q I h
  rw [hs]
  show wpAny _ _ (spliced ((false, eval e X.env) :: backTo pos (starEach es X.env))) _ _ s
  refine Calls.spliced_cons (thn (ha pins s σ H _ I h) fun u s1 ⟨x, H1, I1, r1, q1⟩ => ?_)
  exact thn (hr pos pins s1 σ H1 _ I1 q1) fun us s2 ⟨xs, H2, I2, r2, q2⟩ => ⟨x :: xs, H2, I2, .cons r1 r2, q2⟩

/-- a tuple, a list of written items -/
def tTup (t : TA) : TE := fun σ H Q => t σ H fun xs H1 => xs.length ≤ sizeLine ∧ ∀ p, H1 p = none → Q (.ref p) (upd H1 p (.tup xs))
def tLst (t : TA) : TE := fun σ H Q => t σ H fun xs H1 => xs.length ≤ sizeLine ∧ ∀ p, H1 p = none → Q (.ref p) (upd H1 p (.lst xs))
theorem pe_tup {x1} (h : PA X es t) : PE X (.Tuple es x1 pos) (tTup t) := by
  intro pins s σ H Q I hq
  refine wpAny_Tuple_spliced (thn (h pos pins s σ H _ I hq) fun us s1 ⟨xs, H1, I1, r, z, q⟩ => ⟨by rw [← r.length]; exact z, ?_⟩)
  have hf : H1 s1.heap.objs.size = none := I1.hok.fresh (Nat.le_refl _)
  refine ⟨.ref s1.heap.objs.size, upd H1 s1.heap.objs.size (.tup xs), I1.laid (t' := s1.toks) (fun b u e => Heap.get?_push_of_some _ e) (Nat.le_refl _) ?_, rfl, q _ hf⟩
  exact ⟨z, us, r, ⟨_, Heap.get?_push_size _ rfl, rfl, _, rfl⟩⟩
theorem pe_lst (h : PA X es t) : PE X (.List es pos) (tLst t) := by
  intro pins s σ H Q I hq
  refine wpAny_List_spliced (thn (h pos pins s σ H _ I hq) fun us s1 ⟨xs, H1, I1, r, z, q⟩ => ⟨by rw [← r.length]; exact z, ?_⟩)
  have hf : H1 s1.heap.objs.size = none := I1.hok.fresh (Nat.le_refl _)
  refine ⟨.ref s1.heap.objs.size, upd H1 s1.heap.objs.size (.lst xs), I1.laid (t' := s1.toks) (fun b u e => Heap.get?_push_of_some _ e) (Nat.le_refl _) ?_, rfl, q _ hf⟩
  exact ⟨z, us, 0, r, Heap.get?_push_size _ rfl⟩
end

/-! ### what a def promises -/
/-- a def's promise: the bound arguments in the parameters' order, the heap, the wanted end, the wanted exception -/
abbrev Sp := List V → Hp → VK → XK → Prop
/-- how an exception lies behind a call (file 08 gives it): the callers' frames, abstract heap and state ahead of the call, the wish, the exception, the state -/
abbrev CXT := List Env → Hp → Shared → XK → Value → Shared → Prop

/-- the state at a call -/
structure Env0 (P : Program) (w : World) (K : PySem.W.Frag) (mg : Str → Option Value) (base : Heap) (A : Around) (outer : List Env) (s : Shared) (H : Hp) : Prop where
  frames : A.frames = some outer
  mod : Mod K mg base
  bs : ∀ b o, base.get? b = some o → s.heap.get? b = some o ∧ H b = none
  bsz : base.objs.size ≤ s.heap.objs.size
  funs : s.heap.FunFrames base outer
  frf : ∀ b ∈ frs outer, H b = none
  hok : HOk P w H s.heap
  bare : AllBare s.gens
/-- a call's end -/
def CE (outer : List Env) (P : Program) (w : World) (H : Hp) (s : Shared) (Q : VK) (u : Value) (s' : Shared) : Prop :=
  ∃ v H', s'.os = s.os ∧ AllBare s'.gens ∧ Un (frs outer) [] H H' s.heap s'.heap ∧ HOk P w H' s'.heap ∧ RelV v u ∧ Q v H'
def CR (CX : CXT) (outer : List Env) (P : Program) (w : World) (H : Hp) (s : Shared) (Q : VK) (E : XK) (r : Result) (s' : Shared) : Prop :=
  match r with
  | .ok (.ret u) => CE outer P w H s Q u s'
  | .ok _ => False
  | .error e => CX outer H s E e s'
structure FnOk (P : Program) (w : World) (K : PySem.W.Frag) (mg : Str → Option Value) (base : Heap) (CX : CXT) (k : Nat) (f : Addr) (fd : FuncData) (ps : List Str) (sp : Sp) : Prop where
  len : ∀ vs H Q E, sp vs H Q E → vs.length = ps.length
  run : ∀ (A : Around) (outer : List Env) (s : Shared) (H : Hp) (args : Args) (us : List Value) (vs : List V) (Q : VK) (E : XK), Room k A → Env0 P w K mg base A outer s H → BindsTo s fd args (ps.zip us) → Vals vs us → sp vs H Q E →
    codeAny (model P w) A (.call (.ref f) args) (CR CX outer P w H s Q E) s
theorem FnOk.mono {P : Program} {w : World} {K : PySem.W.Frag} {mg : Str → Option Value} {base : Heap} {CX : CXT} {j k : Nat} {f : Addr} {fd : FuncData} {ps : List Str} {sp : Sp} (F : FnOk P w K mg base CX j f fd ps sp) (h : j ≤ k) :
    FnOk P w K mg base CX k f fd ps sp := ⟨F.len, fun A outer s H args us vs Q E hr => F.run A outer s H args us vs Q E (hr.mono h)⟩
/-- a weaker promise -/
theorem FnOk.imp {P : Program} {w : World} {K : PySem.W.Frag} {mg : Str → Option Value} {base : Heap} {CX : CXT} {k : Nat} {f : Addr} {fd : FuncData} {ps : List Str} {sp sp' : Sp} (F : FnOk P w K mg base CX k f fd ps sp)
    (h : ∀ vs H Q E, sp' vs H Q E → sp vs H Q E) : FnOk P w K mg base CX k f fd ps sp' :=
  ⟨fun vs H Q E q => F.len vs H Q E (h _ _ _ _ q), fun A outer s H args us vs Q E hr he hb hv hs => F.run A outer s H args us vs Q E hr he hb hv (h _ _ _ _ hs)⟩

theorem Env0.make {P : Program} {w : World} {K : PySem.W.Frag} {mg : Str → Option Value} {base : Heap} {A : Around} {outer : List Env} {s : Shared} {H : Hp} (e : Env0 P w K mg base A outer s H) (C : Addr) (us : List Value) (kw : List (Str × Value)) :
    Env0 P w K mg base (A.under (.builtin "type.__call__" ⟨.ref C :: us, kw⟩)) outer s H := ⟨by first | exact e.frames | (simpa [Around.under, Code.envs, Code.isFrame, pushEnvs] using e.frames), e.mod, e.bs, e.bsz, e.funs, e.frf, e.hok, e.bare⟩
theorem Env0.in1 {P : Program} {w : World} {K : PySem.W.Frag} {mg : Str → Option Value} {base : Heap} {A : Around} {outer : List Env} {s : Shared} {H : Hp} (e : Env0 P w K mg base A outer s H) :
    Env0 P w K mg base A.in1 outer s H := ⟨e.frames, e.mod, e.bs, e.bsz, e.funs, e.frf, e.hok, e.bare⟩

section
variable {X : Cx} {pins : List (Addr × Obj)} {σ : St} {H : Hp} {s s' : Shared}
/-- from a body: what a callee wants -/
theorem Inv.env0 (I : Inv X pins σ H s) : Env0 X.prog X.w X.K X.mg X.base X.A X.stack s H :=
  ⟨I.ok.frames, I.ok.mod, I.bs, Nat.le_trans I.ok.bsz I.sz, I.stack, I.stkFree, I.hok, I.bare⟩
/-- behind a call -/
theorem Inv.after {Q : VK} {u : Value} (I : Inv X pins σ H s) (h : CE X.stack X.prog X.w H s Q u s') : EP X pins σ Q u s' := by
  obtain ⟨v, H', os, bare, un, hok, r, q⟩ := h
  obtain ⟨hh, g, d, t, os'⟩ := s'
  obtain rfl : os' = s.os := os
  exact ⟨v, H', I.call (h' := hh) (g' := g) (d' := d) (t' := t) (ch := []) un hok bare (fun b z => absurd z (by simp)), r, q⟩
end

/-! ### calls -/
/-- f(..): the written arguments, then the defaults dvs; E: what is wanted of an exception -/
def tCall (sp : Sp) (dvs : List V) (E : XK) (t : TA) : TE := fun σ H Q => t σ H fun vs H1 => sp (vs ++ dvs) H1 Q E
/-- o.m(..) of an instance of the class at C -/
def tMeth (C : Addr) (m : Str) (sp : Sp) (dvs : List V) (E : XK) (ta : TE) (t : TA) : TE := fun σ H Q => ta σ H fun x H1 => ∃ a dx fs, x = .ref a ∧ H1 a = some (.ins C dx fs) ∧ fs.lookup m = none ∧
  t σ H1 fun vs H2 => sp (x :: (vs ++ dvs)) H2 Q E
/-- C(..): a new instance and its dict, then __init__ -/
def tMake (C : Addr) (sp : Sp) (dvs : List V) (E : XK) (t : TA) : TE := fun σ H Q => t σ H fun vs H1 => ∀ x dx, H1 x = none → H1 dx = none → dx ≠ x →
  sp (.ref x :: (vs ++ dvs)) (upd (upd H1 dx (.own x)) x (.ins C dx [])) (fun v H2 => v = .non ∧ Q (.ref x) H2) E

/-- how the parameters are bound: us the positional arguments, kw the keywords' values by name, ds the defaults that fill up -/
def Binds (K : PySem.W.Frag) (fd : FuncData) (ps : List Str) (ds : List Value) : Prop :=
  ∀ (s : Shared) (us : List Value), K.In s.heap → (us ++ ds).length = ps.length → BindsTo s fd ⟨us, []⟩ (ps.zip (us ++ ds))
/-- every parameter is given -/
theorem Binds.all {K : PySem.W.Frag} {fd : FuncData} {ps : List Str} (h : ∀ us : List Value, us.length = ps.length → bindArgs fd ⟨us, []⟩ = pure (ps.zip us)) : Binds K fd ps [] := fun s us _ hl => by
  rw [List.append_nil] at hl ⊢
  exact .of_eq (h us hl)

/-- an exception of a callee reaches what this body wants of exceptions -/
def Passes (CX : CXT) (X : Cx) (E : XK) : Prop := ∀ (pins : List (Addr × Obj)) (σ : St) (H : Hp) (s : Shared) (e : Value) (s' : Shared), Inv X pins σ H s → CX X.stack H s E e s' → X.xe e s'

section
variable {X : Cx} {CX : CXT} {k : Nat} {f C : Addr} {fd : FuncData} {ps : List Str} {sp : Sp} {dvs : List V} {ds : List Value} {E : XK} {x m : Str} {p pos apos : Pos} {e o : Expr} {es : List Expr} {ta : TE} {t : TA}

/-- the callee runs -/
theorem run_fn {pins : List (Addr × Obj)} {σ : St} {H : Hp} {s : Shared} {Q : VK} {us : List Value} {vs : List V} (F : FnOk X.prog X.w X.K X.mg X.base CX k f fd ps sp) (hr : Room k X.A) (hb : Binds X.K fd ps ds) (hd : Vals dvs ds) (hx : Passes CX X E)
    (I : Inv X pins σ H s) (r : Vals vs us) (h : sp (vs ++ dvs) H Q E) : wpAny (model X.prog X.w) X.A (call (.ref f) us) (EP X pins σ Q) X.xe s := by
  have r2 : Vals (vs ++ dvs) (us ++ ds) := r.append hd
  have hl : (us ++ ds).length = ps.length := by rw [← r2.length]; exact F.len _ _ _ _ h
  refine wpAny_call (codeAny_mono (F.run X.A X.stack s H ⟨us, []⟩ (us ++ ds) (vs ++ dvs) Q E hr I.env0 (hb s us I.kIn hl) r2 h) fun r s' hq => ?_)
  cases r with
  | error e => exact hx pins σ H s e s' I hq
  | ok fl =>
    cases fl with
    | ret u => exact I.after hq
    | next => exact False.elim hq
    | brk => exact False.elim hq
    | cont => exact False.elim hq

theorem pe_call (F : FnOk X.prog X.w X.K X.mg X.base CX k f fd ps sp) (hr : Room k X.A) (hg : Gl X x) (hm : X.mg x = some (.ref f)) (hk : PySem.W.keepIn X.K (.ref f) = true) (hb : Binds X.K fd ps ds) (hd : Vals dvs ds) (hx : Passes CX X E)
    (ha : PA X (e :: es) t) (hdb : (x == ("__debug__" : Str)) = false := by decide) (he : starEach (e :: es) X.env = (false, eval e X.env) :: starEach es X.env := by rfl) (hpl : (backTo pos (starEach es X.env)).any (·.1) = false := by rfl) :
    PE X (.Call (.Name x p) (e :: es) [] pos) (tCall sp dvs E t) := by
  intro pins s σ H Q I h
  refine wpAny_Call_Name_kw (ld_glob I hg hm ?_ hdb)
  refine PySem.W.callWith_K (h₀ := X.base) I.ok.mod.kin hk (thn (ha pos pins s σ H _ I h) fun us s1 ⟨vs, H1, I1, r, q⟩ => ⟨I1.kIn, ?_⟩) he hpl
  exact run_fn F hr hb hd hx I1 r q
theorem pe_call0 (F : FnOk X.prog X.w X.K X.mg X.base CX k f fd ps sp) (hr : Room k X.A) (hg : Gl X x) (hm : X.mg x = some (.ref f)) (hk : PySem.W.keepIn X.K (.ref f) = true) (hb : Binds X.K fd ps ds) (hd : Vals dvs ds) (hx : Passes CX X E)
    (hdb : (x == ("__debug__" : Str)) = false := by decide) : PE X (.Call (.Name x p) [] [] pos) (tCall sp dvs E tNil) := by
  intro pins s σ H Q I h
  refine wpAny_Call_Name_kw (ld_glob I hg hm ?_ hdb)
  exact PySem.W.callWith_K0 I.kIn hk (run_fn (us := []) F hr hb hd hx I .nil h)

/-- o.m(e, ..) -/
theorem pe_meth {pl : Sem Bool} (he : PE X o ta) (c : Cls X.K C) (hm : Meth X.K C m f) (F : FnOk X.prog X.w X.K X.mg X.base CX k f fd ps sp) (hr : Room k X.A) (hb : Binds X.K fd ps ds) (hd : Vals dvs ds) (hx : Passes CX X E) (ha : PA X (e :: es) t)
    (hst : starEach (e :: es) X.env = (false, eval e X.env) :: starEach es X.env := by rfl) (hpl : (backTo pos (starEach es X.env)).any (·.1) = false := by rfl)
    (ht : eval (.Call (.Attribute o m apos) (e :: es) [] pos) X.env = (do
      let ov ← eval o X.env
      standAt apos.atName
      let (f, first) ← holding [ov] (getMethod ov m pl)
      callWith pos f first (backTo pos (starEach (e :: es) X.env)) (backToKw pos (keywordEach [] X.env))) := by rfl) :
    PE X (.Call (.Attribute o m apos) (e :: es) [] pos) (tMeth C m sp dvs E ta t) := by
  intro pins s σ H Q I h
  refine PySem.W.methodCall_KW (pl := pl) (thn (he pins s σ H _ I h) fun u s1 ⟨x, H1, I1, rx, a, dx, fs, ex, ea, l, q⟩ => ?_) ht
  subst ex
  obtain rfl : u = Value.ref a := rx
  refine getmeth_ok I1 ea c hm l ?_
  refine PySem.W.callWith_K (first := [.ref a]) (h₀ := X.base) I.ok.mod.kin hm.kp (thn (ha pos pins s1 σ H1 _ I1 q) fun us s2 ⟨vs, H2, I2, r, q2⟩ => ⟨I2.kIn, ?_⟩) hst hpl
  exact run_fn (us := .ref a :: us) (vs := .ref a :: vs) F hr hb hd hx I2 (.cons rfl r) q2
/-- o.m() -/
theorem pe_meth0 {pl : Sem Bool} (he : PE X o ta) (c : Cls X.K C) (hm : Meth X.K C m f) (F : FnOk X.prog X.w X.K X.mg X.base CX k f fd ps sp) (hr : Room k X.A) (hb : Binds X.K fd ps ds) (hd : Vals dvs ds) (hx : Passes CX X E)
    (ht : eval (.Call (.Attribute o m apos) [] [] pos) X.env = (do
      let ov ← eval o X.env
      standAt apos.atName
      let (f, first) ← holding [ov] (getMethod ov m pl)
      callWith pos f first (backTo pos (starEach [] X.env)) (backToKw pos (keywordEach [] X.env))) := by rfl) :
    PE X (.Call (.Attribute o m apos) [] [] pos) (tMeth C m sp dvs E ta tNil) := by
  intro pins s σ H Q I h
  refine PySem.W.methodCall_KW (pl := pl) (thn (he pins s σ H _ I h) fun u s1 ⟨x, H1, I1, rx, a, dx, fs, ex, ea, l, q⟩ => ?_) ht
  subst ex
  obtain rfl : u = Value.ref a := rx
  refine getmeth_ok I1 ea c hm l ?_
  exact PySem.W.callWith_K0 (first := [.ref a]) I1.kIn hm.kp (run_fn (us := [.ref a]) (vs := [.ref a]) F hr hb hd hx I1 (.cons rfl .nil) q)

/-- what a class must have to be made -/
structure Mk (K : PySem.W.Frag) (C f : Addr) : Prop where
  makes : PySem.W.makesIn K C = true
  init : PySem.W.findIn K (.ref C) "__init__" = some (some (.ref f))
  fn : PySem.W.isFn K (.ref f) = true
  kp : PySem.W.keepIn K (.ref C) = true

theorem run_make {pins : List (Addr × Obj)} {σ : St} {H : Hp} {s : Shared} {Q : VK} {us : List Value} {vs : List V} (M : Mk X.K C f) (F : FnOk X.prog X.w X.K X.mg X.base CX k f fd ps sp) (hr : Room (k + 1) X.A) (hb : Binds X.K fd ps ds) (hd : Vals dvs ds)
    (hx : Passes CX X E) (I : Inv X pins σ H s) (r : Vals vs us)
    (h : ∀ x dx, H x = none → H dx = none → dx ≠ x → sp (.ref x :: (vs ++ dvs)) (upd (upd H dx (.own x)) x (.ins C dx [])) (fun v H2 => v = .non ∧ Q (.ref x) H2) E) :
    wpAny (model X.prog X.w) X.A (call (.ref C) us) (EP X pins σ Q) X.xe s := by
  have hq := h (s.heap.objs.size + 1) s.heap.objs.size (I.hok.fresh (Nat.le_succ _)) (I.hok.fresh (Nat.le_refl _)) (Nat.ne_of_lt (Nat.lt_succ_self _))
  have I2 := Inv.made (C := C) I
  have r2 : Vals (V.ref (s.heap.objs.size + 1) :: (vs ++ dvs)) (Value.ref (s.heap.objs.size + 1) :: (us ++ ds)) := .cons rfl (r.append hd)
  have hl : (Value.ref (s.heap.objs.size + 1) :: us ++ ds).length = ps.length := by
    have e := r2.length
    rw [F.len _ _ _ _ hq] at e
    exact e.symm
  refine wpAny_call (make_map (f := f) I.kIn M.makes M.init (beq_iff_eq.mp M.fn) (codeAny_mono (F.run _ X.stack _ _ ⟨Value.ref (s.heap.objs.size + 1) :: us, []⟩ (Value.ref (s.heap.objs.size + 1) :: (us ++ ds)) _ _ E (hr.make C us [])
    (I2.env0.make C us []) (hb _ (Value.ref (s.heap.objs.size + 1) :: us) I2.kIn hl) r2 hq) fun r s' hq' => ?_))
  cases r with
  | error e => exact hx pins σ _ _ e s' I2 hq'
  | ok fl =>
    cases fl with
    | ret u =>
      obtain ⟨v, H', I3, rv, ev, q3⟩ := I2.after hq'
      subst ev
      exact ⟨rv, ⟨V.ref (s.heap.objs.size + 1), H', I3, rfl, q3⟩⟩
    | next => exact False.elim hq'
    | brk => exact False.elim hq'
    | cont => exact False.elim hq'
theorem pe_make (M : Mk X.K C f) (F : FnOk X.prog X.w X.K X.mg X.base CX k f fd ps sp) (hr : Room (k + 1) X.A) (hg : Gl X x) (hm : X.mg x = some (.ref C)) (hb : Binds X.K fd ps ds) (hd : Vals dvs ds) (hx : Passes CX X E)
    (ha : PA X (e :: es) t) (hdb : (x == ("__debug__" : Str)) = false := by decide) (he : starEach (e :: es) X.env = (false, eval e X.env) :: starEach es X.env := by rfl) (hpl : (backTo pos (starEach es X.env)).any (·.1) = false := by rfl) :
    PE X (.Call (.Name x p) (e :: es) [] pos) (tMake C sp dvs E t) := by
  intro pins s σ H Q I h
  refine wpAny_Call_Name_kw (ld_glob I hg hm ?_ hdb)
  refine PySem.W.callWith_K (h₀ := X.base) I.ok.mod.kin M.kp (thn (ha pos pins s σ H _ I h) fun us s1 ⟨vs, H1, I1, r, q⟩ => ⟨I1.kIn, ?_⟩) he hpl
  exact run_make M F hr hb hd hx I1 r q
theorem pe_make0 (M : Mk X.K C f) (F : FnOk X.prog X.w X.K X.mg X.base CX k f fd ps sp) (hr : Room (k + 1) X.A) (hg : Gl X x) (hm : X.mg x = some (.ref C)) (hb : Binds X.K fd ps ds) (hd : Vals dvs ds) (hx : Passes CX X E)
    (hdb : (x == ("__debug__" : Str)) = false := by decide) : PE X (.Call (.Name x p) [] [] pos) (tMake C sp dvs E tNil) := by
  intro pins s σ H Q I h
  refine wpAny_Call_Name_kw (ld_glob I hg hm ?_ hdb)
  exact PySem.W.callWith_K0 I.kIn M.kp (run_make (us := []) M F hr hb hd hx I .nil h)
end

/-! ### keywords -/
/-- the values of the keywords, from the left -/
def PK (X : Cx) (kws : List Keyword) (t : TA) : Prop :=
  ∀ (pos : Pos) (pins : List (Addr × Obj)) (s : Shared) (σ : St) (H : Hp) (Q : List V → Hp → Prop), Inv X pins σ H s → t σ H Q → wpAny (model X.prog X.w) X.A (evalAll ((backToKw pos (keywordEach kws X.env)).map (·.2))) (AP X pins σ Q) X.xe s
section
variable {X : Cx} {CX : CXT} {k : Nat} {f C : Addr} {fd : FuncData} {ps ks : List Str} {sp : Sp} {E : XK} {x m : Str} {p pos apos kpos : Pos} {e o : Expr} {es : List Expr} {kws : List Keyword} {te ta : TE} {t tk : TA} {nm : Option Str}
theorem pk_nil : PK X [] tNil := fun _ _ _ _ H Q I h => wpAny_evalAll_nil ⟨[], H, I, .nil, h⟩
theorem pk_cons (ha : PE X e te) (hr : PK X kws t) : PK X (⟨nm, e, kpos⟩ :: kws) (tCons te t) := by
  intro pos pins s σ H Q I h
  show wpAny _ _ (evalAll ((do let v ← eval e X.env; standAt pos; pure v) :: (backToKw pos (keywordEach kws X.env)).map (·.2))) _ _ s
  refine wpAny_evalAll_cons (wpAny_bind (thn (ha pins s σ H _ I h) fun u s1 ⟨x, H1, I1, r1, q1⟩ => wpAny_bind (wpAny_standAt (wpAny_pure ?_))))
  exact thn (hr pos pins s1 σ H1 _ I1 q1) fun us s2 ⟨xs, H2, I2, r2, q2⟩ => ⟨x :: xs, H2, I2, .cons r1 r2, q2⟩

/-- how a call with keywords binds: g puts the positional values us and the keywords' values ws (names ks) in the parameters' order, defaults among them -/
structure KBinds (K : PySem.W.Frag) (fd : FuncData) (ps ks : List Str) (g : List Value → List Value → List Value) (gV : List V → List V → List V) : Prop where
  to : ∀ (s : Shared) (us ws : List Value), K.In s.heap → (g us ws).length = ps.length → BindsTo s fd ⟨us, ks.zip ws⟩ (ps.zip (g us ws))
  rel : ∀ {vs : List V} {us : List Value} {zs : List V} {ws : List Value}, Vals vs us → Vals zs ws → Vals (gV vs zs) (g us ws)
def tCallK (sp : Sp) (gV : List V → List V → List V) (E : XK) (t tk : TA) : TE := fun σ H Q => t σ H fun vs H1 => tk σ H1 fun zs H2 => sp (gV vs zs) H2 Q E
variable {g : List Value → List Value → List Value} {gV : List V → List V → List V}
theorem run_fnk {pins : List (Addr × Obj)} {σ : St} {H : Hp} {s : Shared} {Q : VK} {us ws : List Value} {vs zs : List V} (F : FnOk X.prog X.w X.K X.mg X.base CX k f fd ps sp) (hr : Room k X.A) (hb : KBinds X.K fd ps ks g gV) (hx : Passes CX X E)
    (I : Inv X pins σ H s) (r : Vals vs us) (rz : Vals zs ws) (h : sp (gV vs zs) H Q E) : wpAny (model X.prog X.w) X.A (call (.ref f) us (ks.zip ws)) (EP X pins σ Q) X.xe s := by
  have r2 := hb.rel r rz
  have hl : (g us ws).length = ps.length := by rw [← r2.length]; exact F.len _ _ _ _ h
  refine wpAny_call (codeAny_mono (F.run X.A X.stack s H ⟨us, ks.zip ws⟩ (g us ws) (gV vs zs) Q E hr I.env0 (hb.to s us ws I.kIn hl) r2 h) fun r s' hq => ?_)
  cases r with
  | error e => exact hx pins σ H s e s' I hq
  | ok fl =>
    cases fl with
    | ret u => exact I.after hq
    | next => exact False.elim hq
    | brk => exact False.elim hq
    | cont => exact False.elim hq
/-- f(e, .., k = v, ..) -/
theorem pe_callK (F : FnOk X.prog X.w X.K X.mg X.base CX k f fd ps sp) (hr : Room k X.A) (hg : Gl X x) (hm : X.mg x = some (.ref f)) (hk : PySem.W.keepIn X.K (.ref f) = true) (hb : KBinds X.K fd ps ks g gV) (hx : Passes CX X E)
    (ha : PA X (e :: es) t) (hkw : PK X kws tk) (hall : (backToKw pos (keywordEach kws X.env)).all (·.1.isSome) = true := by rfl) (hks : (backToKw pos (keywordEach kws X.env)).filterMap (·.1) = ks := by rfl)
    (hdb : (x == ("__debug__" : Str)) = false := by decide) (he : starEach (e :: es) X.env = (false, eval e X.env) :: starEach es X.env := by rfl)
    (hpl : ((backTo pos (starEach (e :: es) X.env)).any (·.1) || (backToKw pos (keywordEach kws X.env)).any (·.1.isNone)) = false := by rfl) :
    PE X (.Call (.Name x p) (e :: es) kws pos) (tCallK sp gV E t tk) := by
  intro pins s σ H Q I h
  refine wpAny_Call_Name_kw (ld_glob I hg hm ?_ hdb)
  refine PySem.W.callWith_KW (h₀ := X.base) I.ok.mod.kin hk hall (thn (ha pos pins s σ H _ I h) fun us s1 ⟨vs, H1, I1, r, q⟩ => ?_) hpl he
  refine thn (hkw pos pins s1 σ H1 _ I1 q) fun ws s2 ⟨zs, H2, I2, rz, q2⟩ => ⟨I2.kIn, ?_⟩
  rw [hks]
  exact run_fnk F hr hb hx I2 r rz q2
end

/-! ### a def's body keeps its promise -/
/-- names: the parameters first -/
structure FnScope (N P : List Str) (sc : Scope) : Prop where
  kind : sc.kind = .function
  co : sc.isCoroutine = false
  gen : sc.isGenerator = false
  nd : N.Nodup
  pre : N.take P.length = P
  par : ∀ x ∈ P, sc.names.lookup x = some .local ∨ sc.names.lookup x = some .cell
  nofree : ∀ y ∈ sc.names, y.2 ≠ .free

theorem bindL_out {kindOf : Str → Option NameKind} {x : Str} : ∀ {binds : List (Str × Value)} {m : Str → Option Value}, (∀ v, (x, v) ∉ binds) → bindL kindOf binds m x = m x
  | [], _, _ => rfl
  | (n, v) :: r, m, h => by
    unfold bindL
    rw [bindL_out fun w hw => h w (List.mem_cons_of_mem _ hw)]
    split
    · have : x ≠ n := by rintro rfl; exact h v List.mem_cons_self
      simp [this]
    · rfl
theorem bindC_out {kindOf : Str → Option NameKind} {x : Str} : ∀ {binds : List (Str × Value)} {m : Str → Option Value}, (∀ v, (x, v) ∉ binds) → bindC kindOf binds m x = m x
  | [], _, _ => rfl
  | (n, v) :: r, m, h => by
    unfold bindC
    rw [bindC_out fun w hw => h w (List.mem_cons_of_mem _ hw)]
    split
    · rfl
    · have : x ≠ n := by rintro rfl; exact h v List.mem_cons_self
      simp [this]
theorem bindL_get {kindOf : Str → Option NameKind} {x : Str} {v : Value} : ∀ {P : List Str} {vs : List Value} {i : Nat} {m : Str → Option Value}, P.Nodup → P[i]? = some x → vs[i]? = some v → kindOf x = some .local →
    bindL kindOf (P.zip vs) m x = some v
  | [], _, _, _, _, h, _, _ => by simp at h
  | _ :: _, [], _, _, _, _, h, _ => by simp at h
  | p :: P, w :: vs, 0, m, nd, h1, h2, hk => by
    simp at h1 h2; subst h1; subst h2
    show bindL kindOf ((p, w) :: P.zip vs) m p = _
    unfold bindL
    rw [bindL_out fun v hv => (List.nodup_cons.mp nd).1 (List.of_mem_zip hv).1, if_pos hk]
    simp
  | p :: P, w :: vs, i + 1, m, nd, h1, h2, hk => by
    show bindL kindOf ((p, w) :: P.zip vs) m x = _
    unfold bindL
    exact bindL_get (i := i) (List.nodup_cons.mp nd).2 (by simpa using h1) (by simpa using h2) hk
theorem bindC_get {kindOf : Str → Option NameKind} {x : Str} {v : Value} : ∀ {P : List Str} {vs : List Value} {i : Nat} {m : Str → Option Value}, P.Nodup → P[i]? = some x → vs[i]? = some v → kindOf x ≠ some .local →
    bindC kindOf (P.zip vs) m x = some v
  | [], _, _, _, _, h, _, _ => by simp at h
  | _ :: _, [], _, _, _, _, h, _ => by simp at h
  | p :: P, w :: vs, 0, m, nd, h1, h2, hk => by
    simp at h1 h2; subst h1; subst h2
    show bindC kindOf ((p, w) :: P.zip vs) m p = _
    unfold bindC
    rw [bindC_out fun v hv => (List.nodup_cons.mp nd).1 (List.of_mem_zip hv).1, if_neg hk]
    simp
  | p :: P, w :: vs, i + 1, m, nd, h1, h2, hk => by
    show bindC kindOf ((p, w) :: P.zip vs) m x = _
    unfold bindC
    exact bindC_get (i := i) (List.nodup_cons.mp nd).2 (by simpa using h1) (by simpa using h2) hk

/-- the names' values at the entry -/
def start (N : List Str) (vs : List V) : St := vs.map some ++ List.replicate (N.length - vs.length) none

/-- the context of a def's body, at its entry; an exception leaves the frame, then lies as CX says -/
def cxOf (CX : CXT) (P : Program) (w : World) (K : PySem.W.Frag) (mg : Str → Option Value) (base : Heap) (N : List Str) (qual : Str) (scope : Scope) (f : Addr) (cd : Value) (A : Around) (outer : List Env) (s : Shared) (H : Hp) (E : XK) : Cx where
  prog := P
  w := w
  K := K
  mg := mg
  base := base
  A := A.deeper (envOfC qual scope s.heap.objs.size f cd)
  N := N
  s₀ := s
  H₀ := H
  env := envOfC qual scope s.heap.objs.size f cd
  outer := outer
  stack := envOfC qual scope s.heap.objs.size f cd :: outer
  ex := []
  calm := true
  fn := fun _ => true
  pn := []
  xe := fun e s' => wpAny (model P w) (A.deeper (envOfC qual scope s.heap.objs.size f cd)) (leaving (envOfC qual scope s.heap.objs.size f cd) e) (fun _ s'' => CX outer H s E e s'') (fun e' s'' => CX outer H s E e' s'') s'

theorem cell_has {sc : Scope} {n : Nat} {x : Str} (h : sc.names.lookup x = some .cell) : ∃ c, (cellsFrom n sc.names []).lookup x = some c := by
  have q := PySem.W.cellsFrom_some sc.names n [] (.inl h)
  exact Option.isSome_iff_exists.mp q

theorem inv_start {CX : CXT} {P : Program} {w : World} {K : PySem.W.Frag} {mg : Str → Option Value} {base : Heap} {N ps : List Str} {qual : Str} {scope : Scope} {f : Addr} {cd : Value} {A : Around} {outer : List Env} {s s1 : Shared} {H : Hp} {E : XK} {us : List Value} {vs : List V}
    (S : FnScope N ps scope) (hd : A.handled = none) (e0 : Env0 P w K mg base A outer s H) (hl : vs.length = ps.length) (r : Vals vs us)
    (x : InCallC s s.heap.objs.size (bindL (envOfC qual scope s.heap.objs.size f cd).kindOf (ps.zip us) fun _ => none) (cellsFrom (s.heap.objs.size + 1) scope.names []) (bindC (envOfC qual scope s.heap.objs.size f cd).kindOf (ps.zip us) fun _ => none) s1) :
    Inv (cxOf CX P w K mg base N qual scope f cd A outer s H E) [] (start N vs) H s1 := by
  have hpl : ps.length ≤ N.length := by have := congrArg List.length S.pre; rw [List.length_take] at this; omega
  obtain ⟨h1, tk, rfl, hk⟩ := x.done
  have noA : ∀ b : Addr, b ∉ (cxOf CX P w K mg base N qual scope f cd A outer s H E).ex := fun b z => absurd (show b ∈ ([] : List Addr) from z) (by simp)
  refine ⟨⟨e0.mod, S.kind, rfl, rfl, Nat.le_refl _, fun y z c h1 h2 => ?_, fun y hy => ?_, fun y c _ h => ?_, fun _ => hd, Around.frames_deeper e0.frames, .inr ⟨rfl, rfl⟩, fun b z => absurd z (noA b), e0.bs, e0.bsz, fun b _ _ => noA b, fun b z => absurd z (noA b), e0.funs, e0.frf⟩,
    rfl, e0.bare, Un.kept hk, ⟨_, x.toInCall.ns, fun i y v h1 h2 h3 => ?_⟩, fun y c h => ⟨_, x.cell y c h⟩, e0.hok.fresh (Nat.le_refl _), fun y c h => ?_, fun p hp => absurd (show p ∈ ([] : List (Addr × Obj)) from hp) (by simp), e0.hok.kept hk, ?_⟩
  · exact name_of_addr x.apart (PySem.mem_of_lookup h1) (PySem.mem_of_lookup h2)
  · have hy : scope.names.lookup y = some .cell ∨ scope.names.lookup y = some .free := hy
    rcases hy with hy | hy
    · exact cell_has hy
    · exact absurd rfl (S.nofree _ (PySem.mem_of_lookup hy))
  · exact Nat.le_of_lt (x.above y c (PySem.mem_of_lookup h))
  · have hi : i < vs.length := by
      unfold start at h2
      by_cases hi : i < vs.length
      · exact hi
      · rw [List.getElem?_append_right (by simpa using hi)] at h2
        rw [List.getElem?_replicate] at h2
        split at h2 <;> cases h2
    have ha : vs[i]? = some v := by
      unfold start at h2
      rw [List.getElem?_append_left (by simpa using hi), List.getElem?_map] at h2
      cases e : vs[i]? with
      | none => rw [e] at h2; cases h2
      | some a => rw [e] at h2; cases h2; rfl
    obtain ⟨u, hu, rv⟩ := r.get ha
    have hp : ps[i]? = some y := by
      rw [← S.pre, List.getElem?_take_of_lt (by omega)]; exact h1
    have ndP : ps.Nodup := by rw [← S.pre]; exact S.nd.sublist (List.take_sublist _ _)
    refine ⟨u, rv, ?_⟩
    rcases S.par y (List.mem_of_getElem? hp) with k | k
    · exact .inl ⟨k, bindL_get ndP hp hu k⟩
    · obtain ⟨c, e⟩ := cell_has (n := s.heap.objs.size + 1) k
      refine .inr ⟨.inl k, c, e, ?_⟩
      have q := x.cell y c e
      rw [bindC_get ndP hp hu (by show scope.names.lookup y ≠ _; rw [k]; decide)] at q
      exact q
  · exact e0.hok.fresh (Nat.le_of_lt (x.above y c (PySem.mem_of_lookup h)))
  · unfold start
    show _ = N.length
    rw [List.length_append, List.length_map, List.length_replicate]
    omega

/-- THE RULE: a def (or a method) of the text, by its body. The body's reading t is chosen for each entry; it is run at the parameters' values -/
theorem fn_of {CX : CXT} {P : Program} {w : World} {K : PySem.W.Frag} {mg : Str → Option Value} {base : Heap} {k : Nat} {f : Addr} {name qual : Str} {params : Arguments} {body : List Stmt} {scope : Scope} {dV kV doc pm cdv ct oc : Value} {an od : Option Addr}
    {osl : Array (Option Value)} {N ps : List Str} {sp : Sp} (lk : K.lookup f = some ⟨oc, od, .func (PySem.W.fnOf name qual params body scope dV kV doc pm an cdv ct), osl⟩) (hcd : PySem.W.codeIn K cdv qual = true) (S : FnScope N ps scope)
    (len : ∀ vs H Q E, sp vs H Q E → vs.length = ps.length)
    (hbody : ∀ (A : Around) (outer : List Env) (s : Shared) (H : Hp) (vs : List V) (Q : VK) (E : XK), Room k (A.deeper (envOfC qual scope s.heap.objs.size f cdv)) → sp vs H Q E →
      ∃ t, PSs (cxOf CX P w K mg base N qual scope f cdv A outer s H E) body t ∧ t { nx := fun _ H' => Q .non H', rt := Q } (start N vs) H) :
    FnOk P w K mg base CX (k + 1) f (PySem.W.fnOf name qual params body scope dV kV doc pm an cdv ct) ps sp := by
  refine ⟨len, fun A outer s H args us vs Q E hr e0 hb r hsp => ?_⟩
  have hl := len _ _ _ _ hsp
  have KX : K.In s.heap := e0.mod.kin.keeps fun b o e => (e0.bs b o e).1
  have lim : s.heap.NoLimit := e0.mod.nolimit.keeps fun b o e => (e0.bs b o e).1
  have hkind : ∀ y ∈ ps.zip us, scope.names.lookup y.1 = some .local ∨ (scope.names.lookup y.1 = some .cell ∧ ((cellsFrom (s.heap.objs.size + 1) scope.names []).lookup y.1).isSome = true) := fun ⟨n, v⟩ hy => by
    rcases S.par n (List.of_mem_zip hy).1 with q | q
    · exact .inl q
    · exact .inr ⟨q, PySem.W.cellsFrom_some _ _ _ (.inl q)⟩
  refine codeAny_call_function hr.depth (KX _ _ lk) rfl S.co S.gen rfl (PySem.W.codeRec_of KX hcd) (hb _ _ _ _ ?_)
  refine wpAny_newFunctionEnv_cells S.kind hkind fun env he s1 x => ?_
  subst he
  refine ⟨lim.keeps x.toInCall.keep, codeAny_func ?_⟩
  obtain ⟨t, ht, hq⟩ := hbody A outer s H vs Q E (hr.deeper _) hsp
  have I : Inv (cxOf CX P w K mg base N qual scope f cdv A outer s H E) [] (start N vs) H s1 := inv_start S hr.hd e0 hl r x
  refine wpAny_mono (ht [] s1 (start N vs) H _ I hq) (fun fl s' hs => ?_) fun e s' hs => hs
  have fin : ∀ {σ' : St} {H' : Hp} {v : V} {u : Value}, Inv (cxOf CX P w K mg base N qual scope f cdv A outer s H E) [] σ' H' s' → RelV v u → Q v H' → CE outer P w H s Q u s' :=
    fun {σ' H' v u} J rv q => ⟨v, H', J.os, J.bare, J.base, J.hok, rv, q⟩
  cases fl with
  | ret u =>
    obtain ⟨v, σ', H', J, rv, q⟩ := hs
    exact fin J rv q
  | next =>
    obtain ⟨σ', H', J, q⟩ := hs
    exact fin (v := V.non) (u := Value.none) J rfl q
  | brk =>
    obtain ⟨_, _, _, q⟩ := hs
    exact False.elim q
  | cont =>
    obtain ⟨_, _, _, q⟩ := hs
    exact False.elim q
end L2

namespace L2
open PySem PySem.Spec PyProof.Rows
section
variable {X : Cx} {x : Str} {p pos : Pos} {e : Expr} {es : List Expr} {t : TA} {id T : String} {r : List V → Hp → VK → Prop}

def tCB (r : List V → Hp → VK → Prop) (t : TA) : TE := fun σ H Q => t σ H fun vs H1 => r vs H1 Q
/-- f(e, ..), f a built-in function -/
theorem pe_callB (hc : CallR X (.builtin id) r) (hg : Gl X x) (hm : X.mg x = none) (hv : bootBuiltins x = some (.builtin id)) (ha : PA X (e :: es) t) (hn : x ≠ "__name__" := by decide) (hdb : (x == ("__debug__" : Str)) = false := by decide)
    (he : starEach (e :: es) X.env = (false, eval e X.env) :: starEach es X.env := by rfl) (hpl : (backTo pos (starEach es X.env)).any (·.1) = false := by rfl) : PE X (.Call (.Name x p) (e :: es) [] pos) (tCB r t) := by
  intro pins s σ H Q I h
  refine wpAny_Call_Name_kw (ld_blt I hg hm hv ?_ hn hdb)
  exact PyProof.Rows.callWith_builtin1 (thn (ha pos pins s σ H _ I h) fun us s1 ⟨vs, H1, I1, r1, q1⟩ => hc pins s1 σ H1 vs us Q I1 r1 q1) he hpl
/-- T(e, ..), T a built-in type -/
theorem pe_callTy (hc : CallR X (.type T) r) (hg : Gl X x) (hm : X.mg x = none) (hv : bootBuiltins x = some (.type T)) (ha : PA X (e :: es) t) (hn : x ≠ "__name__" := by decide) (hdb : (x == ("__debug__" : Str)) = false := by decide)
    (he : starEach (e :: es) X.env = (false, eval e X.env) :: starEach es X.env := by rfl) (hpl : (backTo pos (starEach es X.env)).any (·.1) = false := by rfl) : PE X (.Call (.Name x p) (e :: es) [] pos) (tCB r t) := by
  intro pins s σ H Q I h
  refine wpAny_Call_Name_kw (ld_blt I hg hm hv ?_ hn hdb)
  exact PyProof.Rows.callWith_type1 (thn (ha pos pins s σ H _ I h) fun us s1 ⟨vs, H1, I1, r1, q1⟩ => hc pins s1 σ H1 vs us Q I1 r1 q1) he hpl
/-- T() -/
theorem pe_callTy0 (hc : CallR X (.type T) r) (hg : Gl X x) (hm : X.mg x = none) (hv : bootBuiltins x = some (.type T)) (hn : x ≠ "__name__" := by decide) (hdb : (x == ("__debug__" : Str)) = false := by decide) :
    PE X (.Call (.Name x p) [] [] pos) (tCB r tNil) := by
  intro pins s σ H Q I h
  refine wpAny_Call_Name_kw (ld_blt I hg hm hv ?_ hn hdb)
  exact PyProof.Rows.callWith_type0 (hc pins s σ H [] [] Q I .nil h)
end
end L2

namespace L2
open PySem PySem.Spec PyProof.Rows

/-! ### lists of pairs as tables -/
section
variable {κ : Type} [DecidableEq κ]
def valV (kvs : List (κ × V)) (k : κ) : Option V := (kvs.find? fun kv => decide (kv.1 = k)).map (·.2)
/-- in its place, or at the end -/
def putK (kvs : List (κ × V)) (k : κ) (v : V) : List (κ × V) :=
  if (kvs.any fun kv => decide (kv.1 = k)) = true then kvs.map (fun kv => if kv.1 = k then (kv.1, v) else kv) else kvs ++ [(k, v)]
def dropK (kvs : List (κ × V)) (k : κ) : List (κ × V) := kvs.filter fun kv => decide (kv.1 ≠ k)

theorem valV_nil {k : κ} : valV ([] : List (κ × V)) k = none := rfl
theorem valV_pos {p : κ × V} {r : List (κ × V)} {k : κ} (e : p.1 = k) : valV (p :: r) k = some p.2 := by simp [valV, List.find?_cons, e]
theorem valV_neg {p : κ × V} {r : List (κ × V)} {k : κ} (e : ¬ p.1 = k) : valV (p :: r) k = valV r k := by simp [valV, List.find?_cons, e]
theorem valV_any (k : κ) : ∀ kvs : List (κ × V), (kvs.any fun kv => decide (kv.1 = k)) = (valV kvs k).isSome
  | [] => rfl
  | p :: r => by
    rw [List.any_cons]
    by_cases e : p.1 = k
    · simp only [valV_pos e, decide_eq_true e, Bool.true_or, Option.isSome_some]
    · rw [valV_neg e, decide_eq_false e, Bool.false_or]; exact valV_any k r
theorem valV_map (k j : κ) (y : V) : ∀ kvs : List (κ × V), valV (kvs.map fun kv => if kv.1 = k then (kv.1, y) else kv) j = (valV kvs j).map fun x => if j = k then y else x
  | [] => rfl
  | p :: r => by
    have ih := valV_map k j y r
    rw [List.map_cons]
    by_cases h : p.1 = k
    · rw [if_pos h]
      by_cases e : p.1 = j
      · rw [valV_pos (p := (p.1, y)) e, valV_pos e, Option.map_some, if_pos (e.symm.trans h)]
      · rw [valV_neg (p := (p.1, y)) e, valV_neg e, ih]
    · rw [if_neg h]
      by_cases e : p.1 = j
      · rw [valV_pos (p := p) e, valV_pos e, Option.map_some, if_neg (fun z => h (e.trans z))]
      · rw [valV_neg (p := p) e, valV_neg e, ih]
theorem valV_snoc (k j : κ) (y : V) : ∀ kvs : List (κ × V), valV kvs k = none → valV (kvs ++ [(k, y)]) j = if j = k then some y else valV kvs j
  | [], _ => by
    by_cases e : k = j
    · rw [if_pos e.symm]; exact valV_pos (p := (k, y)) e
    · rw [if_neg (fun z => e z.symm)]; exact valV_neg (p := (k, y)) e
  | p :: r, hn => by
    rw [List.cons_append]
    have hk : ¬ p.1 = k := fun z => by rw [valV_pos z] at hn; cases hn
    rw [valV_neg hk] at hn
    have ih := valV_snoc k j y r hn
    by_cases e : p.1 = j
    · rw [valV_pos e, valV_pos e, if_neg (fun z => hk (e.trans z))]
    · rw [valV_neg e, valV_neg e, ih]
theorem valV_put (kvs : List (κ × V)) (k j : κ) (y : V) : valV (putK kvs k y) j = if j = k then some y else valV kvs j := by
  unfold putK
  by_cases a : (kvs.any fun kv => decide (kv.1 = k)) = true
  · rw [if_pos a, valV_map]
    rw [valV_any] at a
    by_cases e : j = k
    · obtain ⟨x, hx⟩ := Option.isSome_iff_exists.mp a
      rw [if_pos e, e, hx, Option.map_some, if_pos rfl]
    · rw [if_neg e]
      cases valV kvs j with
      | none => rfl
      | some x => rw [Option.map_some, if_neg e]
  · rw [if_neg a]
    refine valV_snoc k j y kvs ?_
    rw [valV_any] at a
    cases q : valV kvs k with
    | none => rfl
    | some x => rw [q] at a; exact (a rfl).elim
theorem length_putK (kvs : List (κ × V)) (k : κ) (v : V) : (putK kvs k v).length ≤ kvs.length + 1 := by
  unfold putK
  split
  · rw [List.length_map]; omega
  · rw [List.length_append, List.length_cons, List.length_nil]; omega
theorem putK_new {kvs : List (κ × V)} {k : κ} (v : V) (h : valV kvs k = none) : putK kvs k v = kvs ++ [(k, v)] := by
  unfold putK
  rw [valV_any, h]
  exact if_neg (by decide)

theorem RelO.isSome_eq {o : Option V} {u : Option Value} (r : RelO o u) : o.isSome = u.isSome := by
  cases o with
  | none => cases u with
    | none => rfl
    | some _ => exact (show False from r).elim
  | some _ => cases u with
    | none => exact (show False from r).elim
    | some _ => rfl
theorem RelO.getD {o : Option V} {u : Option Value} {d : V} {d' : Value} (r : RelO o u) (rd : RelV d d') : RelV (o.getD d) (u.getD d') := by
  cases o with
  | none => cases u with
    | none => exact rd
    | some _ => exact (show False from r).elim
  | some _ => cases u with
    | none => exact (show False from r).elim
    | some _ => exact r

/-- raw tables of the same keys -/
theorem KV.val {kvs : List (κ × V)} {vs : List (κ × Value)} (r : KV kvs vs) (k : κ) : RelO (valV kvs k) (valueAt vs k) := by
  unfold KV at r
  induction r with
  | nil => exact True.intro
  | @cons p q ps qs h t ih =>
    obtain ⟨h1, h2⟩ := h
    by_cases e : p.1 = k
    · have e' : q.1 = k := h1.symm.trans e
      have b : valueAt (q :: qs) k = some q.2 := by simp [valueAt, List.find?_cons, e']
      rw [valV_pos e, b]; exact h2
    · have e' : ¬ q.1 = k := fun z => e (h1.trans z)
      have b : valueAt (q :: qs) k = valueAt qs k := by simp [valueAt, List.find?_cons, e']
      rw [valV_neg e, b]; exact ih
theorem KV.any {kvs : List (κ × V)} {vs : List (κ × Value)} (r : KV kvs vs) (k : κ) : (kvs.any fun kv => decide (kv.1 = k)) = vs.any fun kv => decide (kv.1 = k) := by
  unfold KV at r
  induction r with
  | nil => rfl
  | cons h t ih => rw [List.any_cons, List.any_cons, ih, h.1]
theorem KV.repl {kvs : List (κ × V)} {vs : List (κ × Value)} (r : KV kvs vs) (k : κ) {y : V} {u : Value} (ry : RelV y u) :
    KV (kvs.map fun kv => if kv.1 = k then (kv.1, y) else kv) (vs.map fun kv => if kv.1 = k then (kv.1, u) else kv) := by
  unfold KV at r ⊢
  induction r with
  | nil => exact .nil
  | @cons p q ps qs h t ih =>
    rw [List.map_cons, List.map_cons]
    refine .cons ?_ ih
    obtain ⟨h1, h2⟩ := h
    by_cases e : p.1 = k
    · rw [if_pos e, if_pos (h1.symm.trans e)]; exact ⟨h1, ry⟩
    · rw [if_neg e, if_neg (fun z => e (h1.trans z))]; exact ⟨h1, h2⟩
theorem KV.put {kvs : List (κ × V)} {vs : List (κ × Value)} (r : KV kvs vs) (k : κ) {y : V} {u : Value} (ry : RelV y u) : KV (putK kvs k y) (stored vs k u) := by
  unfold putK stored
  rw [r.any k]
  by_cases e : (vs.any fun kv => decide (kv.1 = k)) = true
  · rw [if_pos e, if_pos e]; exact r.repl k ry
  · rw [if_neg e, if_neg e]; exact Paired.snoc r ⟨rfl, ry⟩
theorem KV.drop {kvs : List (κ × V)} {vs : List (κ × Value)} (r : KV kvs vs) (k : κ) : KV (dropK kvs k) (without vs k) := by
  unfold KV at r ⊢
  unfold dropK without
  induction r with
  | nil => exact .nil
  | @cons p q ps qs h t ih =>
    obtain ⟨h1, h2⟩ := h
    rw [List.filter_cons, List.filter_cons]
    by_cases e : p.1 = k
    · have a : ¬ decide (p.1 ≠ k) = true := by simp [e]
      have b : ¬ decide (q.1 ≠ k) = true := by simp [h1.symm.trans e]
      rw [if_neg a, if_neg b]; exact ih
    · have e' : ¬ q.1 = k := fun z => e (h1.trans z)
      have a : decide (p.1 ≠ k) = true := by simp [e]
      have b : decide (q.1 ≠ k) = true := by simp [e']
      rw [if_pos a, if_pos b]; exact .cons ⟨h1, h2⟩ ih
theorem KV.keys {kvs : List (κ × V)} {vs : List (κ × Value)} (r : KV kvs vs) : kvs.map (·.1) = vs.map (·.1) := by
  unfold KV at r
  induction r with
  | nil => rfl
  | cons h t ih => rw [List.map_cons, List.map_cons, ih, h.1]
theorem KV.length {kvs : List (κ × V)} {vs : List (κ × Value)} (r : KV kvs vs) : kvs.length = vs.length := Paired.length r
theorem dropK_le (kvs : List (κ × V)) (k : κ) : (dropK kvs k).length ≤ kvs.length := List.length_filter_le _ _
end


/-! ### a tracked dict, its keys ints and texts or tuples of these -/
theorem kV_is {P : Program} {w : World} {k : Key} {u : Value} (r : RelV (kV k) u) : (mixKind P w).is k u = true := by
  cases k with
  | inl i => obtain ⟨t, e⟩ := (show ∃ t, u = Value.int i t from r); subst e; exact mixKind_int P w i t
  | inr x => obtain ⟨t, e⟩ := (show ∃ t, u = Value.str x t from r); subst e; exact mixKind_str P w x t
theorem kV_inj {a b : Key} (e : kV a = kV b) : a = b := by
  cases a with
  | inl i => cases b with
    | inl j => have e' : V.int i = V.int j := e; injection e' with e'; rw [e']
    | inr y => exact nomatch (show V.int i = V.str y from e)
  | inr x => cases b with
    | inl j => exact nomatch (show V.str x = V.int j from e)
    | inr y => have e' : V.str x = V.str y := e; injection e' with e'; rw [e']
theorem kVs_inj : ∀ {a b : List Key}, a.map kV = b.map kV → a = b
  | [], [], _ => rfl
  | [], _ :: _, e => by simp at e
  | _ :: _, [], e => by simp at e
  | x :: xs, y :: ys, e => by
    rw [List.map_cons, List.map_cons] at e
    injection e with e1 e2
    rw [kV_inj e1, kVs_inj e2]
theorem items_are {P : Program} {w : World} : ∀ {ks : List Key} {us : List Value}, Vals (ks.map kV) us → ItemsAre (mixKind P w) ks us
  | [], _, r => by rw [List.map_nil] at r; cases r; exact .nil
  | k :: ks, _, r => by
    rw [List.map_cons] at r
    cases r with
    | cons h t => exact .cons (kV_is h) (items_are t)

/-- raw entries of a dict with tuple keys -/
abbrev KT (H : Hp) : List (List Key × V) → List (List Key × Addr × Value) → Prop := Paired fun p q => p.1 = q.1 ∧ H q.2.1 = some (.tup (p.1.map kV)) ∧ RelV p.2 q.2.2
theorem KT.val {H : Hp} {kvs : List (List Key × V)} {xs : List (List Key × Addr × Value)} (r : KT H kvs xs) (k : List Key) : RelO (valV kvs k) ((atKey xs k).map (·.2)) := by
  induction r with
  | nil => exact True.intro
  | @cons p q ps qs h t ih =>
    obtain ⟨h1, _, h2⟩ := h
    by_cases e : p.1 = k
    · have e' : q.1 = k := h1.symm.trans e
      have b : atKey (q :: qs) k = some q.2 := by simp [atKey, List.find?_cons, e']
      rw [valV_pos e, b]; exact h2
    · have e' : ¬ q.1 = k := fun z => e (h1.trans z)
      have b : atKey (q :: qs) k = atKey qs k := by simp [atKey, List.find?_cons, e']
      rw [valV_neg e, b]; exact ih
theorem KT.repl {H : Hp} {kvs : List (List Key × V)} {xs : List (List Key × Addr × Value)} (r : KT H kvs xs) (k : List Key) {y : V} {u : Value} (ry : RelV y u) :
    KT H (kvs.map fun kv => if kv.1 = k then (kv.1, y) else kv) (xs.map (putAt k u)) := by
  induction r with
  | nil => exact .nil
  | @cons p q ps qs h t ih =>
    rw [List.map_cons, List.map_cons]
    refine .cons ?_ ih
    obtain ⟨h1, h2, h3⟩ := h
    unfold putAt
    by_cases e : p.1 = k
    · rw [if_pos e, if_pos (h1.symm.trans e)]; exact ⟨h1, h2, ry⟩
    · rw [if_neg e, if_neg (fun z => e (h1.trans z))]; exact ⟨h1, h2, h3⟩
theorem KT.put {H : Hp} {kvs : List (List Key × V)} {xs : List (List Key × Addr × Value)} (r : KT H kvs xs) (k : List Key) {b : Addr} {y : V} {u : Value} (hb : H b = some (.tup (k.map kV))) (ry : RelV y u) :
    KT H (putK kvs k y) (storedH xs k b u) := by
  have e : (kvs.any fun kv => decide (kv.1 = k)) = (atKey xs k).isSome := by
    rw [valV_any, (r.val k).isSome_eq, Option.isSome_map]
  unfold putK storedH
  rw [e]
  by_cases q : (atKey xs k).isSome = true
  · rw [if_pos q, if_pos q]; exact r.repl k ry
  · rw [if_neg q, if_neg q]; exact Paired.snoc r ⟨rfl, hb, ry⟩
theorem KT.keeps {H H' : Hp} {kvs : List (List Key × V)} {xs : List (List Key × Addr × Value)} (r : KT H kvs xs) (ht : ∀ b ys, H b = some (.tup ys) → H' b = some (.tup ys)) : KT H' kvs xs :=
  Paired.mapP r fun _ _ z => ⟨z.1, ht _ _ z.2.1, z.2.2⟩

section
variable {P : Program} {w : World} {H : Hp} {h : Heap} {a : Addr}
theorem rd_of {u : HO} (ok : HOk P w H h) (e : Rd H a u) : ObjOk P w H h a u := e.ok ok
theorem dk_rd {kvs : List (Key × V)} (ok : HOk P w H h) (e : Rd H a (.dK kvs)) : kvs.length ≤ sizeLine ∧ (a == sysModules) = false ∧ ∃ vs, KV kvs vs ∧ h.DictOf (mixKind P w) a vs :=
  show ObjOk P w H h a (.dK kvs) from rd_of ok e
theorem dk_of {kvs : List (Key × V)} (ok : HOk P w H h) (e : H a = some (.dK kvs)) : kvs.length ≤ sizeLine ∧ (a == sysModules) = false ∧ ∃ vs, KV kvs vs ∧ h.DictOf (mixKind P w) a vs := dk_rd ok (.inl e)
/-- a tracked tuple of ints and texts is a key -/
theorem key_of {ks : List Key} (ok : HOk P w H h) (e : H a = some (.tup (ks.map kV))) : (tupleKind (mixKind P w)).is h ks a := by
  obtain ⟨_, its, r, o, h1, h2, n, h3⟩ := (show ObjOk P w H h a (.tup (ks.map kV)) from ok a _ e)
  exact ⟨o, its.toArray, n, h1, h2, h3, by simpa using items_are r⟩
theorem dt_rd {kvs : List (List Key × V)} (ok : HOk P w H h) (e : Rd H a (.dT kvs)) : kvs.length ≤ sizeLine ∧ (a == sysModules) = false ∧
    ∃ xs, KT H kvs xs ∧ h.DictOfH (tupleKind (mixKind P w)) a xs := by
  obtain ⟨z, y, xs, r, o, es, ep, h1, h2, h3, h4, h5⟩ := (show ObjOk P w H h a (.dT kvs) from rd_of ok e)
  refine ⟨z, y, xs, r, o, es, ep, h1, h2, h3, h4, fun x hx => ?_, h5⟩
  have all : ∀ {l : List (List Key × V)} {m : List (List Key × Addr × Value)}, KT H l m → ∀ x ∈ m, (tupleKind (mixKind P w)).is h x.1 x.2.1 := by
    intro l m q
    induction q with
    | nil => intro x hx; exact nomatch hx
    | @cons p q ps qs hq t ih =>
      intro x hx
      rcases List.mem_cons.mp hx with e | hx
      · subst e
        exact key_of ok (by rw [← hq.1]; exact hq.2.1)
      · exact ih x hx
  exact all r x hx
theorem dt_of {kvs : List (List Key × V)} (ok : HOk P w H h) (e : H a = some (.dT kvs)) : kvs.length ≤ sizeLine ∧ (a == sysModules) = false ∧
    ∃ xs, KT H kvs xs ∧ h.DictOfH (tupleKind (mixKind P w)) a xs := dt_rd ok (.inl e)
end

/-- what the dict at a holds at the key y -/
def DGet (H : Hp) (a : Addr) (y : V) (r : Option V) : Prop :=
  (∃ kvs k, Rd H a (.dK kvs) ∧ y = kV k ∧ r = valV kvs k) ∨ ∃ kvs k b, Rd H a (.dT kvs) ∧ y = .ref b ∧ H b = some (.tup (k.map kV)) ∧ r = valV kvs k
/-- the heap behind a[y] = v -/
def DPut (H : Hp) (a : Addr) (y v : V) (H' : Hp) : Prop :=
  (∃ kvs k, H a = some (.dK kvs) ∧ y = kV k ∧ kvs.length < sizeLine ∧ H' = upd H a (.dK (putK kvs k v))) ∨
  ∃ kvs k b, H a = some (.dT kvs) ∧ y = .ref b ∧ H b = some (.tup (k.map kV)) ∧ kvs.length < sizeLine ∧ H' = upd H a (.dT (putK kvs k v))
theorem DGet.k {H : Hp} {a : Addr} {kvs : List (Key × V)} {k : Key} (e : H a = some (.dK kvs)) : DGet H a (kV k) (valV kvs k) := .inl ⟨kvs, k, .inl e, rfl, rfl⟩
theorem DGet.t {H : Hp} {a b : Addr} {kvs : List (List Key × V)} {k : List Key} (e : H a = some (.dT kvs)) (eb : H b = some (.tup (k.map kV))) : DGet H a (.ref b) (valV kvs k) := .inr ⟨kvs, k, b, .inl e, rfl, eb, rfl⟩
theorem DPut.k {H : Hp} {a : Addr} {kvs : List (Key × V)} {k : Key} {v : V} (e : H a = some (.dK kvs)) (hl : kvs.length < sizeLine) : DPut H a (kV k) v (upd H a (.dK (putK kvs k v))) := .inl ⟨kvs, k, e, rfl, hl, rfl⟩
theorem DPut.t {H : Hp} {a b : Addr} {kvs : List (List Key × V)} {k : List Key} {v : V} (e : H a = some (.dT kvs)) (eb : H b = some (.tup (k.map kV))) (hl : kvs.length < sizeLine) :
    DPut H a (.ref b) v (upd H a (.dT (putK kvs k v))) := .inr ⟨kvs, k, b, e, rfl, eb, hl, rfl⟩


section
variable {X : Cx} {pins : List (Addr × Obj)} {σ : St} {H : Hp} {s : Shared} {a : Addr} {y v : V} {u r : Value} {o : Option V} {A : Around} {E : Value → Shared → Prop}

theorem Inv.big (I : Inv X pins σ H s) : sysModules < s.heap.objs.size := by
  have h : mainGlobals < s.heap.objs.size := (I.mod.glob.keeps I.bk).lt
  exact Nat.lt_trans (by decide) h

/-- d[y], there -/
theorem d_getItem {Q : Value → Shared → Prop} (hu : A.units + 1 < cLine) (I : Inv X pins σ H s) (g : DGet H a y (some v)) (ry : RelV y u) (h : ∀ w' s', Inv X pins σ H s' → RelV v w' → Q w' s') :
    wpAny (model X.prog X.w) A (getItem (.ref a) u) Q E s := by
  rcases g with ⟨kvs, k, e, ey, l⟩ | ⟨kvs, k, b, e, ey, eb, l⟩
  · subst ey
    obtain ⟨z, hd, vs, rel, dd⟩ := dk_rd I.hok e
    obtain ⟨w', hw, rw'⟩ := RelO.some_of (v := v) (o := valueAt vs k) (by rw [l]; exact rel.val k)
    exact wpAny_getItem_of (kV_is ry) dd.mapOf hw (h w' _ (I.tok _) rw')
  · subst ey
    cases (show u = Value.ref b from ry)
    obtain ⟨z, hd, xs, rel, dd⟩ := dt_rd I.hok e
    obtain ⟨w', hw, rw'⟩ := RelO.some_of (v := v) (o := (atKey xs k).map (·.2)) (by rw [l]; exact rel.val k)
    obtain ⟨p, hp, hp2⟩ := Option.map_eq_some_iff.mp hw
    refine wpAny_getItem_heap (tupleKind_room_in1 hu) (key_of I.hok eb) dd hp ?_
    rw [hp2]
    exact h w' _ (I.tok _) rw'
/-- y in d -/
theorem d_in {Q : Value → Shared → Prop} (hu : A.units + 1 < cLine) (I : Inv X pins σ H s) (g : DGet H a y o) (ry : RelV y u) (h : ∀ s', Inv X pins σ H s' → Q (.bool o.isSome) s') :
    wpAny (model X.prog X.w) A (compareOp .In u (.ref a)) Q E s := by
  rcases g with ⟨kvs, k, e, ey, l⟩ | ⟨kvs, k, b, e, ey, eb, l⟩
  · subst ey
    obtain ⟨z, hd, vs, rel, dd⟩ := dk_rd I.hok e
    refine wpAny_in_of (kV_is ry) hd dd.mapOf ?_
    rw [← (rel.val k).isSome_eq, ← l]
    exact h _ (I.tok _)
  · subst ey
    cases (show u = Value.ref b from ry)
    obtain ⟨z, hd, xs, rel, dd⟩ := dt_rd I.hok e
    refine wpAny_in_heap (tupleKind_room_in1 hu) (key_of I.hok eb) hd dd ?_
    have q := (rel.val k).isSome_eq
    rw [Option.isSome_map] at q
    rw [← q, ← l]
    exact h _ (I.tok _)
theorem d_notIn {Q : Value → Shared → Prop} (hu : A.units + 1 < cLine) (I : Inv X pins σ H s) (g : DGet H a y o) (ry : RelV y u) (h : ∀ s', Inv X pins σ H s' → Q (.bool (!o.isSome)) s') :
    wpAny (model X.prog X.w) A (compareOp .NotIn u (.ref a)) Q E s := by
  rcases g with ⟨kvs, k, e, ey, l⟩ | ⟨kvs, k, b, e, ey, eb, l⟩
  · subst ey
    obtain ⟨z, hd, vs, rel, dd⟩ := dk_rd I.hok e
    refine wpAny_notIn_of (kV_is ry) hd dd.mapOf ?_
    rw [← (rel.val k).isSome_eq, ← l]
    exact h _ (I.tok _)
  · subst ey
    cases (show u = Value.ref b from ry)
    obtain ⟨z, hd, xs, rel, dd⟩ := dt_rd I.hok e
    refine wpAny_notIn_heap (tupleKind_room_in1 hu) (key_of I.hok eb) hd dd ?_
    have q := (rel.val k).isSome_eq
    rw [Option.isSome_map] at q
    rw [← q, ← l]
    exact h _ (I.tok _)
/-- a dict's object is replaced -/
theorem d_write {h' : Heap} {t' : Nat} {ob : HO} (I : Inv X pins σ H s) (mu : Mut (H a)) (hs : Heap.SameBut a s.heap h') (he : ∃ q, h'.get? a = some q) (new : ObjOk X.prog X.w (upd H a ob) h' a ob) :
    Inv X pins σ (upd H a ob) { s with heap := h', toks := t' } :=
  I.write (x := a) (e := a) mu (.inl rfl) (fun b q hb z => (hs.2 b hb).trans z) he new
theorem dk_new {P : Program} {w : World} {H' : Hp} {h' : Heap} {kvs : List (Key × V)} {vs : List (Key × Value)} (z : kvs.length ≤ sizeLine) (hd : (a == sysModules) = false) (rel : KV kvs vs) (dd : h'.DictOf (mixKind P w) a vs) :
    ObjOk P w H' h' a (.dK kvs) := ⟨z, hd, vs, rel, dd⟩
/-- d[y] = v -/
theorem d_setItem {H' : Hp} {Q : Unit → Shared → Prop} (hu : A.units + 1 < cLine) (I : Inv X pins σ H s) (g : DPut H a y v H') (ry : RelV y u) (rv : RelV v r) (h : ∀ s', Inv X pins σ H' s' → Q () s') :
    wpAny (model X.prog X.w) A (setItem (.ref a) u r) Q E s := by
  rcases g with ⟨kvs, k, e, ey, l, eH⟩ | ⟨kvs, k, b, e, ey, eb, l, eH⟩
  · subst ey eH
    obtain ⟨z, hd, vs, rel, dd⟩ := dk_of I.hok e
    have hz : vs.length ≤ sizeLine := by rw [← rel.length]; exact z
    have hl : (putK kvs k v).length ≤ sizeLine := by have := length_putK kvs k v; omega
    refine wpAny_setItem_pairs (hsz := hz) (kV_is ry) dd fun h' dd' hs => h _ ?_
    have he : ∃ q, h'.get? a = some q := let ⟨q, _, _, hq, _⟩ := dd'; ⟨q, hq⟩
    exact d_write I (by rw [e]; exact True.intro) hs he (dk_new hl hd (rel.put k rv) dd')
  · subst ey eH
    cases (show u = Value.ref b from ry)
    obtain ⟨z, hd, xs, rel, dd⟩ := dt_of I.hok e
    have hz : xs.length ≤ sizeLine := by rw [← Paired.length rel]; exact z
    have hl : (putK kvs k v).length ≤ sizeLine := by have := length_putK kvs k v; omega
    refine wpAny_setItem_heap (hsz := hz) (tupleKind_room_in1 hu) (key_of I.hok eb) dd fun h' dd' hs => h _ ?_
    obtain ⟨q, es, ep, hq, h2, h3, h4, _, h5⟩ := dd'
    refine d_write I (by rw [e]; exact True.intro) hs ⟨q, hq⟩ ⟨hl, hd, _, (rel.put k eb rv).keeps fun c ys ec => ?_, q, es, ep, hq, h2, h3, h4, h5⟩
    rw [upd_ne (ne_of ec e (fun z => nomatch z))]
    exact ec
end

section
variable {X : Cx} {pins : List (Addr × Obj)} {σ : St} {H : Hp} {s : Shared} {a : Addr} {kvs : List (Key × V)} {k : Key} {u : Value} {A : Around} {E : Value → Shared → Prop}
/-- del d[k] -/
theorem d_delItem {Q : Unit → Shared → Prop} (I : Inv X pins σ H s) (e : H a = some (.dK kvs)) (ry : RelV (kV k) u) (l : (valV kvs k).isSome = true) (h : ∀ s', Inv X pins σ (upd H a (.dK (dropK kvs k))) s' → Q () s') :
    wpAny (model X.prog X.w) A (delItem (.ref a) u) Q E s := by
  obtain ⟨z, hd, vs, rel, dd⟩ := dk_of I.hok e
  refine wpAny_delItem_slot dd.typeIs (by decide) PySem.F.slot_dict_delitem
    (call_meetsIn PySem.F.slot_dict_delitem dd.typeIs PySem.F.entry_dict_delitem (PySem.F.args_dict_delitem_2 _ _) (meets_dict_delitem_pairs (mixKind X.prog X.w) a (kV_is ry)) ⟨vs, dd, by rw [← rel.length]; exact z, by rw [← (rel.val k).isSome_eq]; exact l, fun h' dd' hs => h _ ?_⟩)
  have he : ∃ q, h'.get? a = some q := let ⟨q, _, _, hq, _⟩ := dd'; ⟨q, hq⟩
  exact d_write I (by rw [e]; exact True.intro) hs he (dk_new (Nat.le_trans (dropK_le kvs k) z) hd (rel.drop k) dd')
/-- d.pop(k[, x]), there -/
theorem d_pop {v : V} {more : List Value} {Q : Value → Shared → Prop} (I : Inv X pins σ H s) (e : H a = some (.dK kvs)) (ry : RelV (kV k) u) (l : valV kvs k = some v) (hm : more = [] ∨ ∃ x, more = [x])
    (h : ∀ w' s', Inv X pins σ (upd H a (.dK (dropK kvs k))) s' → RelV v w' → Q w' s') : wpAny (model X.prog X.w) A (call (.builtin "dict.pop") (.ref a :: u :: more)) Q E s := by
  obtain ⟨z, hd, vs, rel, dd⟩ := dk_of I.hok e
  obtain ⟨w', hw, rw'⟩ := RelO.some_of (v := v) (o := valueAt vs k) (by rw [← l]; exact rel.val k)
  have hp : (keyPart u).isSome = true := by
    cases k with
    | inl i => obtain ⟨t, q⟩ := (show ∃ t, u = Value.int i t from ry); subst q; rfl
    | inr x => obtain ⟨t, q⟩ := (show ∃ t, u = Value.str x t from ry); subst q; rfl
  have ha : argsOk "dict.pop" ⟨.ref a :: u :: more, []⟩ := by
    rcases hm with q | ⟨x, q⟩
    · subst q; exact PySem.F.args_dict_pop_2 _ _
    · subst q; exact PySem.F.args_dict_pop_3 _ _ _
  refine call_meetsIn PySem.F.slot_dict_pop dd.typeIs PySem.F.entry_dict_pop ha (meets_dict_pop_there (mixKind X.prog X.w) a (kV_is ry) more hm hp)
    ⟨vs, w', dd, by rw [← rel.length]; exact z, hw, fun h' dd' hs => h w' _ ?_ rw'⟩
  have he : ∃ q, h'.get? a = some q := let ⟨q, _, _, hq, _⟩ := dd'; ⟨q, hq⟩
  exact d_write I (by rw [e]; exact True.intro) hs he (dk_new (Nat.le_trans (dropK_le kvs k) z) hd (rel.drop k) dd')
/-- d.pop(k, x), not there -/
theorem d_popD {r : Value} {Q : Value → Shared → Prop} (I : Inv X pins σ H s) (e : H a = some (.dK kvs)) (ry : RelV (kV k) u) (l : valV kvs k = none) (h : ∀ s', Inv X pins σ H s' → Q r s') :
    wpAny (model X.prog X.w) A (call (.builtin "dict.pop") [.ref a, u, r]) Q E s := by
  obtain ⟨z, hd, vs, rel, dd⟩ := dk_of I.hok e
  have hn : valueAt vs k = none := RelO.none_of (by rw [← l]; exact rel.val k)
  have hp : (keyPart u).isSome = true := by
    cases k with
    | inl i => obtain ⟨t, q⟩ := (show ∃ t, u = Value.int i t from ry); subst q; rfl
    | inr x => obtain ⟨t, q⟩ := (show ∃ t, u = Value.str x t from ry); subst q; rfl
  exact call_meetsIn PySem.F.slot_dict_pop dd.typeIs PySem.F.entry_dict_pop (PySem.F.args_dict_pop_3 _ _ _) (meets_dict_pop_default (mixKind X.prog X.w) a (kV_is ry) hd hp r) ⟨vs, dd, hn, h _ (I.tok _)⟩
/-- d.clear() -/
theorem d_clear {Q : Value → Shared → Prop} (I : Inv X pins σ H s) (e : H a = some (.dK kvs)) (h : ∀ s', Inv X pins σ (upd H a (.dK [])) s' → Q .none s') : wpAny (model X.prog X.w) A (call (.builtin "dict.clear") [.ref a]) Q E s := by
  obtain ⟨z, hd, vs, rel, dd⟩ := dk_of I.hok e
  refine call_meetsIn PySem.F.slot_dict_clear dd.typeIs PySem.F.entry_dict_clear (PySem.F.args_dict_clear_1 _) (meets_dict_clear (mixKind X.prog X.w) a) ⟨vs, dd, by rw [← rel.length]; exact z, fun h' dd' hs => h _ ?_⟩
  have he : ∃ q, h'.get? a = some q := let ⟨q, _, _, hq, _⟩ := dd'; ⟨q, hq⟩
  exact d_write (t' := s.toks) I (by rw [e]; exact True.intro) hs he (dk_new (Nat.zero_le _) hd .nil dd')
/-- len(d) -/
theorem d_len {Q : Value → Shared → Prop} (I : Inv X pins σ H s) (e : Rd H a (.dK kvs)) (h : ∀ t s', Inv X pins σ H s' → Q (.int kvs.length t) s') : wpAny (model X.prog X.w) A (call (.builtin "len") [.ref a]) Q E s := by
  obtain ⟨z, hd, vs, rel, dd⟩ := dk_rd I.hok e
  refine call_len_dict hd dd (by rw [← rel.length]; rw [sizeLine_eq] at z; omega) ?_
  rw [← rel.length]
  exact h _ _ (I.tok _)
/-- if d -/
theorem d_truth {Q : Bool → Shared → Prop} (I : Inv X pins σ H s) (e : Rd H a (.dK kvs)) (h : ∀ s', Inv X pins σ H s' → Q (!kvs.isEmpty) s') : wpAny (model X.prog X.w) A (truthy (.ref a)) Q E s := by
  obtain ⟨z, hd, vs, rel, dd⟩ := dk_rd I.hok e
  refine wpAny_truthy_dict hd dd (by rw [← rel.length]; rw [sizeLine_eq] at z; omega) ?_
  have q : kvs.isEmpty = vs.isEmpty := by cases rel <;> rfl
  rw [← q]
  exact h _ (I.tok _)
end


/-! ### readings and rules -/
/-- the element of a subscription, not a slice -/
def NoSl (i : Expr) : Prop := ∀ ov iv, subscripted i false ov iv = operate [ov, iv] (getItem ov iv)
theorem subD_of {prog : Program} {w : World} {A : Around} {E : Value → Shared → Prop} {s : Shared} {env : Env} {value slice : Expr} {pos : Pos} {T id : String} {Q : Value → Shared → Prop}
    (hl : typeLookup (.type T) "__getitem__" = pure (some (.builtin id))) (hs : NoSl slice)
    (h : wpAny (model prog w) A (eval value env) (fun o s₁ => wpAny (model prog w) A (eval slice env) (fun i s₂ => s₂.TypeIs o T ∧ wpAny (model prog w) A (getItem o i) Q E s₂) E s₁) E s) :
    wpAny (model prog w) A (eval (.Subscript value slice pos) env) Q E s := by
  refine Subscript_ (wpAny_mono h (fun o s₁ h₁ => wpAny_mono h₁ (fun i s₂ h₂ => ?_) fun _ _ x => x) fun _ _ x => x)
  obtain ⟨hT, h₂⟩ := h₂
  unfold subscriptTail
  refine wpAny_bind ?_
  rw [getitemInPython_of_ne hT.not_modules]
  refine wpAny_bind (wpAny_specialOf hT hl ?_)
  have fin : wpAny (model prog w) A (subscripted slice false o i) (fun r s₃ => wpAny (model prog w) A (letTemporaryGo value o r >>= fun _ => pure r) Q E s₃) E s₂ := by
    rw [hs o i]
    exact wpAny_operating (wpAny_mono h₂ (fun r s₃ h₃ => wpAny_bind (wpAny_letTemporaryGo (wpAny_pure h₃))) fun _ _ x => x)
  first
    | exact wpAny_pure (wpAny_bind fin)
    | exact wpAny_bind (wpAny_pure (wpAny_bind fin))
    | exact wpAny_bind fin

theorem dict_typeIs {X : Cx} {pins : List (Addr × Obj)} {σ : St} {H : Hp} {s : Shared} {a : Addr} {y : V} {o : Option V} (I : Inv X pins σ H s) (g : DGet H a y o) : s.TypeIs (.ref a) "dict" := by
  rcases g with ⟨kvs, k, e, _, _⟩ | ⟨kvs, k, b, e, _, _, _⟩
  · obtain ⟨_, _, vs, _, dd⟩ := dk_rd I.hok e
    exact dd.typeIs
  · obtain ⟨_, _, xs, _, dd⟩ := dt_rd I.hok e
    exact dd.typeIs
theorem dict_noDict {X : Cx} {pins : List (Addr × Obj)} {σ : St} {H : Hp} {s : Shared} {a : Addr} {y : V} {o : Option V} (I : Inv X pins σ H s) (g : DGet H a y o) :
    ∀ b, Value.ref a = .ref b → ∃ ob, s.heap.get? b = some ob ∧ ob.dict = none := fun b q => by
  cases q
  rcases g with ⟨kvs, k, e, _, _⟩ | ⟨kvs, k, b, e, _, _, _⟩
  · obtain ⟨_, _, vs, _, ob, _, _, h1, h2, _⟩ := dk_rd I.hok e
    exact ⟨ob, h1, h2.2.1⟩
  · obtain ⟨_, _, xs, _, ob, _, _, h1, h2, _⟩ := dt_rd I.hok e
    exact ⟨ob, h1, h2.2.1⟩

/-- d[y] -/
def tDGet (td ty : TE) : TE := fun σ H Q => td σ H fun x H1 => ty σ H1 fun y H2 => ∃ a v, x = .ref a ∧ DGet H2 a y (some v) ∧ Q v H2
/-- y in d, y not in d -/
def tDIn (ty td : TE) : TE := fun σ H Q => ty σ H fun y H1 => td σ H1 fun x H2 => ∃ a o, x = .ref a ∧ DGet H2 a y o ∧ Q (.bl o.isSome) H2
def tDNotIn (ty td : TE) : TE := fun σ H Q => ty σ H fun y H1 => td σ H1 fun x H2 => ∃ a o, x = .ref a ∧ DGet H2 a y o ∧ Q (.bl (!o.isSome)) H2
/-- d[y] = v -/
def sDPut (td ty tv : TE) : TS := fun D σ H => tv σ H fun v H1 => td σ H1 fun x H2 => ty σ H2 fun y H3 => ∃ a H4, x = .ref a ∧ DPut H3 a y v H4 ∧ D.nx σ H4
/-- d[y] op= v -/
def sDAug (td ty tv : TE) (rd : V → V → Hp → VK → Prop) : TS := fun D σ H => td σ H fun x H1 => ty σ H1 fun y H2 => ∃ a v, x = .ref a ∧ DGet H2 a y (some v) ∧
  tv σ H2 fun y2 H3 => rd v y2 H3 fun z H4 => ∃ H5, DPut H4 a y z H5 ∧ D.nx σ H5
/-- del d[y] -/
def sDDel (td ty : TE) : TS := fun D σ H => td σ H fun x H1 => ty σ H1 fun y H2 => ∃ a kvs k, x = .ref a ∧ H2 a = some (.dK kvs) ∧ y = kV k ∧ (valV kvs k).isSome = true ∧ D.nx σ (upd H2 a (.dK (dropK kvs k)))

section
variable {X : Cx} {o i e value : Expr} {pos pos' tpos : Pos} {td ty tv : TE}
theorem pe_dget (hu : X.A.units + 1 < cLine) (ho : PE X o td) (hi : PE X i ty) (hs : NoSl i) : PE X (.Subscript o i pos) (tDGet td ty) := by
  intro pins s σ H Q I h
  refine subD_of PySem.F.slot_dict_getitem.lookup hs (thn (ho pins s σ H _ I h) fun u s1 ⟨x, H1, I1, rx, q1⟩ => thn (hi pins s1 σ H1 _ I1 q1) fun iv s2 ⟨y, H2, I2, ry, a, v, ex, g, q2⟩ => ?_)
  subst ex
  obtain rfl : u = Value.ref a := rx
  exact ⟨dict_typeIs I2 g, d_getItem hu I2 g ry fun w' s3 I3 rw' => ⟨v, H2, I3, rw', q2⟩⟩
theorem pc_din (hu : X.A.units + 1 < cLine) (hi : PE X i ty) (ho : PE X o td) : PC X .In i o (tDIn ty td) := by
  intro pins s σ H Q I h
  refine thn (hi pins s σ H _ I h) fun iv s1 ⟨y, H1, I1, ry, q1⟩ => thn (ho pins s1 σ H1 _ I1 q1) fun u s2 ⟨x, H2, I2, rx, a, ov, ex, g, q2⟩ => ?_
  subst ex
  obtain rfl : u = Value.ref a := rx
  exact d_in hu I2 g ry fun s3 I3 => ⟨.bl ov.isSome, H2, I3, rfl, q2⟩
theorem pc_dnotin (hu : X.A.units + 1 < cLine) (hi : PE X i ty) (ho : PE X o td) : PC X .NotIn i o (tDNotIn ty td) := by
  intro pins s σ H Q I h
  refine thn (hi pins s σ H _ I h) fun iv s1 ⟨y, H1, I1, ry, q1⟩ => thn (ho pins s1 σ H1 _ I1 q1) fun u s2 ⟨x, H2, I2, rx, a, ov, ex, g, q2⟩ => ?_
  subst ex
  obtain rfl : u = Value.ref a := rx
  exact d_notIn hu I2 g ry fun s3 I3 => ⟨.bl (!ov.isSome), H2, I3, rfl, q2⟩
theorem ps_dput (hu : X.A.units + 1 < cLine) (ho : PE X o td) (hi : PE X i ty) (hv : PE X value tv) (hs : swapsWith value (some (.Subscript o i pos')) pos.line X.env = pure false) :
    PS X (.Assign [.Subscript o i pos'] value pos) (sDPut td ty tv) := by
  intro pins s σ H D I h
  refine wpAny_Assign_Subscript (thn (hv pins s σ H _ I h) fun r s1 ⟨v, H1, I1, rv, q1⟩ => thn (ho pins s1 σ H1 _ I1 q1) fun u s2 ⟨x, H2, I2, rx, q2⟩ => thn (hi pins s2 σ H2 _ I2 q2) fun iv s3 ⟨y, H3, I3, ry, a, H4, ex, g, q3⟩ => ?_) hs
  subst ex
  obtain rfl : u = Value.ref a := rx
  exact d_setItem hu I3 g ry rv fun s4 I4 => ⟨σ, H4, I4, q3⟩
theorem ps_daug {op : Operator} {rd : V → V → Hp → VK → Prop} (hu : X.A.units + 1 < cLine) (ho : PE X o td) (hi : PE X i ty) (hv : PE X value tv) (hop : InOp X op rd)
    (ha : ∀ ov iv new, augStore i ov iv new = (do holding [new, ov, iv] (setItem ov iv new); release [new, ov, iv] []; pure .next)) : PS X (.AugAssign (.Subscript o i tpos) op value pos) (sDAug td ty tv rd) := by
  intro pins s σ H D I h
  refine wpAny_AugAssign_SubscriptAny (thn (ho pins s σ H _ I h) fun u s1 ⟨x, H1, I1, rx, q1⟩ => thn (hi pins s1 σ H1 _ I1 q1) fun iv s2 ⟨y, H2, I2, ry, a, v, ex, g, q2⟩ => ?_) ha
  subst ex
  obtain rfl : u = Value.ref a := rx
  refine d_getItem hu I2 g ry fun w' s3 I3 rw' => thn (hv pins s3 σ H2 _ I3 q2) fun w2 s4 ⟨y2, H3, I4, ry2, q3⟩ => thn (hop pins s4 σ H3 v y2 w' w2 _ I4 rw' ry2 q3) fun w3 s5 ⟨z, H4, I5, rz, H5, g5, q4⟩ => ?_
  exact d_setItem hu I5 g5 ry rz fun s6 I6 => ⟨σ, H5, I6, q4⟩
theorem ps_ddel (ho : PE X o td) (hi : PE X i ty) : PS X (.Delete [.Subscript o i tpos] pos) (sDDel td ty) := by
  intro pins s σ H D I h
  refine wpAny_Delete (wpAny_deleteEach_cons (wpAny_delete_Subscript (thn (ho pins s σ H _ I h) fun u s1 ⟨x, H1, I1, rx, q1⟩ => thn (hi pins s1 σ H1 _ I1 q1) fun iv s2 ⟨y, H2, I2, ry, a, kvs, k, ex, e, ey, l, q2⟩ => ?_)))
  subst ex ey
  obtain rfl : u = Value.ref a := rx
  exact d_delItem I2 e ry l fun s3 I3 => wpAny_deleteEach_nil ⟨σ, _, I3, q2⟩
end


/-! ### displays -/
theorem dk_empty {P : Program} {w : World} {H : Hp} (h : Heap) (hb : sysModules < h.objs.size) : ObjOk P w H (h.push { cls := .type "dict", data := .dict #[] }) h.objs.size (.dK []) :=
  ⟨Nat.zero_le _, beq_eq_false_iff_ne.mpr (Ne.symm (Nat.ne_of_lt hb)), [], .nil, Heap.DictOf.new h⟩
theorem dt_empty {P : Program} {w : World} {H : Hp} (h : Heap) (hb : sysModules < h.objs.size) : ObjOk P w H (h.push { cls := .type "dict", data := .dict #[] }) h.objs.size (.dT []) :=
  ⟨Nat.zero_le _, beq_eq_false_iff_ne.mpr (Ne.symm (Nat.ne_of_lt hb)), [], .nil, _, #[], 0, Heap.get?_push_size _ rfl, ⟨rfl, rfl, rfl⟩, rfl, rfl, List.nodup_nil⟩
/-- {}, to be a dict of the kind that is wanted -/
def tDNewK : TE := fun _ H Q => ∀ p, H p = none → Q (.ref p) (upd H p (.dK []))
def tDNewT : TE := fun _ H Q => ∀ p, H p = none → Q (.ref p) (upd H p (.dT []))
section
variable {X : Cx} {pos : Pos}
theorem pe_dnewK : PE X (.Dict [] [] pos) tDNewK := fun pins s σ H Q I h =>
  wpAny_Dict_empty ⟨.ref s.heap.objs.size, _, I.laid (a := s.heap.objs.size) (o := .dK []) (t' := s.toks) (fun _ _ q => Heap.get?_push_of_some _ q) (Nat.le_refl _) (dk_empty s.heap I.big), rfl, h _ (I.hok.fresh (Nat.le_refl _))⟩
theorem pe_dnewT : PE X (.Dict [] [] pos) tDNewT := fun pins s σ H Q I h =>
  wpAny_Dict_empty ⟨.ref s.heap.objs.size, _, I.laid (a := s.heap.objs.size) (o := .dT []) (t' := s.toks) (fun _ _ q => Heap.get?_push_of_some _ q) (Nat.le_refl _) (dt_empty s.heap I.big), rfl, h _ (I.hok.fresh (Nat.le_refl _))⟩
end

/-- the pairs of a display, from the left -/
def tPairs : List (TE × TE) → St → Hp → (List (V × V) → Hp → Prop) → Prop
  | [], _, H, Q => Q [] H
  | (tk, tv) :: r, σ, H, Q => tk σ H fun x H1 => tv σ H1 fun y H2 => tPairs r σ H2 fun ps H3 => Q ((x, y) :: ps) H3
abbrev VV : List (V × V) → List (Value × Value) → Prop := Paired fun p q => RelV p.1 q.1 ∧ RelV p.2 q.2
def PPs (X : Cx) (pos : Pos) (keys : List (Option Expr)) (values : List Expr) (trs : List (TE × TE)) : Prop :=
  ∀ (pins : List (Addr × Obj)) (s : Shared) (σ : St) (H : Hp) (Q : List (V × V) → Hp → Prop), Inv X pins σ H s → tPairs trs σ H Q →
    wpAny (model X.prog X.w) X.A (evalPairs (pairTrees keys values X.env pos)) (fun vs s' => ∃ ps H', Inv X pins σ H' s' ∧ VV ps vs ∧ Q ps H') X.xe s
theorem pps_nil {X : Cx} {pos : Pos} : PPs X pos [] [] [] := fun pins s σ H Q I h => pairTrees_nil_walk ⟨[], H, I, .nil, h⟩
theorem pps_cons {X : Cx} {pos : Pos} {k v : Expr} {ks : List (Option Expr)} {vs : List Expr} {tk tv : TE} {trs : List (TE × TE)} (hk : PE X k tk) (hv : PE X v tv) (hr : PPs X pos ks vs trs) :
    PPs X pos (some k :: ks) (v :: vs) ((tk, tv) :: trs) := fun pins s σ H Q I h =>
  pairTrees_cons_walk (thn (hk pins s σ H _ I h) fun u s1 ⟨x, H1, I1, rx, q1⟩ => thn (hv pins s1 σ H1 _ I1 q1) fun w2 s2 ⟨y, H2, I2, ry, q2⟩ =>
    thn (hr pins s2 σ H2 _ I2 q2) fun ws s3 ⟨ps, H3, I3, rel, q3⟩ => ⟨(x, y) :: ps, H3, I3, .cons ⟨rx, ry⟩ rel, q3⟩)

def mergeK (kvs more : List (Key × V)) : List (Key × V) := more.foldl (fun acc kv => putK acc kv.1 kv.2) kvs
theorem KV.merge : ∀ {more : List (Key × V)} {rs : List (Key × Value)} {kvs : List (Key × V)} {vs : List (Key × Value)}, KV more rs → KV kvs vs → KV (mergeK kvs more) (merged vs rs) := by
  intro more rs kvs vs r
  unfold KV at r
  induction r generalizing kvs vs with
  | nil => intro q; exact q
  | @cons p q ps qs h t ih =>
    intro r0
    have e : KV (putK kvs p.1 p.2) (stored vs q.1 q.2) := by
      have := r0.put p.1 h.2
      rw [← h.1]; exact this
    exact ih e
theorem length_mergeK : ∀ (more kvs : List (Key × V)), (mergeK kvs more).length ≤ kvs.length + more.length
  | [], kvs => by show kvs.length ≤ kvs.length + 0; omega
  | p :: r, kvs => by
    have h1 := length_mergeK r (putK kvs p.1 p.2)
    have h2 := length_putK kvs p.1 p.2
    show (mergeK (putK kvs p.1 p.2) r).length ≤ _
    rw [List.length_cons]; omega
theorem carries_of {P : Program} {w : World} : ∀ {kvs : List (Key × V)} {ws : List (Value × Value)}, VV (kvs.map fun kv => (kV kv.1, kv.2)) ws → ∃ rs, Carries (mixKind P w) ws rs ∧ KV kvs rs
  | [], _, r => by rw [List.map_nil] at r; cases r; exact ⟨[], True.intro, .nil⟩
  | p :: kvs, _, r => by
    rw [List.map_cons] at r
    cases r with
    | @cons a b as bs h t =>
      obtain ⟨rs, c, q⟩ := carries_of (P := P) (w := w) t
      obtain ⟨b1, b2⟩ := b
      exact ⟨(p.1, b2) :: rs, ⟨kV_is h.1, rfl, c⟩, .cons ⟨rfl, h.2⟩ q⟩
/-- {k: v, ..} with keys ints and texts; the new dict stands empty while the pairs are made -/
def tDisp (trs : List (TE × TE)) : TE := fun σ H Q => ∀ p, H p = none → tPairs trs σ (upd H p (.dK [])) fun ps H2 => H2 p = some (.dK []) ∧ ∃ kvs : List (Key × V), ps = kvs.map (fun kv => (kV kv.1, kv.2)) ∧ kvs.length ≤ 15 ∧ Q (.ref p) (upd H2 p (.dK (mergeK [] kvs)))
theorem pe_disp {X : Cx} {pos : Pos} {keys : List (Option Expr)} {values : List Expr} {trs : List (TE × TE)} (h : PPs X pos keys values trs) (hall : keys.all (·.isSome) = true) (hl : keys.length = values.length) (h0 : keys ≠ [])
    (h15 : keys.length ≤ 15) : PE X (.Dict keys values pos) (tDisp trs) := by
  intro pins s σ H Q I q
  have hn := I.hok.fresh (Nat.le_refl s.heap.objs.size)
  have I1 := I.laid (a := s.heap.objs.size) (o := .dK []) (h' := s.heap.push { cls := .type "dict", data := .dict #[] }) (t' := s.toks) (fun _ _ q => Heap.get?_push_of_some _ q) (Nat.le_refl _) (dk_empty s.heap I.big)
  refine wpAny_Dict_walk (knd := mixKind X.prog X.w) hall hl h0 h15 (thn (h pins _ σ _ _ I1 (q _ hn)) fun ws s2 ⟨ps, H2, I2, rel, e, kvs, ep, lk, q2⟩ => ?_)
  subst ep
  obtain ⟨rs, c, rk⟩ := carries_of (P := X.prog) (w := X.w) rel
  obtain ⟨z, hd, vs0, r0, dd⟩ := dk_of I2.hok e
  cases r0
  refine ⟨rs, c, dd, fun h' dd' hs => ⟨.ref s.heap.objs.size, _, ?_, rfl, q2⟩⟩
  have hz : (mergeK [] kvs).length ≤ sizeLine := by
    have h1 := length_mergeK kvs []
    rw [List.length_nil] at h1
    rw [sizeLine_eq]; omega
  have he : ∃ q, h'.get? s.heap.objs.size = some q := let ⟨q, _, _, hq, _⟩ := dd'; ⟨q, hq⟩
  exact d_write I2 (by rw [e]; exact True.intro) hs he (dk_new hz hd (rk.merge .nil) dd')


/-! ### methods -/
/-- a method call o.m(e) of a built-in, with one argument: what must be seen of the text -/
structure M1 (X : Cx) (o : Expr) (m : Str) (apos : Pos) (e : Expr) (cpos : Pos) : Prop where
  base : attributeBase o m X.env (eval o X.env) = eval o X.env
  few : ((backTo cpos (starEach [e] X.env)).all (fun x => !x.1) && (backToKw cpos (keywordEach [] X.env)).all (fun x => x.1.isSome)
    && decide (([e] : List Expr).length + ([] : List Keyword).length + (if ([] : List Keyword).isEmpty then 0 else 1) < 30)) = true
  line : (apos.endLine == cpos.line) = true
  trees : backTo cpos (starEach [e] X.env) = [(false, eval e X.env)]
structure M2 (X : Cx) (o : Expr) (m : Str) (apos : Pos) (e f : Expr) (cpos : Pos) : Prop where
  base : attributeBase o m X.env (eval o X.env) = eval o X.env
  few : ((backTo cpos (starEach [e, f] X.env)).all (fun x => !x.1) && (backToKw cpos (keywordEach [] X.env)).all (fun x => x.1.isSome)
    && decide (([e, f] : List Expr).length + ([] : List Keyword).length + (if ([] : List Keyword).isEmpty then 0 else 1) < 30)) = true
  line : (apos.endLine == cpos.line) = true
  trees : backTo cpos (starEach [e, f] X.env) = [(false, eval e X.env), (false, eval f X.env)]

/-- a is a dict, whatever its keys -/
def IsD (H : Hp) (a : Addr) : Prop := (∃ kvs, Rd H a (.dK kvs)) ∨ ∃ kvs, Rd H a (.dT kvs)
theorem isD_at {X : Cx} {pins : List (Addr × Obj)} {σ : St} {H : Hp} {s : Shared} {a : Addr} (I : Inv X pins σ H s) (d : IsD H a) :
    s.TypeIs (.ref a) "dict" ∧ (∀ b, Value.ref a = .ref b → ∃ ob, s.heap.get? b = some ob ∧ ob.dict = none) ∧ (a == sysModules) = false := by
  rcases d with ⟨kvs, e⟩ | ⟨kvs, e⟩
  · obtain ⟨_, hd, vs, _, dd⟩ := dk_rd I.hok e
    refine ⟨dd.typeIs, fun b q => ?_, hd⟩
    cases q
    obtain ⟨ob, _, _, h1, h2, _⟩ := dd
    exact ⟨ob, h1, h2.2.1⟩
  · obtain ⟨_, hd, xs, _, dd⟩ := dt_rd I.hok e
    refine ⟨dd.typeIs, fun b q => ?_, hd⟩
    cases q
    obtain ⟨ob, _, _, h1, h2, _⟩ := dd
    exact ⟨ob, h1, h2.2.1⟩

section
variable {X : Cx} {pins : List (Addr × Obj)} {σ : St} {H : Hp} {s : Shared} {a : Addr} {y d : V} {u r : Value} {o : Option V} {A : Around} {E : Value → Shared → Prop}
/-- d.get(y) -/
theorem d_get1 {Q : Value → Shared → Prop} (hu : A.units + 1 < cLine) (I : Inv X pins σ H s) (g : DGet H a y o) (ry : RelV y u) (h : ∀ w' s', Inv X pins σ H s' → RelV (o.getD .non) w' → Q w' s') :
    wpAny (model X.prog X.w) A (call (.builtin "dict.get") [.ref a, u]) Q E s := by
  rcases g with ⟨kvs, k, e, ey, l⟩ | ⟨kvs, k, b, e, ey, eb, l⟩
  · subst ey
    obtain ⟨z, hd, vs, rel, dd⟩ := dk_rd I.hok e
    refine call_meetsIn PySem.F.slot_dict_get dd.typeIs PySem.F.entry_dict_get (PySem.F.args_dict_get_2 _ _) (meets_dict_get (mixKind X.prog X.w) a (kV_is ry) hd) ⟨_, dd.mapOf, h _ _ (I.tok _) ?_⟩
    rw [l]
    exact (rel.val k).getD rfl
  · subst ey
    cases (show u = Value.ref b from ry)
    obtain ⟨z, hd, xs, rel, dd⟩ := dt_rd I.hok e
    refine call_meetsIn PySem.F.slot_dict_get dd.typeIs PySem.F.entry_dict_get (PySem.F.args_dict_get_2 _ _) (meetsH_dict_get (tupleKind (mixKind X.prog X.w)) a b hd) ⟨tupleKind_room_in1 hu, k, xs, key_of I.hok eb, dd, h _ _ (I.tok _) ?_⟩
    rw [l]
    exact (rel.val k).getD rfl
/-- d.get(y, x) -/
theorem d_get2 {Q : Value → Shared → Prop} (hu : A.units + 1 < cLine) (I : Inv X pins σ H s) (g : DGet H a y o) (ry : RelV y u) (rd : RelV d r) (h : ∀ w' s', Inv X pins σ H s' → RelV (o.getD d) w' → Q w' s') :
    wpAny (model X.prog X.w) A (call (.builtin "dict.get") [.ref a, u, r]) Q E s := by
  rcases g with ⟨kvs, k, e, ey, l⟩ | ⟨kvs, k, b, e, ey, eb, l⟩
  · subst ey
    obtain ⟨z, hd, vs, rel, dd⟩ := dk_rd I.hok e
    refine call_meetsIn PySem.F.slot_dict_get dd.typeIs PySem.F.entry_dict_get (PySem.F.args_dict_get_3 _ _ _) (meets_dict_get_default (mixKind X.prog X.w) a (kV_is ry) hd r) ⟨_, dd.mapOf, h _ _ (I.tok _) ?_⟩
    rw [l]
    exact (rel.val k).getD rd
  · subst ey
    cases (show u = Value.ref b from ry)
    obtain ⟨z, hd, xs, rel, dd⟩ := dt_rd I.hok e
    refine call_meetsIn PySem.F.slot_dict_get dd.typeIs PySem.F.entry_dict_get (PySem.F.args_dict_get_3 _ _ _) (meetsH_dict_get_default (tupleKind (mixKind X.prog X.w)) a b hd r) ⟨tupleKind_room_in1 hu, k, xs, key_of I.hok eb, dd, h _ _ (I.tok _) ?_⟩
    rw [l]
    exact (rel.val k).getD rd
end

def tDGet1 (td ty : TE) : TE := fun σ H Q => td σ H fun x H1 => ∃ a, x = .ref a ∧ IsD H1 a ∧ ty σ H1 fun y H2 => ∃ o, DGet H2 a y o ∧ Q (o.getD .non) H2
def tDGet2 (td ty tx : TE) : TE := fun σ H Q => td σ H fun x H1 => ∃ a, x = .ref a ∧ IsD H1 a ∧ ty σ H1 fun y H2 => tx σ H2 fun z H3 => ∃ o, DGet H3 a y o ∧ Q (o.getD z) H3
/-- d.pop(k): there; d.pop(k, x): there or not -/
def tDPop1 (td ty : TE) : TE := fun σ H Q => td σ H fun x H1 => ∃ a, x = .ref a ∧ IsD H1 a ∧ ty σ H1 fun y H2 => ∃ kvs k v, H2 a = some (.dK kvs) ∧ y = kV k ∧ valV kvs k = some v ∧ Q v (upd H2 a (.dK (dropK kvs k)))
def tDPop2 (td ty tx : TE) : TE := fun σ H Q => td σ H fun x H1 => ∃ a, x = .ref a ∧ IsD H1 a ∧ ty σ H1 fun y H2 => tx σ H2 fun z H3 => ∃ kvs k, H3 a = some (.dK kvs) ∧ y = kV k ∧
  (∀ v, valV kvs k = some v → Q v (upd H3 a (.dK (dropK kvs k)))) ∧ (valV kvs k = none → Q z H3)
section
variable {X : Cx} {o e f : Expr} {apos cpos : Pos} {td ty tx : TE}
theorem pe_dget1 (hu : X.A.units + 1 < cLine) (ho : PE X o td) (he : PE X e ty) (m : M1 X o "get" apos e cpos) : PE X (.Call (.Attribute o "get" apos) [e] [] cpos) (tDGet1 td ty) := by
  intro pins s σ H Q I h
  refine wpAny_Call_method m.base m.few m.line PySem.F.plainAttrs_dict PySem.F.slot_dict_get PySem.F.type_dict_get (thn (ho pins s σ H _ I h) fun u s1 ⟨x, H1, I1, rx, a, ex, d, q1⟩ => ?_)
  subst ex
  obtain rfl : u = Value.ref a := rx
  obtain ⟨t1, t2, _⟩ := isD_at I1 d
  refine ⟨t1, t2, ?_⟩
  rw [m.trees]
  refine Calls.callWith_builtin rfl (Calls.evalArgs_plain (Calls.spliced_cons (thn (he pins s1 σ H1 _ I1 q1) fun iv s2 ⟨y, H2, I2, ry, ov, g, q2⟩ => Calls.spliced_nil ?_)))
  exact d_get1 hu I2 g ry fun w' s3 I3 rw' => ⟨_, H2, I3, rw', q2⟩
theorem pe_dget2 (hu : X.A.units + 1 < cLine) (ho : PE X o td) (he : PE X e ty) (hf : PE X f tx) (m : M2 X o "get" apos e f cpos) : PE X (.Call (.Attribute o "get" apos) [e, f] [] cpos) (tDGet2 td ty tx) := by
  intro pins s σ H Q I h
  refine wpAny_Call_method m.base m.few m.line PySem.F.plainAttrs_dict PySem.F.slot_dict_get PySem.F.type_dict_get (thn (ho pins s σ H _ I h) fun u s1 ⟨x, H1, I1, rx, a, ex, d, q1⟩ => ?_)
  subst ex
  obtain rfl : u = Value.ref a := rx
  obtain ⟨t1, t2, _⟩ := isD_at I1 d
  refine ⟨t1, t2, ?_⟩
  rw [m.trees]
  refine Calls.callWith_builtin rfl (Calls.evalArgs_plain (Calls.spliced_cons (thn (he pins s1 σ H1 _ I1 q1) fun iv s2 ⟨y, H2, I2, ry, q2⟩ =>
    Calls.spliced_cons (thn (hf pins s2 σ H2 _ I2 q2) fun fv s3 ⟨z, H3, I3, rz, ov, g, q3⟩ => Calls.spliced_nil ?_))))
  exact d_get2 hu I3 g ry rz fun w' s4 I4 rw' => ⟨_, H3, I4, rw', q3⟩
theorem pe_dpop1 (ho : PE X o td) (he : PE X e ty) (m : M1 X o "pop" apos e cpos) : PE X (.Call (.Attribute o "pop" apos) [e] [] cpos) (tDPop1 td ty) := by
  intro pins s σ H Q I h
  refine wpAny_Call_method m.base m.few m.line PySem.F.plainAttrs_dict PySem.F.slot_dict_pop PySem.F.type_dict_pop (thn (ho pins s σ H _ I h) fun u s1 ⟨x, H1, I1, rx, a, ex, d, q1⟩ => ?_)
  subst ex
  obtain rfl : u = Value.ref a := rx
  obtain ⟨t1, t2, _⟩ := isD_at I1 d
  refine ⟨t1, t2, ?_⟩
  rw [m.trees]
  refine Calls.callWith_builtin rfl (Calls.evalArgs_plain (Calls.spliced_cons (thn (he pins s1 σ H1 _ I1 q1) fun iv s2 ⟨y, H2, I2, ry, kvs, k, v, ea, ey, l, q2⟩ => Calls.spliced_nil ?_)))
  subst ey
  exact d_pop I2 ea ry l (.inl rfl) fun w' s3 I3 rw' => ⟨v, _, I3, rw', q2⟩
theorem pe_dpop2 (ho : PE X o td) (he : PE X e ty) (hf : PE X f tx) (m : M2 X o "pop" apos e f cpos) : PE X (.Call (.Attribute o "pop" apos) [e, f] [] cpos) (tDPop2 td ty tx) := by
  intro pins s σ H Q I h
  refine wpAny_Call_method m.base m.few m.line PySem.F.plainAttrs_dict PySem.F.slot_dict_pop PySem.F.type_dict_pop (thn (ho pins s σ H _ I h) fun u s1 ⟨x, H1, I1, rx, a, ex, d, q1⟩ => ?_)
  subst ex
  obtain rfl : u = Value.ref a := rx
  obtain ⟨t1, t2, _⟩ := isD_at I1 d
  refine ⟨t1, t2, ?_⟩
  rw [m.trees]
  refine Calls.callWith_builtin rfl (Calls.evalArgs_plain (Calls.spliced_cons (thn (he pins s1 σ H1 _ I1 q1) fun iv s2 ⟨y, H2, I2, ry, q2⟩ =>
    Calls.spliced_cons (thn (hf pins s2 σ H2 _ I2 q2) fun fv s3 ⟨z, H3, I3, rz, kvs, k, ea, ey, q3, q4⟩ => Calls.spliced_nil ?_))))
  subst ey
  cases l : valV kvs k with
  | some v => exact d_pop I3 ea ry l (.inr ⟨fv, rfl⟩) fun w' s4 I4 rw' => ⟨v, _, I4, rw', q3 v l⟩
  | none => exact d_popD I3 ea ry l fun s4 I4 => ⟨z, H3, I4, rz, q4 l⟩
end

/-! ### dict(d): a copy -/
section
variable {X : Cx} {pins : List (Addr × Obj)} {σ : St} {H : Hp} {s : Shared} {a : Addr} {kvs : List (Key × V)} {A : Around} {E : Value → Shared → Prop}
theorem d_copyOf {Q : Value → Shared → Prop} (I : Inv X pins σ H s) (e : Rd H a (.dK kvs)) (h : ∀ p s', H p = none → Inv X pins σ (upd H p (.dK kvs)) s' → Q (.ref p) s') : wpAny (model X.prog X.w) A (call (.type "dict") [.ref a]) Q E s := by
  obtain ⟨z, hd, vs, rel, dd⟩ := dk_rd I.hok e
  refine kt_call_dict hd dd (by rw [← rel.length]; exact z) fun h' dd' hs => ?_
  refine h _ _ (I.hok.fresh (Nat.le_refl _)) (I.laid (a := s.heap.objs.size) (o := .dK kvs) (t' := s.toks) (fun b q hq => ?_) (Nat.le_refl _) (dk_new z (beq_eq_false_iff_ne.mpr (Ne.symm (Nat.ne_of_lt I.big))) rel dd'))
  exact (hs.2 b (Nat.ne_of_lt (Heap.lt_size hq))).trans (Heap.get?_push_of_some _ hq)
end


section
variable {X : Cx} {pins : List (Addr × Obj)} {σ : St} {H : Hp} {s : Shared} {a : Addr} {y : V} {u : Value} {A : Around} {E : Value → Shared → Prop}
/-- d[y], not there: a KeyError -/
theorem d_missing {Q : Value → Shared → Prop} (hu : A.units + 1 < cLine) (hh : A.handled = none) (I : Inv X pins σ H s) (g : DGet H a y none) (ry : RelV y u)
    (h : ∀ h' e t', Heap.NewExc s.heap h' e "KeyError" → E (.ref e) { s with heap := h', toks := t' }) : wpAny (model X.prog X.w) A (getItem (.ref a) u) Q E s := by
  rcases g with ⟨kvs, k, e, ey, l⟩ | ⟨kvs, k, b, e, ey, eb, l⟩
  · subst ey
    obtain ⟨z, hd, vs, rel, dd⟩ := dk_rd I.hok e
    have hn : valueAt vs k = none := RelO.none_of (by rw [l]; exact rel.val k)
    exact wpAny_getItem_missing_of (kV_is ry) hd hh dd.mapOf hn fun h' ex ne => h h' ex _ ne
  · subst ey
    cases (show u = Value.ref b from ry)
    obtain ⟨z, hd, xs, rel, dd⟩ := dt_rd I.hok e
    have hn : (atKey xs k).map (·.2) = none := RelO.none_of (by rw [l]; exact rel.val k)
    exact wpAny_getItem_missing_heap (tupleKind_room_in1 hu) (key_of I.hok eb) hd hh dd (Option.map_eq_none_iff.mp hn) fun h' ex ne => h h' ex _ ne
end
end L2

namespace HT
open PySem PyProof.Rows

/-- t < u of tuples of ints -/
def lexLt : List Int → List Int → Bool
  | [], [] => false
  | [], _ :: _ => true
  | _ :: _, [] => false
  | x :: xs, y :: ys => if x = y then lexLt xs ys else decide (x < y)
theorem lexLt_cons (x y : Int) (xs ys : List Int) : lexLt (x :: xs) (y :: ys) = if x = y then lexLt xs ys else decide (x < y) := rfl
theorem lexLt_nil_nil : lexLt [] [] = false := rfl
theorem lexLt_nil_cons (y : Int) (ys : List Int) : lexLt [] (y :: ys) = true := rfl
theorem lexLt_cons_nil (x : Int) (xs : List Int) : lexLt (x :: xs) [] = false := rfl

theorem eqAt_int (A : Around) (s : Shared) (a : Int) (t : Tok) (c : Int) (u : Tok) : ∃ e, SeqAt.EqAt A s (.int a t) (.int c u) e ∧ (e = true ↔ a = c) :=
  ⟨(a == c), SeqAt.EqAt.int_int a t c u, by simp⟩
theorem rcLt_int (A : Around) (s : Shared) (a : Int) (t : Tok) (c : Int) (u : Tok) (prog : Program) (w : World) (E : Value → Shared → Prop) (Q : Value → Shared → Prop) (h : Q (.bool (decide (a < c))) s) :
    wpAny (model prog w) A (richCompare .Lt (.int a t) (.int c u)) Q E s :=
  (PyProof.Rows.lt_int h : wpAny (model prog w) A (compareOp .Lt (.int a t) (.int c u)) Q E s)

section
open PySem.SeqAt
open PySem.AutoSeq1 (wpAny_loadPart')
open PySem.MeetsSeq PySem.MeetsSeq2 PySem.MeetsSeq3

theorem tuple_lt_ints (l b : Addr) (items items2 : Array Value) (n n2 : Nat) (dd dd2 : Option Addr) (sl sl2 : Array (Option Value)) (ns ms : List Int) (hi : IntsAre items.toList ns) (hj : IntsAre items2.toList ms) :
    Meets (Builtin.«tuple.__lt__» ⟨[.ref l, .ref b], []⟩)
      (fun _ R s => s.heap.get? l = some { cls := .type "tuple", dict := dd, data := .seq items n, slots := sl } ∧ s.heap.get? b = some { cls := .type "tuple", dict := dd2, data := .seq items2 n2, slots := sl2 } ∧
        R (.ok (.ret (.bool (lexLt ns ms)))) s) :=
  .of_wp fun prog w A R s h => by
    obtain ⟨hp, g, d, tk, os⟩ := s; obtain ⟨hl, hb, h⟩ := h
    have f2 := AutoSeq1.sub_tuple_tuple
    have z1 : items.size = ns.length := by rw [← hi.length]; simp
    have z2 : items2.size = ms.length := by rw [← hj.length]; simp
    wp_walk using wpAny_loadPart' hl, wpAny_loadPart' hb, wpAny_forIn_list _ (fun rest b s' => b.1 = none ∧ s' = ⟨hp, g, d, tk, os⟩ ∧ ∃ (vs ws : List Value) (ns' ms' : List Int), rest = vs.zip ws ∧
      IntsAre vs ns' ∧ IntsAre ws ms' ∧ ns'.length + items2.size = ms'.length + items.size ∧ R (.ok (.ret (.bool (lexLt ns' ms')))) ⟨hp, g, d, tk, os⟩) _
    case turn =>
      rintro ⟨y, x⟩ rest b s' ⟨hb', rfl, vs, ws, ns', ms', hz, hvi, hwi, hlen, hR⟩
      cases hvi with
      | nil => rw [List.zip_nil_left] at hz; cases hz
      | cons a t hvi' =>
        cases hwi with
        | nil => rw [List.zip_nil_right] at hz; cases hz
        | cons c u hwi' =>
          rw [List.zip_cons_cons] at hz
          injection hz with hyx hrest
          injection hyx with hy hx
          subst hy hx
          rw [lexLt_cons] at hR
          simp only [List.length_cons] at hlen
          obtain ⟨e, he, hiff⟩ := eqAt_int A.in1 ⟨hp, g, d, tk, os⟩ a t c u
          refine wpAny_bind (he prog w _ _ ?_)
          cases e with
          | true =>
            rw [if_pos (hiff.mp rfl)] at hR
            wp_walk
            exact ⟨rfl, rfl, _, _, _, _, hrest, hvi', hwi', by omega, hR⟩
          | false =>
            rw [if_neg (fun q => absurd (hiff.mpr q) Bool.false_ne_true)] at hR
            have hri := rcLt_int A.in1 ⟨hp, g, d, tk, os⟩ a t c u prog w
            wp_walk using hri
            exact ⟨_, rfl, by simpa using hR⟩
    case fin =>
      rintro ⟨b1, b2⟩ s' ⟨hb', rfl, vs, ws, ns', ms', hz, hvi, hwi, hlen, hR⟩
      simp only at hb'
      subst hb'
      have hv : lexLt ns' ms' = decide (items.size < items2.size) := by
        cases hvi with
        | nil =>
          cases hwi with
          | nil =>
            simp only [List.length_nil] at hlen
            rw [lexLt_nil_nil]
            exact (decide_eq_false (by omega)).symm
          | cons c u hw =>
            simp only [List.length_nil, List.length_cons] at hlen
            rw [lexLt_nil_cons]
            exact (decide_eq_true (by omega)).symm
        | cons a t hv =>
          cases hwi with
          | nil =>
            simp only [List.length_nil, List.length_cons] at hlen
            rw [lexLt_cons_nil]
            exact (decide_eq_false (by omega)).symm
          | cons c u hw =>
            rw [List.zip_cons_cons] at hz
            cases hz
      rw [hv] at hR
      wp_walk
      exact ⟨_, rfl, by simpa [Builtin.Tuple.tupleCompareSizes] using hR⟩
    case h =>
      exact ⟨rfl, rfl, items.toList, items2.toList, ns, ms, rfl, hi, hj, by omega, h⟩
end

section
variable {prog : Program} {w : World} {A : Around} {E : Value → Shared → Prop} {s : Shared}

theorem lt_tupInts {l b : Addr} {items items2 : Array Value} {ns ms : List Int} {Q : Value → Shared → Prop} (hl : IsTup s.heap l items) (hb : IsTup s.heap b items2) (hi : IntsAre items.toList ns) (hj : IntsAre items2.toList ms)
    (hu : A.units < cLine) (h : Q (.bool (lexLt ns ms)) s) : wpAny (model prog w) A (compareOp .Lt (.ref l) (.ref b)) Q E s := by
  obtain ⟨⟨cls, dd, data, sl⟩, ho, hc, n, hd⟩ := id hl
  obtain ⟨⟨cls2, dd2, data2, sl2⟩, ho2, hc2, n2, hd2⟩ := id hb
  simp only at hc hd hc2 hd2
  subst hc hd hc2 hd2
  exact richCompare_meets_room (op := .Lt) ⟨_, ho, rfl⟩ ⟨_, ho2, rfl⟩ PySem.F.slot_tuple_lt PySem.F.entry_tuple_lt (PySem.F.args_tuple_lt_2 _ _) (tuple_lt_ints l b items items2 n n2 dd dd2 sl sl2 ns ms hi hj)
    ⟨ho, ho2, show Value.bool (lexLt ns ms) ≠ Value.notImplemented ∧ Q (.bool (lexLt ns ms)) s from ⟨(fun x => nomatch x), h⟩⟩ hu

/-- t + u, t not empty -/
theorem cat_tup {t b : Addr} {vs ws : List Value} {Q : Value → Shared → Prop} (ht : IsTup s.heap t vs.toArray) (hb : IsTup s.heap b ws.toArray) (hv : vs ≠ [])
    (h1 : ws = [] → Q (.ref t) s) (h2 : ws ≠ [] → Q (.ref s.heap.objs.size) { s with heap := s.heap.push { cls := .type "tuple", data := .seq (vs ++ ws).toArray } })
    (hsz : vs.length + ws.length ≤ sizeLine) : wpAny (model prog w) A (binaryOp .Add (.ref t) (.ref b)) Q E s := by
  obtain ⟨⟨cls, dd, data, sl⟩, ho, hc, n, hd⟩ := id ht
  obtain ⟨⟨cls2, dd2, data2, sl2⟩, ho2, hc2, n2, hd2⟩ := id hb
  simp only at hc hd hc2 hd2
  subst hc hd hc2 hd2
  have e : vs.toArray ++ ws.toArray = (vs ++ ws).toArray := by simp
  by_cases hw : ws = []
  · exact concat_meets ⟨_, ho, rfl⟩ ⟨_, ho2, rfl⟩ noFill_tuple_add seq_tuple_add PySem.F.slot_tuple_add PySem.F.entry_tuple_add (PySem.F.args_tuple_add_2 _ _)
      (tuple_addW1 t b vs.toArray ws.toArray n n2 dd dd2 sl sl2 (by simpa using hv) (by simp [hw])) ⟨ho, ho2, h1 hw⟩
  · refine concat_meets ⟨_, ho, rfl⟩ ⟨_, ho2, rfl⟩ noFill_tuple_add seq_tuple_add PySem.F.slot_tuple_add PySem.F.entry_tuple_add (PySem.F.args_tuple_add_2 _ _)
      (tuple_addW2 t b vs.toArray ws.toArray n n2 dd dd2 sl sl2 (by simpa using hv) (by simpa using hw) (by rw [List.size_toArray, List.size_toArray]; exact hsz)) ⟨ho, ho2, ?_⟩
    rw [e]
    exact h2 hw

/-! ### t[a:b], not the whole -/
/-- a slice's bound as a place among n (d where it is left out) -/
def sIx (n d : Nat) : Option Int → Nat
  | none => d
  | some v => if v < 0 then (v + (n : Int)).toNat else min v.toNat n
theorem sIx_none (n d : Nat) : sIx n d none = d := rfl
theorem sIx_nat (n d k : Nat) : sIx n d (some (k : Int)) = min k n := by
  show (if (k : Int) < 0 then ((k : Int) + (n : Int)).toNat else min (k : Int).toNat n) = min k n
  rw [if_neg (by omega), Int.toNat_natCast]
theorem sIx_le (n d : Nat) (hd : d ≤ n) (o : Option Int) : sIx n d o ≤ n := by
  cases o with
  | none => exact hd
  | some v =>
    show (if v < 0 then (v + (n : Int)).toNat else min v.toNat n) ≤ n
    by_cases hv : v < 0
    · rw [if_pos hv]; omega
    · rw [if_neg hv]; exact Nat.min_le_right _ _
theorem clip_eq (v : Int) (n d : Nat) : (if v < 0 then max (v + (n : Int)) 0 else min v (n : Int)) = ((sIx n d (some v) : Nat) : Int) := by
  show (if v < 0 then max (v + (n : Int)) 0 else min v (n : Int)) = (((if v < 0 then (v + (n : Int)).toNat else min v.toNat n) : Nat) : Int)
  by_cases hv : v < 0
  · simp only [if_pos hv]; omega
  · simp only [if_neg hv]; omega
theorem adjust_gen (lo hi : Option Int) (n : Nat) : Builtin.Slice.sliceAdjust lo hi 1 (n : Int) = (((sIx n 0 lo : Nat) : Int), ((sIx n n hi : Nat) : Int)) := by
  have h1 : ¬ ((1 : Int) < 0) := by omega
  unfold Builtin.Slice.sliceAdjust
  simp only [h1, if_false]
  refine Prod.ext ?_ ?_
  · cases lo with
    | none => rfl
    | some v => exact clip_eq v n 0
  · cases hi with
    | none => rfl
    | some v => exact clip_eq v n n
theorem places_gen (i j : Nat) : Builtin.Slice.slicePlaces (i : Int) (j : Int) 1 = j - i := by
  unfold Builtin.Slice.slicePlaces
  have h1 : (1 : Int) > 0 := by omega
  simp only [h1, if_true, Int.ediv_one]
  split <;> omega
theorem slicePart_ {v : Value} {o : Option Int} {Q : Option Int → Shared → Prop} (p : IsPart v o) (h : Q o s) : wpAny (model prog w) A (Builtin.Slice.slicePartIndex v) Q E s := by
  cases p with
  | none => exact slicePart_none h
  | int i t => exact slicePart_int h
theorem sliceApplied_gen {sl : Addr} {vl vu : Value} {lo hi : Option Int} {n : Nat} {Q : Int × Int × Nat → Shared → Prop} (hs : s.heap.IsSliceOf sl vl vu .none) (pl : IsPart vl lo) (pu : IsPart vu hi)
    (h : Q (((sIx n 0 lo : Nat) : Int), 1, sIx n n hi - sIx n 0 lo) s) : wpAny (model prog w) A (Builtin.Slice.sliceApplied (.ref sl) (pure (n : Int))) Q E s := by
  obtain ⟨os, hos, hcs, hds⟩ := id hs
  unfold Builtin.Slice.sliceApplied Builtin.Slice.sliceFields
  refine wpAny_bind (wpAny_bind (wpAny_field hos hds (x := vl) rfl (wpAny_bind (wpAny_field hos hds (x := vu) rfl (wpAny_bind (wpAny_field hos hds (x := .none) rfl (wpAny_pure ?_)))))))
  refine wpAny_bind (slicePart_none ?_)
  show wpAny _ _ (if ((1 : Int) == 0) = true then _ else _) _ _ s
  rw [if_neg (by decide)]
  refine wpAny_bind (slicePart_ pl (wpAny_bind (slicePart_ pu (wpAny_bind (wpAny_pure ?_)))))
  show wpAny _ _ (match Builtin.Slice.sliceAdjust lo hi 1 (n : Int) with | (lo, hi) => pure (lo, (1 : Int), Builtin.Slice.slicePlaces lo hi 1)) _ _ s
  rw [adjust_gen lo hi n]
  show wpAny _ _ (pure (((sIx n 0 lo : Nat) : Int), (1 : Int), Builtin.Slice.slicePlaces ((sIx n 0 lo : Nat) : Int) ((sIx n n hi : Nat) : Int) 1)) _ _ s
  rw [places_gen]
  exact wpAny_pure h
theorem pick_gen (xs : Array Value) (i k : Nat) : ((List.range k).filterMap fun (m : Nat) => xs[((i : Int) + (m : Int) * 1).toNat]?).toArray = ((xs.toList.drop i).take k).toArray := by
  have e : (fun (m : Nat) => xs[((i : Int) + (m : Int) * 1).toNat]?) = fun m => xs[i + m]? := by
    funext m
    have : ((i : Int) + (m : Int) * 1).toNat = i + m := by omega
    rw [this]
  rw [e]
  have := pick_run xs i k
  rw [List.filterMap_map] at this
  have e2 : ((fun x => xs[x]?) ∘ fun x => i + x) = fun m => xs[i + m]? := rfl
  rw [e2] at this
  rw [this]

theorem getItem_tuple_cut {t sl : Addr} {items : Array Value} {vl vu : Value} {lo hi : Option Int} {Q : Value → Shared → Prop} (ht : IsTup s.heap t items) (hs : s.heap.IsSliceOf sl vl vu .none) (pl : IsPart vl lo) (pu : IsPart vu hi)
    (hw : ¬ (sIx items.size 0 lo = 0 ∧ sIx items.size items.size hi = items.size))
    (h : Q (.ref s.heap.objs.size) { s with heap := s.heap.push { cls := .type "tuple", data := .seq ((items.toList.drop (sIx items.size 0 lo)).take (sIx items.size items.size hi - sIx items.size 0 lo)).toArray } })
    (hsz : items.size ≤ sizeLine) : wpAny (model prog w) A (getItem (.ref t) (.ref sl)) Q E s := by
  have htake : sizeOk (.seq ((items.toList.drop (sIx items.size 0 lo)).take (sIx items.size items.size hi - sIx items.size 0 lo)).toArray) := by
    show ((items.toList.drop (sIx items.size 0 lo)).take (sIx items.size items.size hi - sIx items.size 0 lo)).toArray.size ≤ sizeLine
    rw [List.size_toArray, List.length_take, List.length_drop, Array.length_toList]
    omega
  have hj : sIx items.size items.size hi ≤ items.size := sIx_le _ _ (Nat.le_refl _) hi
  obtain ⟨os, hos, hcs, hds⟩ := id hs
  have hTs : s.TypeIs (.ref sl) "slice" := ⟨os, hos, hcs⟩
  unfold getItem
  try with_reducible refine wpAny_holding ?_
  first | refine wpAny_bind (wpAny_pure ?_) | skip
  refine wpAny_bind (wpAny_sequenceKey ht.typeIs (by decide) ?_)
  refine wpAny_bind (wpAny_callSpecial?_slot (name := Str.ofString "__getitem__") ht.typeIs PyProof.Rows.slot_tuple_getitem
    (wpAny_call_entry PyProof.Rows.slot_tuple_getitem ht.typeIs entry_tuple_getitem ?_ (args_tuple_getitem _ _)))
  show wpAny _ _ (Builtin.Tuple.tupleItemsOf (.ref t) >>= _) _ _ s
  refine wpAny_bind (tupleItemsOf_ ht ?_)
  refine wpAny_bind (wpAny_typeOf hTs ?_)
  rw [if_pos (by decide)]
  refine wpAny_bind (sliceApplied_gen hs pl pu ?_)
  have hno : ¬ ((((sIx items.size 0 lo : Nat) : Int) == 0 && (1 : Int) == 1 && (sIx items.size items.size hi - sIx items.size 0 lo) == items.size) = true) := by
    intro q
    rw [Bool.and_eq_true, Bool.and_eq_true] at q
    have q1 : ((sIx items.size 0 lo : Nat) : Int) = 0 := eq_of_beq q.1.1
    have q2 : sIx items.size items.size hi - sIx items.size 0 lo = items.size := eq_of_beq q.2
    exact hw ⟨by omega, by omega⟩
  show wpAny _ _ (if (((sIx items.size 0 lo : Nat) : Int) == 0 && (1 : Int) == 1 && (sIx items.size items.size hi - sIx items.size 0 lo) == items.size) = true then _ else _) _ _ s
  rw [if_neg hno, pick_gen]
  first
    | exact wpAny_bind (m := Builtin.Tuple.tupleExact _) (wpAny_newObj_type (wpAny_pure ⟨_, rfl, wpAny_pure h⟩) htake)
    | exact wpAny_bind (m := Builtin.Tuple.tupleExact _) (wpAny_newObj_type (wpAny_bind (wpAny_pure (wpAny_pure ⟨_, rfl, wpAny_pure h⟩))) htake)
    | exact wpAny_bind (wpAny_bind (m := Builtin.Tuple.tupleExact _) (wpAny_newObj_type (wpAny_pure (wpAny_pure ⟨_, rfl, wpAny_pure h⟩)) htake))
    | exact wpAny_bind (wpAny_bind (m := Builtin.Tuple.tupleExact _) (wpAny_newObj_type (wpAny_pure ⟨_, rfl, wpAny_pure h⟩) htake))
end
end HT

namespace L2
open PySem PySem.Spec PyProof.Rows

/-! ### the parts of a slice -/
abbrev TO := St → Hp → (Option Int → Hp → Prop) → Prop
/-- a slice's part (left out, or an int) -/
def PO (X : Cx) (e : Option Expr) (t : TO) : Prop :=
  ∀ (pins : List (Addr × Obj)) (s : Shared) (σ : St) (H : Hp) (Q : Option Int → Hp → Prop), Inv X pins σ H s → t σ H Q →
    wpAny (model X.prog X.w) X.A (evalPart e X.env) (fun u s' => ∃ o H', Inv X pins σ H' s' ∧ IsPart u o ∧ Q o H') X.xe s
def tNoPart : TO := fun _ H Q => Q none H
def tPart (t : TE) : TO := fun σ H Q => t σ H fun x H1 => ∃ i, x = .int i ∧ Q (some i) H1

theorem intsAre_of {ns : List Int} : ∀ {us : List Value}, Vals (ns.map V.int) us → IntsAre us ns := by
  induction ns with
  | nil => intro us r; rw [List.map_nil] at r; cases r; exact .nil
  | cons n ns ih =>
    intro us r
    rw [List.map_cons] at r
    cases r with
    | cons r1 r2 =>
      obtain ⟨t, e⟩ := r1
      subst e
      exact .cons n t (ih r2)

section
variable {X : Cx} {e : Expr} {te : TE} {lo hi : Option Expr} {tl th : TO} {pos p2 : Pos}

theorem po_none : PO X none tNoPart := by
  intro pins s σ H Q I h
  rw [evalPart_none]
  exact wpAny_pure ⟨none, H, I, .none, h⟩
theorem po_some (h : PE X e te) : PO X (some e) (tPart te) := by
  intro pins s σ H Q I hw
  rw [evalPart_some]
  refine thn (h pins s σ H _ I hw) fun u s1 ⟨x, H1, I1, r1, q1⟩ => ?_
  obtain ⟨i, rfl, q⟩ := q1
  obtain ⟨t, rfl⟩ := r1
  exact ⟨some i, H1, I1, .int i t, q⟩

/-- what a slice of a value is, by values: the slice object stands at sl -/
def SlR (X : Cx) (r : V → Option Int → Option Int → Hp → VK → Prop) : Prop :=
  ∀ (pins : List (Addr × Obj)) (s : Shared) (σ : St) (H : Hp) (x : V) (v vl vu : Value) (lo hi : Option Int) (sl : Addr) (Q : VK), Inv X pins σ H s → RelV x v → s.heap.IsSliceOf sl vl vu .none → IsPart vl lo → IsPart vu hi → r x lo hi H Q →
    ∃ T id, typeLookup (.type T) "__getitem__" = pure (some (.builtin id)) ∧ s.TypeIs v T ∧ wpAny (model X.prog X.w) X.A (getItem v (.ref sl)) (EP X pins σ Q) X.xe s
theorem SlR.or {r r' : V → Option Int → Option Int → Hp → VK → Prop} (h : SlR X r) (h' : SlR X r') : SlR X (fun x lo hi H Q => r x lo hi H Q ∨ r' x lo hi H Q) := by
  intro pins s σ H x v vl vu lo hi sl Q I rx hs pl pu q
  rcases q with q | q
  · exact h pins s σ H x v vl vu lo hi sl Q I rx hs pl pu q
  · exact h' pins s σ H x v vl vu lo hi sl Q I rx hs pl pu q
def tSl (r : V → Option Int → Option Int → Hp → VK → Prop) (te : TE) (tl th : TO) : TE := fun σ H Q => te σ H fun x H1 => tl σ H1 fun l H2 => th σ H2 fun u H3 => r x l u H3 Q
/-- a[lo:hi], any a -/
theorem pe_slice {r : V → Option Int → Option Int → Hp → VK → Prop} (hr : SlR X r) (he : PE X e te) (hl : PO X lo tl) (hu : PO X hi th) : PE X (.Subscript e (.Slice lo hi none p2) pos) (tSl r te tl th) := by
  intro pins s σ H Q I h
  refine Subscript_ (thn (he pins s σ H _ I h) fun v s1 ⟨x, H1, I1, r1, q1⟩ => ?_)
  refine wpAny_Slice (thn (hl pins s1 σ H1 _ I1 q1) fun vl s2 ⟨l, H2, I2, pl, q2⟩ => thn (hu pins s2 σ H2 _ I2 q2) fun vu s3 ⟨u, H3, I3, pu, q3⟩ => ?_)
  rw [evalPart_none]
  refine wpAny_pure ?_
  have I4 : Inv X pins σ H3 { s3 with heap := s3.heap.push { cls := .type "slice", data := .fields #[vl, vu, .none] } } := I3.kept (t' := s3.toks) fun b ob q => Heap.get?_push_of_some _ q
  obtain ⟨T, id, hT, ht, hg⟩ := hr pins { s3 with heap := s3.heap.push { cls := .type "slice", data := .fields #[vl, vu, .none] } } σ H3 x v vl vu l u s3.heap.objs.size Q I4 r1 (Heap.IsSliceOf.new ..) pl pu q3
  show wpAny (model X.prog X.w) X.A (subscriptTail e (.Slice lo hi none p2) v (.ref s3.heap.objs.size)) (EP X pins σ Q) X.xe { s3 with heap := s3.heap.push { cls := .type "slice", data := .fields #[vl, vu, .none] } }
  exact tail_any (ops := [.ref s3.heap.objs.size, v]) ht hT hg (by with_unfolding_all rfl)

/-- the items of xs[lo:hi] -/
def cutV (xs : List V) (lo hi : Option Int) : List V := (xs.drop (HT.sIx xs.length 0 lo)).take (HT.sIx xs.length xs.length hi - HT.sIx xs.length 0 lo)
theorem cutV_length (xs : List V) (lo hi : Option Int) : (cutV xs lo hi).length ≤ xs.length := by
  unfold cutV
  rw [List.length_take, List.length_drop]
  omega
/-- t[lo:hi], not the whole of it (the whole would be t itself) -/
def rSlT (K : PySem.W.Frag) : V → Option Int → Option Int → Hp → VK → Prop := fun x lo hi H Q => ∃ a xs, x = .ref a ∧ SqT K H a xs ∧
  ¬ (HT.sIx xs.length 0 lo = 0 ∧ HT.sIx xs.length xs.length hi = xs.length) ∧ ∀ p, H p = none → Q (.ref p) (upd H p (.tup (cutV xs lo hi)))
theorem sl_tup : SlR X (rSlT X.K) := by
  intro pins s σ H x v vl vu lo hi sl Q I rx hs pl pu h
  obtain ⟨a, xs, rfl, hx, hw, q⟩ := h
  cases rx
  obtain ⟨its, r, ht, hz⟩ := I.tuple hx
  have hlen : its.toArray.size = xs.length := by rw [List.size_toArray]; exact r.length.symm
  refine ⟨"tuple", _, PyProof.Rows.slot_tuple_getitem.lookup, ht.typeIs, ?_⟩
  refine HT.getItem_tuple_cut ht hs pl pu (by rw [hlen]; exact hw) ?_ (by rw [hlen]; exact hz)
  rw [hlen]
  refine ⟨.ref s.heap.objs.size, _, I.laid (t' := s.toks) (o := .tup (cutV xs lo hi)) (fun b ob q => Heap.get?_push_of_some _ q) (Nat.le_refl _) ?_, rfl, q _ (I.hok.fresh (Nat.le_refl _))⟩
  exact ⟨Nat.le_trans (cutV_length xs lo hi) hz, _, (r.drop (HT.sIx xs.length 0 lo)).take (HT.sIx xs.length xs.length hi - HT.sIx xs.length 0 lo), IsTup.new _ _⟩

/-! ### t < u, t + u -/
def rLtT (K : PySem.W.Frag) : R2 := fun x y H Q => ∃ a b ns ms, x = .ref a ∧ y = .ref b ∧ SqT K H a (ns.map V.int) ∧ SqT K H b (ms.map V.int) ∧ Q (.bl (HT.lexLt ns ms)) H
theorem op_ltT (hu : X.A.units < cLine) : OpR X (compareOp .Lt) (rLtT X.K) := by
  intro pins s σ H x y v u Q I rx ry h
  obtain ⟨a, b, ns, ms, rfl, rfl, ha, hb, q⟩ := h
  cases rx
  cases ry
  obtain ⟨its, r1, p1, _⟩ := I.tuple ha
  obtain ⟨its2, r2, p2, _⟩ := I.tuple hb
  have i1 : IntsAre its.toArray.toList ns := intsAre_of r1
  have i2 : IntsAre its2.toArray.toList ms := intsAre_of r2
  exact HT.lt_tupInts p1 p2 i1 i2 hu ⟨.bl (HT.lexLt ns ms), H, I, rfl, q⟩
/-- t + u, t not empty: u empty gives t itself -/
def rCatT (K : PySem.W.Frag) : R2 := fun x y H Q => ∃ a b xs ys, x = .ref a ∧ y = .ref b ∧ SqT K H a xs ∧ SqT K H b ys ∧ xs ≠ [] ∧ xs.length + ys.length ≤ sizeLine ∧
  (ys = [] → Q (.ref a) H) ∧ (ys ≠ [] → ∀ p, H p = none → Q (.ref p) (upd H p (.tup (xs ++ ys))))
theorem Vals.nil_iff {xs : List V} {us : List Value} (r : Vals xs us) : us = [] ↔ xs = [] := by
  cases r with
  | nil => simp
  | cons _ _ => simp
theorem op_catT : OpR X (binaryOp .Add) (rCatT X.K) := by
  intro pins s σ H x y v u Q I rx ry h
  obtain ⟨a, b, xs, ys, rfl, rfl, ha, hb, hx, hz, q1, q2⟩ := h
  cases rx
  cases ry
  obtain ⟨its, r1, p1, _⟩ := I.tuple ha
  obtain ⟨its2, r2, p2, _⟩ := I.tuple hb
  refine HT.cat_tup p1 p2 (fun z => hx (r1.nil_iff.mp z)) (fun z => ⟨.ref a, H, I, rfl, q1 (r2.nil_iff.mp z)⟩) (fun z => ?_) (by rw [← r1.length, ← r2.length]; exact hz)
  refine ⟨.ref s.heap.objs.size, _, I.laid (t' := s.toks) (o := .tup (xs ++ ys)) (fun b ob q => Heap.get?_push_of_some _ q) (Nat.le_refl _) ?_, rfl, q2 (fun w => z (r2.nil_iff.mpr w)) _ (I.hok.fresh (Nat.le_refl _))⟩
  exact ⟨by rw [List.length_append]; exact hz, _, r1.append r2, IsTup.new _ _⟩
/-- tuple(t) -/
theorem call_tupleT : CallR X (.type "tuple") (fun xs H Q => ∃ a ys, xs = [.ref a] ∧ SqT X.K H a ys ∧ Q (.ref a) H) := by
  intro pins s σ H xs us Q I r h
  obtain ⟨a, ys, rfl, ha, q⟩ := h
  obtain ⟨u, rfl, ru⟩ := vals1 r
  cases ru
  obtain ⟨its, _, p1, _⟩ := I.tuple ha
  exact call_tuple_same (items := its.toArray) p1 ⟨.ref a, H, I, rfl, q⟩
end
end L2

namespace L2
open PySem PySem.Spec PyProof.Rows

/-! ### places -/
/-- the place that an index of any sign means -/
def ixN (n : Nat) (i : Int) : Option Nat := if 0 ≤ i then (if i < n then some i.toNat else none) else if -(n : Int) ≤ i then some (i + n).toNat else none
def atI {α : Type} (xs : List α) (i : Int) : Option α := (ixN xs.length i).bind fun j => xs[j]?
theorem ixN_seq {n : Nat} {i : Int} {j : Nat} (h : ixN n i = some j) : seqIndex? i n = some j ∧ j < n ∧ -(n : Int) ≤ i ∧ i < n := by
  unfold ixN at h
  by_cases h0 : 0 ≤ i
  · rw [if_pos h0] at h
    by_cases h1 : i < n
    · rw [if_pos h1] at h
      have e : i.toNat = j := Option.some.inj h
      exact ⟨by rw [seqIndex_of h0 h1, e], by omega, by omega, h1⟩
    · rw [if_neg h1] at h; cases h
  · rw [if_neg h0] at h
    by_cases h1 : -(n : Int) ≤ i
    · rw [if_pos h1] at h
      have e : (i + n).toNat = j := Option.some.inj h
      exact ⟨by rw [seqIndex_neg (by omega) h1, e], by omega, h1, by omega⟩
    · rw [if_neg h1] at h; cases h
theorem atI_get {α : Type} {xs : List α} {i : Int} {v : α} (h : atI xs i = some v) : ∃ j, seqIndex? i xs.length = some j ∧ xs[j]? = some v ∧ j < xs.length ∧ -(xs.length : Int) ≤ i ∧ i < xs.length := by
  unfold atI at h
  cases e : ixN xs.length i with
  | none => rw [e] at h; cases h
  | some j =>
    rw [e] at h
    obtain ⟨h1, h2, h3, h4⟩ := ixN_seq e
    exact ⟨j, h1, h, h2, h3, h4⟩
theorem atI_nat {α : Type} {xs : List α} {j : Nat} {v : α} (h : xs[j]? = some v) : atI xs (j : Int) = some v := by
  have hj : j < xs.length := (List.getElem?_eq_some_iff.mp h).1
  have e : ixN xs.length (j : Int) = some j := by
    unfold ixN
    rw [if_pos (by omega), if_pos (by omega)]; simp
  unfold atI; rw [e]; exact h
theorem atI_last {α : Type} (xs : List α) (v : α) : atI (xs ++ [v]) (-1) = some v := by
  have hl : (xs ++ [v]).length = xs.length + 1 := by simp
  have e : ixN (xs ++ [v]).length (-1) = some xs.length := by
    unfold ixN
    rw [hl, if_neg (by decide), if_pos (by omega)]
    congr 1
    omega
  unfold atI
  rw [e]
  show (xs ++ [v])[xs.length]? = some v
  simp

/-! ### what may be subscripted -/
/-- what stands as an index of a plain subscript -/
def PlainIx (b : Expr) : Prop := ∀ o i, subscripted b false o i = operate [o, i] (getItem o i)
/-- a subscript by values -/
def IxR (X : Cx) (r : R2) : Prop :=
  ∀ (value slice : Expr) (pins : List (Addr × Obj)) (s : Shared) (σ : St) (H : Hp) (x y : V) (v u : Value) (Q : VK), Inv X pins σ H s → RelV x v → RelV y u → r x y H Q →
    subscripted slice false v u = operate [v, u] (getItem v u) → wpAny (model X.prog X.w) X.A (subscriptTail value slice v u) (EP X pins σ Q) X.xe s
/-- a call of a builtin's method by values: the receiver, the arguments -/
def MtR (X : Cx) (id : String) (r : V → List V → Hp → VK → Prop) : Prop :=
  ∀ (pins : List (Addr × Obj)) (s : Shared) (σ : St) (H : Hp) (x : V) (xs : List V) (v : Value) (us : List Value) (Q : VK), Inv X pins σ H s → RelV x v → Vals xs us → r x xs H Q →
    wpAny (model X.prog X.w) X.A (call (.builtin id) (v :: us)) (EP X pins σ Q) X.xe s
section
variable {X : Cx} {a b : Expr} {ta tb : TE} {pos : Pos}
theorem IxR.or {r r' : R2} (h : IxR X r) (h' : IxR X r') : IxR X (fun x y H Q => r x y H Q ∨ r' x y H Q) := by
  intro value slice pins s σ H x y v u Q I rx ry q hs
  rcases q with q | q
  · exact h value slice pins s σ H x y v u Q I rx ry q hs
  · exact h' value slice pins s σ H x y v u Q I rx ry q hs
theorem MtR.or {id : String} {r r' : V → List V → Hp → VK → Prop} (h : MtR X id r) (h' : MtR X id r') : MtR X id (fun x xs H Q => r x xs H Q ∨ r' x xs H Q) := by
  intro pins s σ H x xs v us Q I rx rs q
  rcases q with q | q
  · exact h pins s σ H x xs v us Q I rx rs q
  · exact h' pins s σ H x xs v us Q I rx rs q
/-- a[b] -/
theorem pe_ix {r : R2} (hr : IxR X r) (ha : PE X a ta) (hb : PE X b tb) (hs : PlainIx b) : PE X (.Subscript a b pos) (tOp r ta tb) := by
  intro pins s σ H Q I h
  exact Subscript_ (binT ha hb I h fun v u s2 x y H2 I2 rx ry q => hr a b pins s2 σ H2 x y v u Q I2 rx ry q (hs _ _))

def rIxL (K : PySem.W.Frag) : R2 := fun x y H Q => ∃ p xs i v, x = .ref p ∧ y = .int i ∧ SqL K H p xs ∧ atI xs i = some v ∧ Q v H
def rIxT (K : PySem.W.Frag) : R2 := fun x y H Q => ∃ p xs i v, x = .ref p ∧ y = .int i ∧ SqT K H p xs ∧ atI xs i = some v ∧ Q v H
def rIxS : R2 := fun x y H Q => ∃ z i c, x = .str z ∧ y = .int i ∧ z.length ≤ sizeLine ∧ atI z.cps.toList i = some c ∧ Q (.str ⟨#[c]⟩) H
theorem ix_list : IxR X (rIxL X.K) := by
  intro value slice pins s σ H x y v u Q I rx ry h hs
  obtain ⟨p, xs, i, z, rfl, rfl, hq, he, q⟩ := h
  cases rx
  obtain ⟨t, rfl⟩ := ry
  obtain ⟨its, r, pl, hz⟩ := I.list hq
  obtain ⟨j, h1, h2, h3, h4, h5⟩ := atI_get he
  obtain ⟨w, ew, rw'⟩ := r.get h2
  have hl := r.length
  have hn := line63
  have fin : EP X pins σ Q w s := ⟨z, H, I, rw', q⟩
  by_cases h0 : 0 ≤ i
  · have hj : i.toNat = j := by
      rw [seqIndex_of h0 h5] at h1
      exact Option.some.inj h1
    exact item_listR pl.isList h0 (by omega) (by rw [hj]; simpa using ew) fin hs
  · have hj : (i + (its.toArray.size : Int)).toNat = j := by
      rw [seqIndex_neg (by omega) h4] at h1
      rw [List.size_toArray, ← hl]
      exact Option.some.inj h1
    exact subscriptTail_builtinR (x := w) pl.isList.typeIs slot_list_getitem.lookup
      (wpAny_getItem_list_neg (Q := fun r s' => r = w ∧ EP X pins σ Q r s') pl.isList (by omega) (by rw [List.size_toArray] <;> omega) (by omega) (by rw [hj]; simpa using ew) ⟨rfl, fin⟩) hs
theorem ix_tup : IxR X (rIxT X.K) := by
  intro value slice pins s σ H x y v u Q I rx ry h hs
  obtain ⟨p, xs, i, z, rfl, rfl, hq, he, q⟩ := h
  cases rx
  obtain ⟨t, rfl⟩ := ry
  obtain ⟨its, r, pl, hz⟩ := I.tuple hq
  obtain ⟨j, h1, h2, h3, h4, h5⟩ := atI_get he
  obtain ⟨w, ew, rw'⟩ := r.get h2
  have hl := r.length
  have hn := line63
  have fin : EP X pins σ Q w s := ⟨z, H, I, rw', q⟩
  exact subscriptTail_builtinR (x := w) pl.typeIs slot_tuple_getitem.lookup
    (getItem_tuple (j := j) (Q := fun r s' => r = w ∧ EP X pins σ Q r s') pl (by omega) (by omega) (by rw [List.size_toArray, ← hl]; exact h1) (by simpa using ew) ⟨rfl, fin⟩) hs
theorem ix_str : IxR X rIxS := by
  intro value slice pins s σ H x y v u Q I rx ry h hs
  obtain ⟨z, i, c, rfl, rfl, hz, he, q⟩ := h
  obtain ⟨t, rfl⟩ := rx
  obtain ⟨t', rfl⟩ := ry
  obtain ⟨j, h1, h2, h3, h4, h5⟩ := atI_get he
  have hl : z.cps.toList.length = z.length := by simp [Str.length]
  rw [hl] at h1 h4 h5
  have hn := line63
  exact tail_any (typeIs_str s z t) slot_str_getitem.lookup (getItem_str (c := c) (by
    have e1 : decide (i < -(2 ^ 63 : Int)) = false := decide_eq_false (by omega)
    have e2 : decide (i ≥ 2 ^ 63) = false := decide_eq_false (by omega)
    rw [e1, e2, Bool.or_false]) (by rw [h1]; simpa using h2) ⟨.str ⟨#[c]⟩, H, I.tok _, ⟨_, rfl⟩, q⟩) hs
/-- list, tuple or str -/
def rIx (K : PySem.W.Frag) : R2 := fun x y H Q => rIxL K x y H Q ∨ rIxT K x y H Q ∨ rIxS x y H Q
theorem ix_seq : IxR X (rIx X.K) := ix_list.or (ix_tup.or ix_str)

/-! ### xs[i] = v, any sign -/
/-- the list's object behind a store -/
theorem mapSeq_set (its : List Value) (n j : Nat) (u : Value) : Obj.mapSeq (·.setIfInBounds j u) { cls := .type "list", data := .seq its.toArray n } = { cls := .type "list", data := .seq (its.set j u).toArray n } := by
  simp [Obj.mapSeq]
theorem Inv.lst {pins : List (Addr × Obj)} {σ : St} {H : Hp} {s : Shared} {p : Addr} {xs : List V} (I : Inv X pins σ H s) (h : H p = some (.lst xs)) :
    ∃ (its : List Value) (n : Nat), Vals xs its ∧ s.heap.get? p = some { cls := .type "list", data := .seq its.toArray n } ∧ xs.length ≤ sizeLine := by
  obtain ⟨z, its, n, r, e⟩ := I.hok p _ h
  exact ⟨its, n, r, e, z⟩
/-- the list at p is written by an update of its object -/
theorem Inv.lstUpd {pins : List (Addr × Obj)} {σ : St} {H : Hp} {s : Shared} {p : Addr} {xs ys : List V} {its its' : List Value} {n n' : Nat} {f : Obj → Obj} (I : Inv X pins σ H s) (h : H p = some (.lst xs))
    (ho : s.heap.get? p = some { cls := .type "list", data := .seq its.toArray n }) (hf : f { cls := .type "list", data := .seq its.toArray n } = { cls := .type "list", data := .seq its'.toArray n' }) (r : Vals ys its') (hz : ys.length ≤ sizeLine) (t : Nat) :
    Inv X pins σ (upd H p (.lst ys)) { s with heap := s.heap.update p f, toks := t } := by
  have e : (s.heap.update p f).get? p = some { cls := .type "list", data := .seq its'.toArray n' } := by
    rw [Heap.get?_update_self f ho (by rw [hf] <;> rfl), hf]
  refine I.write (x := p) (e := p) (by rw [h]; trivial) (.inl rfl) (fun b u hb q => (Heap.get?_update_other _ _ (Ne.symm hb)).trans q) ⟨_, e⟩ ?_
  exact ⟨hz, its', n', r, e⟩
def rSetL : V → V → V → Hp → (Hp → Prop) → Prop := fun o i v H Q => ∃ p xs k j, o = .ref p ∧ i = .int k ∧ H p = some (.lst xs) ∧ ixN xs.length k = some j ∧ Q (upd H p (.lst (xs.set j v)))
theorem set_list : PSet X rSetL := by
  intro pins s σ H o i v ov iv u Q I ro ri rv h
  obtain ⟨p, xs, k, j, rfl, rfl, hp, hj, q⟩ := h
  cases ro
  obtain ⟨t, rfl⟩ := ri
  obtain ⟨its, n, r, ho, hz⟩ := I.lst hp
  obtain ⟨h1, h2, h3, h4⟩ := ixN_seq hj
  have hl := r.length
  have hn := line63
  have I' : Inv X pins σ (upd H p (.lst (xs.set j v))) { s with heap := s.heap.update p (Obj.mapSeq (·.setIfInBounds j u)) } :=
    I.lstUpd hp ho (mapSeq_set its n j u) (r.set rv j) (by rw [List.length_set]; exact hz) s.toks
  by_cases h0 : 0 ≤ k
  · have hk : k.toNat = j := by
      rw [seqIndex_of h0 h4] at h1
      exact Option.some.inj h1
    exact PySem.W.ki_setAt ho h0 (by omega) (by rw [List.size_toArray, ← hl]; exact h4) (by rw [hk]; exact ⟨_, I', q⟩)
  · have hk : (k + (its.toArray.size : Int)).toNat = j := by
      rw [seqIndex_neg (by omega) h3] at h1
      rw [List.size_toArray, ← hl]
      exact Option.some.inj h1
    exact PySem.W.ki_setBack ho (by omega) (by rw [List.size_toArray, ← hl]; exact h3) (by omega) (by rw [hk]; exact ⟨_, I', q⟩)

/-! ### slices -/
theorem slice_bounds (lo hi : Option Int) (n : Nat) : (sliceBounds lo hi none n).1 = ((HT.sIx n 0 lo : Nat) : Int) ∧ (sliceBounds lo hi none n).2.1 = ((HT.sIx n n hi : Nat) : Int) ∧ (sliceBounds lo hi none n).2.2 = 1 := by
  refine ⟨?_, ?_, rfl⟩
  · cases lo with
    | none => simp [sliceBounds, HT.sIx]
    | some i =>
      simp only [sliceBounds, HT.sIx, Option.getD_none, show (1 : Int) > 0 by decide, if_true]
      by_cases h : i < 0
      · simp only [h, if_true] <;> omega
      · simp only [h, if_false] <;> omega
  · cases hi with
    | none => simp [sliceBounds, HT.sIx]
    | some i =>
      simp only [sliceBounds, HT.sIx, Option.getD_none, show (1 : Int) > 0 by decide, if_true]
      by_cases h : i < 0
      · simp only [h, if_true] <;> omega
      · simp only [h, if_false] <;> omega
theorem slicePick_cut (its : List Value) (lo hi : Option Int) : slicePick its.toArray lo hi none = ((its.drop (HT.sIx its.length 0 lo)).take (HT.sIx its.length its.length hi - HT.sIx its.length 0 lo)).toArray := by
  obtain ⟨h1, h2, h3⟩ := slice_bounds lo hi its.toArray.size
  unfold slicePick
  rw [h1, h2, h3]
  simp only [sliceRange_one, pick_run, List.size_toArray] <;> rfl
/-- xs[lo:hi] of a list: a new list -/
def rSlL (K : PySem.W.Frag) : V → Option Int → Option Int → Hp → VK → Prop := fun x lo hi H Q => ∃ a xs, x = .ref a ∧ SqL K H a xs ∧ ∀ p, H p = none → Q (.ref p) (upd H p (.lst (cutV xs lo hi)))
theorem sl_list : SlR X (rSlL X.K) := by
  intro pins s σ H x v vl vu lo hi sl Q I rx hs pl pu h
  obtain ⟨a, xs, rfl, hx, q⟩ := h
  cases rx
  obtain ⟨its, r, ht, hz⟩ := I.list hx
  have hlen := r.length
  refine ⟨"list", _, slot_list_getitem.lookup, ht.isList.typeIs, ?_⟩
  refine wpAny_getItem_list_slice ht.isList hs pl pu .none (by simp) ?_ (by rw [List.size_toArray] <;> omega)
  rw [slicePick_cut, ← hlen]
  refine ⟨.ref s.heap.objs.size, _, I.laid (t' := s.toks) (o := .lst (cutV xs lo hi)) (fun b ob q => Heap.get?_push_of_some _ q) (Nat.le_refl _) ?_, rfl, q _ (I.hok.fresh (Nat.le_refl _))⟩
  exact ⟨Nat.le_trans (cutV_length xs lo hi) hz, _, 0, (r.drop (HT.sIx xs.length 0 lo)).take (HT.sIx xs.length xs.length hi - HT.sIx xs.length 0 lo), Heap.get?_push_size _ rfl⟩

/-! ### in, not in: flat items -/
def flatV : V → Bool
  | .non => true
  | .bl _ => true
  | .int _ => true
  | .str _ => true
  | _ => false
/-- == of flat values -/
def eqV : V → V → Bool
  | .non, .non => true
  | .bl a, .bl b => a == b
  | .bl a, .int b => (if a then 1 else 0) == b
  | .int a, .bl b => a == (if b then 1 else 0)
  | .int a, .int b => a == b
  | .str a, .str b => a == b
  | _, _ => false
theorem eqAt_V {A : Around} {s : Shared} {y x : V} {u v : Value} (ry : RelV y u) (rx : RelV x v) (fy : flatV y = true) (fx : flatV x = true) : SeqAt.EqAt A s u v (eqV y x) := by
  cases y with
  | non =>
    cases ry
    cases x with
    | non => cases rx; exact SeqAt.EqAt.same _
    | bl b => cases rx; exact SeqAt.EqAt.none_bool b
    | int b => obtain ⟨t, rfl⟩ := rx; exact SeqAt.EqAt.none_int b t
    | str b => obtain ⟨t, rfl⟩ := rx; exact SeqAt.EqAt.none_str b t
    | _ => exact absurd (show false = true from fx) Bool.false_ne_true
  | bl a =>
    cases ry
    cases x with
    | non => cases rx; exact SeqAt.EqAt.bool_none a
    | bl b => cases rx; exact SeqAt.EqAt.bool_bool a b
    | int b => obtain ⟨t, rfl⟩ := rx; exact SeqAt.EqAt.bool_int a b t
    | str b => obtain ⟨t, rfl⟩ := rx; exact SeqAt.EqAt.bool_str a b t
    | _ => exact absurd (show false = true from fx) Bool.false_ne_true
  | int a =>
    obtain ⟨t', rfl⟩ := ry
    cases x with
    | non => cases rx; exact SeqAt.EqAt.int_none a t'
    | bl b => cases rx; exact SeqAt.EqAt.int_bool a t' b
    | int b => obtain ⟨t, rfl⟩ := rx; exact SeqAt.EqAt.int_int a t' b t
    | str b => obtain ⟨t, rfl⟩ := rx; exact SeqAt.EqAt.int_str a t' b t
    | _ => exact absurd (show false = true from fx) Bool.false_ne_true
  | str a =>
    obtain ⟨t', rfl⟩ := ry
    cases x with
    | non => cases rx; exact SeqAt.EqAt.str_none a t'
    | bl b => cases rx; exact SeqAt.EqAt.str_bool a t' b
    | int b => obtain ⟨t, rfl⟩ := rx; exact SeqAt.EqAt.str_int a t' b t
    | str b => obtain ⟨t, rfl⟩ := rx; exact SeqAt.EqAt.str_str a t' b t
    | _ => exact absurd (show false = true from fx) Bool.false_ne_true
  | _ => exact absurd (show false = true from fy) Bool.false_ne_true
/-- the items' answers, read off the values (a value's own answer does not lean on its token) -/
def eqU (x : V) (u : Value) : Bool := match u with
  | .none => eqV .non x
  | .bool b => eqV (.bl b) x
  | .int i _ => eqV (.int i) x
  | .str z _ => eqV (.str z) x
  | _ => false
theorem eqU_of {x y : V} {u : Value} (r : RelV y u) (f : flatV y = true) : eqU x u = eqV y x := by
  cases y with
  | non => cases r; rfl
  | bl b => cases r; rfl
  | int i => obtain ⟨t, rfl⟩ := r; rfl
  | str z => obtain ⟨t, rfl⟩ := r; rfl
  | _ => exact absurd (show false = true from f) Bool.false_ne_true
theorem any_eqU {x : V} : ∀ {xs : List V} {us : List Value}, Vals xs us → xs.all flatV = true → us.any (eqU x) = xs.any fun y => eqV y x
  | _, _, .nil, _ => rfl
  | y :: xs, u :: us, .cons r t, f => by
    rw [List.all_cons, Bool.and_eq_true] at f
    rw [List.any_cons, List.any_cons, eqU_of r f.1, any_eqU t f.2]
theorem mem_eqAt {A : Around} {s : Shared} {x : V} {v : Value} (rx : RelV x v) (fx : flatV x = true) : ∀ {xs : List V} {us : List Value}, Vals xs us → xs.all flatV = true → ∀ u ∈ us, SeqAt.EqAt A s u v (eqU x u)
  | _, _, .nil, _ => fun u hu => by cases hu
  | y :: xs, u :: us, .cons r t, f => fun u' hu => by
    rw [List.all_cons, Bool.and_eq_true] at f
    rcases List.mem_cons.mp hu with rfl | hu
    · rw [eqU_of r f.1]; exact eqAt_V r rx f.1 fx
    · exact mem_eqAt rx fx t f.2 u' hu
def inV (x : V) (xs : List V) : Bool := xs.any fun y => eqV y x
/-- x in a list or tuple of flat items -/
def rIn (K : PySem.W.Frag) (neg : Bool) : R2 := fun x y H Q => ∃ p xs, y = .ref p ∧ (SqL K H p xs ∨ SqT K H p xs) ∧ flatV x = true ∧ xs.all flatV = true ∧ Q (.bl (if neg then !inV x xs else inV x xs)) H
theorem op_in_seq : OpR X (compareOp .In) (rIn X.K false) := by
  intro pins s σ H x y v u Q I rx ry h
  obtain ⟨p, xs, rfl, hq, fx, fs, q⟩ := h
  cases ry
  rcases hq with hq | hq
  · obtain ⟨its, r, pl, hz⟩ := I.list hq
    refine SeqAt.in_listAt (eqU x) pl.isList (fun w hw => mem_eqAt rx fx r fs w (by simpa using hw)) ⟨.bl _, H, I, rfl, ?_⟩
    rw [show its.toArray.any (eqU x) = its.any (eqU x) by simp, any_eqU r fs]
    exact q
  · obtain ⟨its, r, pl, hz⟩ := I.tuple hq
    refine SeqAt.in_tupleAt (eqU x) pl (fun w hw => mem_eqAt rx fx r fs w (by simpa using hw)) ⟨.bl _, H, I, rfl, ?_⟩
    rw [show its.toArray.any (eqU x) = its.any (eqU x) by simp, any_eqU r fs]
    exact q
theorem op_notIn_seq : OpR X (compareOp .NotIn) (rIn X.K true) := by
  intro pins s σ H x y v u Q I rx ry h
  obtain ⟨p, xs, rfl, hq, fx, fs, q⟩ := h
  cases ry
  rcases hq with hq | hq
  · obtain ⟨its, r, pl, hz⟩ := I.list hq
    refine SeqAt.notIn_listAt (eqU x) pl.isList (fun w hw => mem_eqAt rx fx r fs w (by simpa using hw)) ⟨.bl _, H, I, rfl, ?_⟩
    rw [show its.toArray.any (eqU x) = its.any (eqU x) by simp, any_eqU r fs]
    exact q
  · obtain ⟨its, r, pl, hz⟩ := I.tuple hq
    refine SeqAt.notIn_tupleAt (eqU x) pl (fun w hw => mem_eqAt rx fx r fs w (by simpa using hw)) ⟨.bl _, H, I, rfl, ?_⟩
    rw [show its.toArray.any (eqU x) = its.any (eqU x) by simp, any_eqU r fs]
    exact q
theorem op_notIn_str : OpR X (compareOp .NotIn) (fun x y H Q => ∃ i j, x = .str i ∧ y = .str j ∧ Q (.bl (!(!(Builtin.Str.occurrences j i 0 j.length 1).isEmpty))) H) := by
  intro pins s σ H x y v u Q I rx ry h
  obtain ⟨i, j, rfl, rfl, q⟩ := h
  obtain ⟨t, rfl⟩ := rx
  obtain ⟨t', rfl⟩ := ry
  exact notIn_str ⟨.bl _, H, I, rfl, q⟩

/-! ### len, list(x), tuple(x) of any list or tuple that is read -/
theorem call_len_seq : CallR X (.builtin "len") (fun xs H Q => ∃ p ys, xs = [.ref p] ∧ (SqL X.K H p ys ∨ SqT X.K H p ys) ∧ Q (.int ys.length) H) := by
  intro pins s σ H xs us Q I r h
  obtain ⟨p, ys, rfl, hq, q⟩ := h
  obtain ⟨u, rfl, rx⟩ := vals1 r
  cases rx
  have hn := line63
  rcases hq with hq | hq
  · obtain ⟨its, r', pl, hz⟩ := I.list hq
    have hlen := r'.length
    exact Calls.call_len_list pl.isList (by simp only [List.size_toArray] <;> omega) ⟨.int ys.length, H, I.tok _, ⟨s.toks + 1, by rw [List.size_toArray, hlen]⟩, q⟩
  · obtain ⟨its, r', pl, hz⟩ := I.tuple hq
    have hlen := r'.length
    exact len_tuple pl (by simp only [List.size_toArray] <;> omega) ⟨.int ys.length, H, I.tok _, ⟨s.toks + 1, by rw [List.size_toArray, hlen]⟩, q⟩
theorem call_len_str : CallR X (.builtin "len") (fun xs H Q => ∃ z, xs = [.str z] ∧ z.length ≤ sizeLine ∧ Q (.int z.length) H) := by
  intro pins s σ H xs us Q I r h
  obtain ⟨z, rfl, hz, q⟩ := h
  obtain ⟨u, rfl, t, rfl⟩ := vals1 r
  have hn := line63
  exact len_str (by omega) ⟨.int z.length, H, I.tok _, ⟨_, rfl⟩, q⟩
theorem CallR.or {f : Value} {r r' : List V → Hp → VK → Prop} (h : CallR X f r) (h' : CallR X f r') : CallR X f (fun xs H Q => r xs H Q ∨ r' xs H Q) := by
  intro pins s σ H xs us Q I rs q
  rcases q with q | q
  · exact h pins s σ H xs us Q I rs q
  · exact h' pins s σ H xs us Q I rs q
theorem call_list_of : CallR X (.type "list") (fun xs H Q => ∃ p ys, xs = [.ref p] ∧ (SqL X.K H p ys ∨ SqT X.K H p ys) ∧ ∀ l, H l = none → Q (.ref l) (upd H l (.lst ys))) := by
  intro pins s σ H xs us Q I r h
  obtain ⟨p, ys, rfl, hq, q⟩ := h
  obtain ⟨u, rfl, rx⟩ := vals1 r
  cases rx
  have fin : ∀ (its : List Value), Vals ys its → ys.length ≤ sizeLine → ∀ (h' : Heap) (c' : Nat), (∀ b o', s.heap.get? b = some o' → h'.get? b = some o') →
      h'.get? s.heap.objs.size = some { cls := .type "list", dict := none, data := .seq its.toArray c', slots := #[] } → EP X pins σ Q (.ref s.heap.objs.size) { s with heap := h' } := fun its r' hz h' c' kp e =>
    ⟨.ref s.heap.objs.size, _, I.laid (t' := s.toks) kp (Nat.le_refl _) (show ObjOk X.prog X.w _ h' _ (.lst ys) from ⟨hz, its, c', r', e⟩), rfl, q _ (I.hok.fresh (Nat.le_refl _))⟩
  rcases hq with hq | hq
  · obtain ⟨its, r', pl, hz⟩ := I.list hq
    have hlen := r'.length
    obtain ⟨o, ho, hc, n, hd⟩ := pl.isList
    exact call_list_seq p (.inl rfl) ho hc hd (fun h' c' kp e => fin its r' hz h' c' kp e) (by simp only [List.size_toArray] <;> omega)
  · obtain ⟨its, r', pl, hz⟩ := I.tuple hq
    have hlen := r'.length
    obtain ⟨o, ho, hc, n, hd⟩ := pl
    exact call_list_seq p (.inr rfl) ho hc hd (fun h' c' kp e => fin its r' hz h' c' kp e) (by simp only [List.size_toArray] <;> omega)
theorem call_tuple_of : CallR X (.type "tuple") (fun xs H Q => ∃ p ys, xs = [.ref p] ∧ ((SqL X.K H p ys ∧ ∀ l, H l = none → Q (.ref l) (upd H l (.tup ys))) ∨ (SqT X.K H p ys ∧ Q (.ref p) H))) := by
  intro pins s σ H xs us Q I r h
  obtain ⟨p, ys, rfl, h⟩ := h
  obtain ⟨u, rfl, rx⟩ := vals1 r
  cases rx
  rcases h with ⟨hq, q⟩ | ⟨hq, q⟩
  · obtain ⟨its, r', pl, hz⟩ := I.list hq
    have hlen := r'.length
    refine call_tuple_list pl.isList (fun h' kp => ?_) (by simp only [List.size_toArray] <;> omega)
    have I1 : Inv X pins σ H { s with heap := h' } := I.kept (t' := s.toks) kp
    have I2 : Inv X pins σ (upd H h'.objs.size (.tup ys)) { s with heap := h'.push { cls := .type "tuple", data := .seq its.toArray } } :=
      I1.laid (t' := s.toks) (fun b o e => Heap.get?_push_of_some _ e) (Nat.le_refl _) (show ObjOk X.prog X.w _ _ _ (.tup ys) from ⟨hz, its, r', IsTup.new _ _⟩)
    exact ⟨.ref h'.objs.size, _, I2, rfl, q _ (I1.hok.fresh (Nat.le_refl _))⟩
  · obtain ⟨its, r', pl, hz⟩ := I.tuple hq
    exact call_tuple_same pl ⟨.ref p, H, I, rfl, q⟩

/-! ### the call of a builtin's method: o.m(..) -/
/-- the value is of that builtin type -/
def tyV (K : PySem.W.Frag) (T : String) (x : V) (H : Hp) : Prop := match x with
  | .str _ => T = "str"
  | .int _ => T = "int"
  | .ref p => (T = "list" ∧ ∃ xs, SqL K H p xs) ∨ (T = "tuple" ∧ ∃ o, K.lookup p = some o ∧ o.cls = .type "tuple" ∧ o.dict = none) ∨
      (T = "dict" ∧ ((∃ kvs, H p = some (.dK kvs)) ∨ ∃ kvs, H p = some (.dT kvs))) ∨ (T = "set" ∧ ∃ S n, H p = some (.set S n))
  | _ => False
theorem tyV_is {pins : List (Addr × Obj)} {σ : St} {H : Hp} {s : Shared} {T : String} {x : V} {v : Value} (I : Inv X pins σ H s) (r : RelV x v) (ty : tyV X.K T x H) :
    s.TypeIs v T ∧ ∀ a, v = .ref a → ∃ ob, s.heap.get? a = some ob ∧ ob.dict = none := by
  cases x with
  | str z =>
    obtain ⟨t, rfl⟩ := r
    cases (show T = "str" from ty)
    exact ⟨typeIs_str s z t, fun _ e => nomatch e⟩
  | int i =>
    obtain ⟨t, rfl⟩ := r
    cases (show T = "int" from ty)
    exact ⟨typeIs_int s i t, fun _ e => nomatch e⟩
  | ref p =>
    cases r
    rcases ty with ⟨rfl, xs, hq⟩ | ⟨rfl, o, hk, hc, hd⟩ | ⟨rfl, hk⟩ | ⟨rfl, S, n, hk⟩
    · obtain ⟨its, _, pl, _⟩ := I.list hq
      refine ⟨pl.isList.typeIs, fun a e => ?_⟩
      cases e
      obtain ⟨o, n, e, c, hd, _⟩ := pl
      exact ⟨o, e, hd⟩
    · refine ⟨⟨o, I.kIn p o hk, hc⟩, fun a e => ?_⟩
      cases e
      exact ⟨o, I.kIn _ o hk, hd⟩
    · have z : ∃ o, s.heap.get? p = some o ∧ o.ExactDict := by
        rcases hk with ⟨kvs, hk⟩ | ⟨kvs, hk⟩
        · obtain ⟨_, _, _, _, o, _, _, e, ex, _⟩ := I.hok p _ hk
          exact ⟨o, e, ex⟩
        · obtain ⟨_, _, _, _, o, _, _, e, ex, _⟩ := I.hok p _ hk
          exact ⟨o, e, ex⟩
      obtain ⟨o, e, ex⟩ := z
      refine ⟨⟨o, e, ex.1⟩, fun a e2 => ?_⟩
      cases e2
      exact ⟨o, e, ex.2.1⟩
    · obtain ⟨o, _, _, _, e, ex, _⟩ := I.hok p _ hk
      refine ⟨⟨o, e, ex.1⟩, fun a e2 => ?_⟩
      cases e2
      exact ⟨o, e, ex.2.1⟩
  | _ => exact False.elim ty
def tBM0 (K : PySem.W.Frag) (T : String) (r : V → List V → Hp → VK → Prop) (to : TE) : TE := fun σ H Q => to σ H fun x H1 => tyV K T x H1 ∧ r x [] H1 Q
def tBM (K : PySem.W.Frag) (T : String) (r : V → List V → Hp → VK → Prop) (to : TE) (t : TA) : TE := fun σ H Q => to σ H fun x H1 => tyV K T x H1 ∧ t σ H1 fun xs H2 => r x xs H2 Q
variable {o e : Expr} {es : List Expr} {to : TE} {t : TA} {name : Str} {apos cpos : Pos} {T id : String} {r : V → List V → Hp → VK → Prop}
theorem pe_bm0 (pa : PlainAttrs T) (slot : Slot T name id) (hty : typeOf (.builtin id) = pure (.type "method_descriptor")) (hm : MtR X id r) (ho : PE X o to)
    (hbase : attributeBase o name X.env (eval o X.env) = eval o X.env := by rfl) (hline : (apos.endLine == cpos.line) = true := by rfl) : PE X (.Call (.Attribute o name apos) [] [] cpos) (tBM0 X.K T r to) := by
  intro pins s σ H Q I h
  refine wpAny_Call_method0_late hbase hline (thn (ho pins s σ H _ I h) fun v s1 ⟨x, H1, I1, r1, ty, q1⟩ => ?_)
  obtain ⟨h1, h2⟩ := tyV_is I1 r1 ty
  exact ⟨T, id, pa, slot, hty, h1, h2, Calls.callWith_builtin rfl (PySem.evalArgs_none (hm pins s1 σ H1 x [] v [] Q I1 r1 .nil q1))⟩
theorem pe_bm (pa : PlainAttrs T) (slot : Slot T name id) (hty : typeOf (.builtin id) = pure (.type "method_descriptor")) (hm : MtR X id r) (ho : PE X o to) (ha : PA X (e :: es) t)
    (hbase : attributeBase o name X.env (eval o X.env) = eval o X.env := by rfl)
    (hfew : ((backTo cpos (starEach (e :: es) X.env)).all (fun x => !x.1) && (backToKw cpos (keywordEach [] X.env)).all (fun x => x.1.isSome)
      && decide ((e :: es).length + ([] : List Keyword).length + (if ([] : List Keyword).isEmpty then 0 else 1) < 30)) = true := by rfl)
    (hline : (apos.endLine == cpos.line) = true := by rfl) (hs : starEach (e :: es) X.env = (false, eval e X.env) :: starEach es X.env := by rfl) (hplain : (backTo cpos (starEach es X.env)).any (·.1) = false := by rfl) :
    PE X (.Call (.Attribute o name apos) (e :: es) [] cpos) (tBM X.K T r to t) := by
  intro pins s σ H Q I h
  refine wpAny_Call_method_late hbase hfew hline rfl (thn (ho pins s σ H _ I h) fun v s1 ⟨x, H1, I1, r1, ty, q1⟩ => ?_)
  obtain ⟨h1, h2⟩ := tyV_is I1 r1 ty
  refine ⟨T, id, pa, slot, hty, h1, h2, ?_⟩
  have hA := ha cpos pins s1 σ H1 _ I1 q1
  rw [hs] at hA ⊢
  refine Calls.callWith_builtin (by show (false || (backTo cpos (starEach es X.env)).any (·.1)) = false; rw [hplain] <;> rfl) (Calls.evalArgs_plain ?_)
  exact thn hA fun us s2 ⟨vs, H2, I2, r2, q2⟩ => hm pins s2 σ H2 x vs v us Q I2 r1 r2 q2
/- xs.append(e), list.index on a module's tuple .. are MtR facts of 06m -/
end
end L2

namespace L2
open PySem PySem.Spec PyProof.Rows

def MtM (X : Cx) (id : String) (r : V → List V → Hp → VK → Prop) : Prop :=
  ∀ (pins : List (Addr × Obj)) (s : Shared) (σ : St) (H : Hp) (x : V) (xs : List V) (v : Value) (us : List Value) (Q : VK), Inv X pins σ H s → RelV x v → Vals xs us → r x xs H Q →
    wpAny (model X.prog X.w) X.A (call (.builtin id) (v :: us)) (EP X pins σ Q) X.xe s

/-! ### lists of values -/
theorem Vals.one : ∀ {x : V} {us : List Value}, Vals [x] us → ∃ u, us = [u] ∧ RelV x u
  | _, _, .cons r .nil => ⟨_, rfl, r⟩
theorem Vals.two : ∀ {x y : V} {us : List Value}, Vals [x, y] us → ∃ u v, us = [u, v] ∧ RelV x u ∧ RelV y v
  | _, _, _, .cons r (.cons q .nil) => ⟨_, _, rfl, r, q⟩
theorem Vals.zero : ∀ {us : List Value}, Vals [] us → us = []
  | _, .nil => rfl
theorem Vals.dropLast {xs : List V} {us : List Value} (h : Vals xs us) : Vals xs.dropLast us.dropLast := by
  induction h with
  | nil => exact .nil
  | cons r t ih =>
    cases t with
    | nil => exact .nil
    | cons q t' => exact .cons r ih
theorem Vals.eraseIdx : ∀ {xs : List V} {us : List Value} (i : Nat), Vals xs us → Vals (xs.eraseIdx i) (us.eraseIdx i)
  | _, _, _, .nil => .nil
  | _, _, 0, .cons _ t => t
  | _, _, i + 1, .cons r t => .cons r (Vals.eraseIdx i t)
theorem Vals.reverse {xs : List V} {us : List Value} (h : Vals xs us) : Vals xs.reverse us.reverse := by
  induction h with
  | nil => exact .nil
  | cons r t ih => rw [List.reverse_cons, List.reverse_cons]; exact Vals.append ih (.cons r .nil)
theorem Vals.rep {xs : List V} {us : List Value} (h : Vals xs us) : ∀ k : Nat, Vals (List.replicate k xs).flatten (List.replicate k us).flatten
  | 0 => .nil
  | k + 1 => by
    rw [List.replicate_succ, List.replicate_succ, List.flatten_cons, List.flatten_cons]
    exact Vals.append h (Vals.rep h k)
theorem erase_last {α : Type} (l : List α) : l.eraseIdx (l.length - 1) = l.dropLast := by
  induction l with
  | nil => rfl
  | cons a r ih =>
    cases r with
    | nil => rfl
    | cons b r =>
      have e : (a :: b :: r).length - 1 = ((b :: r).length - 1) + 1 := by
        have h1 : (a :: b :: r).length = r.length + 2 := rfl
        have h2 : (b :: r).length = r.length + 1 := rfl
        omega
      rw [e, List.eraseIdx_cons_succ, ih]
      all_goals rfl
theorem len_erase {α : Type} : ∀ (l : List α) (i : Nat), (l.eraseIdx i).length ≤ l.length
  | [], _ => Nat.le_refl _
  | _ :: _, 0 => Nat.le_succ _
  | _ :: r, i + 1 => Nat.succ_le_succ (len_erase r i)
theorem foldl_rep (its : List Value) : ∀ (k : Nat) (acc : List Value),
    List.foldl (fun x1 x2 => x1 ++ x2) acc.toArray (List.replicate k its.toArray) = (acc ++ (List.replicate k its).flatten).toArray
  | 0, acc => by simp
  | k + 1, acc => by
    have e : acc.toArray ++ its.toArray = (acc ++ its).toArray := by simp
    have e2 : (acc ++ its) ++ (List.replicate k its).flatten = acc ++ (List.replicate (k + 1) its).flatten := by
      rw [List.replicate_succ, List.flatten_cons, List.append_assoc]
    rw [← e2, ← foldl_rep its k (acc ++ its), ← e, List.replicate_succ, List.foldl_cons]

section
variable {X : Cx} {pins : List (Addr × Obj)} {σ : St} {H : Hp} {s : Shared} {l b : Addr} {xs ys zs : List V}

/-! ### the two steps: a tracked list is rewritten, a new list is laid -/
theorem Inv.lset {its its' : List Value} {n : Nat} {f : Array Value → Array Value} {t' : Nat} (I : Inv X pins σ H s) (hH : H l = some (.lst xs))
    (e : s.heap.get? l = some { cls := .type "list", data := .seq its.toArray n }) (hf : f its.toArray = its'.toArray) (hv : Vals ys its') (hz : ys.length ≤ sizeLine) :
    Inv X pins σ (upd H l (.lst ys)) { s with heap := s.heap.update l (Obj.mapSeq f), toks := t' } := by
  have q := PySem.IsL.update e f
  rw [hf] at q
  refine I.write (x := l) (e := l) (by rw [hH]; exact trivial) (.inl rfl) (fun b' u hb hu => (Heap.get?_update_other s.heap (Obj.mapSeq f) (Ne.symm hb)).trans hu) ⟨_, q⟩ ?_
  exact ⟨hz, its', _, hv, q⟩
theorem Inv.lnew {its : List Value} {t' : Nat} (I : Inv X pins σ H s) (hv : Vals ys its) (hz : ys.length ≤ sizeLine) :
    Inv X pins σ (upd H s.heap.objs.size (.lst ys)) { s with heap := s.heap.push { cls := .type "list", data := .seq its.toArray }, toks := t' } :=
  I.laid (fun _ _ q => Heap.get?_push_of_some _ q) (Nat.le_refl _) ⟨hz, its, 0, hv, Heap.get?_push_size _ rfl⟩
theorem Inv.fresh (I : Inv X pins σ H s) : H s.heap.objs.size = none := I.hok.fresh (Nat.le_refl _)
theorem Inv.lstM (I : Inv X pins σ H s) (hH : H l = some (.lst xs)) : xs.length ≤ sizeLine ∧ ∃ (its : List Value) (n : Nat), Vals xs its ∧ xs.length = its.length ∧ s.heap.get? l = some { cls := .type "list", data := .seq its.toArray n } := by
  obtain ⟨z, its, n, r, e⟩ := I.hok l _ hH
  exact ⟨z, its, n, r, r.length, e⟩

theorem notLongL {n : Nat} (h : n ≤ sizeLine) : Builtin.List.listTooLong n = false := by
  unfold Builtin.List.listTooLong
  exact decide_eq_false (by omega)
end

section
variable {X : Cx}

/-! ### methods -/
def rAppend : V → List V → Hp → VK → Prop := fun x vs H Q => ∃ l xs y, x = .ref l ∧ vs = [y] ∧ H l = some (.lst xs) ∧ xs.length < sizeLine ∧ Q .non (upd H l (.lst (xs ++ [y])))
theorem mt_append : MtM X "list.append" rAppend := by
  intro pins s σ H x vs v us Q I rx rv h
  obtain ⟨l, xs, y, rfl, rfl, hH, hz, q⟩ := h
  cases rx
  obtain ⟨u, rfl, ru⟩ := rv.one
  obtain ⟨z, its, n, r, hl, e⟩ := I.lstM hH
  refine call_meets F.slot_list_append ⟨_, e, rfl⟩ F.entry_list_append (F.args_list_append_2 _ _) (PySem.list_append l its.toArray n u (by rw [List.size_toArray]; omega)) ⟨e, ?_⟩
  refine ⟨.non, _, I.lset (its' := its ++ [u]) hH e (by simp) (r.append (.cons ru .nil)) ?_, rfl, q⟩
  rw [List.length_append, List.length_singleton]
  omega

def rExtend : V → List V → Hp → VK → Prop := fun x vs H Q => ∃ l b xs zs, x = .ref l ∧ vs = [.ref b] ∧ H l = some (.lst xs) ∧ H b = some (.lst zs) ∧ xs.length + zs.length ≤ sizeLine ∧ Q .non (upd H l (.lst (xs ++ zs)))
theorem mt_extend : MtM X "list.extend" rExtend := by
  intro pins s σ H x vs v us Q I rx rv h
  obtain ⟨l, b, xs, zs, rfl, rfl, hH, hB, hz, q⟩ := h
  cases rx
  obtain ⟨u, rfl, ru⟩ := rv.one
  cases ru
  obtain ⟨z, its, n, r, hl, e⟩ := I.lstM hH
  obtain ⟨z2, its2, n2, r2, hl2, e2⟩ := I.lstM hB
  have hsz : its.toArray.size + its2.toArray.size ≤ sizeLine := by rw [List.size_toArray, List.size_toArray]; omega
  have hlong : ¬ (!its.toArray.isEmpty && Builtin.List.listTooLong (its.toArray.size + its2.toArray.size)) = true := by
    rw [notLongL hsz, Bool.and_false]
    exact Bool.false_ne_true
  refine call_meets F.slot_list_extend ⟨_, e, rfl⟩ F.entry_list_extend (F.args_list_extend_2 _ _)
    (AutoSeq1.list_extend_list_list_0 l its.toArray n b its2.toArray n2 hlong (by rw [List.size_toArray]; omega) (by omega)) ⟨e, e2, ?_⟩
  refine ⟨.non, _, I.lset (its' := its ++ its2) hH e (by simp) (r.append r2) ?_, rfl, q⟩
  rw [List.length_append]
  omega

def rPop : V → List V → Hp → VK → Prop := fun x vs H Q => ∃ l xs y, x = .ref l ∧ vs = [] ∧ H l = some (.lst xs) ∧ xs[xs.length - 1]? = some y ∧ Q y (upd H l (.lst xs.dropLast))
theorem mt_pop : MtM X "list.pop" rPop := by
  intro pins s σ H x vs v us Q I rx rv h
  obtain ⟨l, xs, y, rfl, rfl, hH, hy, q⟩ := h
  cases rx
  have hus := rv.zero
  subst hus
  obtain ⟨z, its, n, r, hl, e⟩ := I.lstM hH
  obtain ⟨u, hu, ru⟩ := r.get hy
  have hy' : its.toArray[its.toArray.size - 1]? = some u := by
    show its.toArray[its.length - 1]? = some u
    rw [← Array.getElem?_toList, ← hl]
    exact hu
  refine call_meets F.slot_list_pop ⟨_, e, rfl⟩ F.entry_list_pop (F.args_list_pop_1 _) (MeetsSeq.list_pop_last l its.toArray n u hy' (by rw [List.size_toArray]; omega)) ⟨e, ?_⟩
  refine ⟨y, _, I.lset (its' := its.dropLast) hH e ?_ r.dropLast ?_, ru, q⟩
  · show its.toArray.eraseIdxIfInBounds (its.toArray.size - 1) = its.dropLast.toArray
    rw [List.size_toArray, List.eraseIdxIfInBounds_toArray, erase_last]
  · rw [List.length_dropLast]
    omega

def rPopAt : V → List V → Hp → VK → Prop := fun x vs H Q => ∃ l xs i k y, x = .ref l ∧ vs = [.int i] ∧ H l = some (.lst xs) ∧ -(2 ^ 63) ≤ i ∧ i < 2 ^ 63 ∧ seqIndex? i xs.length = some k ∧ xs[k]? = some y ∧ Q y (upd H l (.lst (xs.eraseIdx k)))
theorem mt_popAt : MtM X "list.pop" rPopAt := by
  intro pins s σ H x vs v us Q I rx rv h
  obtain ⟨l, xs, i, k, y, rfl, rfl, hH, h1, h2, hk, hy, q⟩ := h
  cases rx
  obtain ⟨u, rfl, ru⟩ := rv.one
  obtain ⟨t, rfl⟩ := ru
  obtain ⟨z, its, n, r, hl, e⟩ := I.lstM hH
  obtain ⟨w, hw, rw'⟩ := r.get hy
  refine call_meets F.slot_list_pop ⟨_, e, rfl⟩ F.entry_list_pop (F.args_list_pop_2 _ _)
    (MeetsSeq.list_pop_at l its.toArray n i t k w (fitsIndex_both h1 h2) (by rw [List.size_toArray, ← hl]; exact hk) (by rw [← Array.getElem?_toList]; exact hw) (by rw [List.size_toArray]; omega)) ⟨e, ?_⟩
  refine ⟨y, _, I.lset (its' := its.eraseIdx k) hH e ?_ (r.eraseIdx k) ?_, rw', q⟩
  · show its.toArray.eraseIdxIfInBounds k = (its.eraseIdx k).toArray
    rw [List.eraseIdxIfInBounds_toArray]
  · have := len_erase xs k
    omega

def rReverse : V → List V → Hp → VK → Prop := fun x vs H Q => ∃ l xs, x = .ref l ∧ vs = [] ∧ H l = some (.lst xs) ∧ Q .non (upd H l (.lst xs.reverse))
theorem mt_reverse : MtM X "list.reverse" rReverse := by
  intro pins s σ H x vs v us Q I rx rv h
  obtain ⟨l, xs, rfl, rfl, hH, q⟩ := h
  cases rx
  have hus := rv.zero
  subst hus
  obtain ⟨z, its, n, r, hl, e⟩ := I.lstM hH
  refine call_meets F.slot_list_reverse ⟨_, e, rfl⟩ F.entry_list_reverse (F.args_list_reverse_1 _) (AutoSeq1.list_reverse_list_0 l its.toArray n (by rw [List.size_toArray]; omega)) ⟨e, ?_⟩
  refine ⟨.non, _, I.lset (its' := its.reverse) hH e (by simp) r.reverse ?_, rfl, q⟩
  rw [List.length_reverse]
  omega

def rClear : V → List V → Hp → VK → Prop := fun x vs H Q => ∃ l xs, x = .ref l ∧ vs = [] ∧ H l = some (.lst xs) ∧ Q .non (upd H l (.lst []))
theorem mt_clear : MtM X "list.clear" rClear := by
  intro pins s σ H x vs v us Q I rx rv h
  obtain ⟨l, xs, rfl, rfl, hH, q⟩ := h
  cases rx
  have hus := rv.zero
  subst hus
  obtain ⟨z, its, n, r, hl, e⟩ := I.lstM hH
  refine call_meets F.slot_list_clear ⟨_, e, rfl⟩ F.entry_list_clear (F.args_list_clear_1 _) (AutoSeq1.list_clear_list_0 l its.toArray n (by rw [List.size_toArray]; omega)) ⟨e, ?_⟩
  exact ⟨.non, _, I.lset (its' := []) (ys := []) hH e rfl .nil (Nat.zero_le _), rfl, q⟩

/-! ### list + list, list += list, list * int -/
def rCat : R2 := fun x y H Q => ∃ l b xs zs, x = .ref l ∧ y = .ref b ∧ H l = some (.lst xs) ∧ H b = some (.lst zs) ∧ xs.length + zs.length ≤ sizeLine ∧ ∀ p, H p = none → Q (.ref p) (upd H p (.lst (xs ++ zs)))
theorem op_cat : OpR X (binaryOp .Add) rCat := by
  intro pins s σ H x y v u Q I rx ry h
  obtain ⟨l, b, xs, zs, rfl, rfl, hH, hB, hz, q⟩ := h
  cases rx
  cases ry
  obtain ⟨z, its, n, r, hl, e⟩ := I.lstM hH
  obtain ⟨z2, its2, n2, r2, hl2, e2⟩ := I.lstM hB
  refine PySem.P.add_list e e2 ?_ (by rw [List.size_toArray, List.size_toArray]; omega)
  have ea : its.toArray ++ its2.toArray = (its ++ its2).toArray := by simp
  rw [ea]
  exact ⟨.ref _, _, I.lnew (t' := s.toks) (r.append r2) (by rw [List.length_append]; omega), rfl, q _ I.fresh⟩
/-- a list times an int (a negative one is nothing) -/
def rRep : R2 := fun x y H Q => ∃ l k xs, x = .ref l ∧ y = .int k ∧ H l = some (.lst xs) ∧ -(2 ^ 63) ≤ k ∧ k < 2 ^ 63 ∧ xs.length * k.toNat ≤ sizeLine ∧
  ∀ p, H p = none → Q (.ref p) (upd H p (.lst (List.replicate k.toNat xs).flatten))
theorem len_rep {α : Type} (xs : List α) (k : Nat) : (List.replicate k xs).flatten.length = k * xs.length := by
  induction k with
  | zero => simp
  | succ k ih => rw [List.replicate_succ, List.flatten_cons, List.length_append, ih, Nat.succ_mul, Nat.add_comm]
theorem op_rep : OpR X (binaryOp .Mult) rRep := by
  intro pins s σ H x y v u Q I rx ry h
  obtain ⟨l, k, xs, rfl, rfl, hH, h1, h2, hz, q⟩ := h
  cases rx
  obtain ⟨t, rfl⟩ := ry
  obtain ⟨z, its, n, r, hl, e⟩ := I.lstM hH
  have hlen : its.toArray.size * k.toNat ≤ sizeLine := by rw [List.size_toArray, ← hl]; exact hz
  have hcap : ¬ its.toArray.size * k.toNat > (2 ^ 63 - 1) / 8 := by
    have : (sizeLine : Nat) ≤ (2 ^ 63 - 1) / 8 := by decide
    omega
  have hfit : ¬ (!Builtin.List.listFitsIndex k) = true := by
    rw [fitsIndex_both h1 h2]
    exact Bool.false_ne_true
  have hlong : ¬ Builtin.List.listTooLong (its.toArray.size * k.toNat) = true := by
    rw [notLongL hlen]
    exact Bool.false_ne_true
  have hnew : List.foldl (fun x1 x2 => x1 ++ x2) #[] (List.replicate (if its.toArray.isEmpty = true then 0 else k.toNat) its.toArray) = (List.replicate k.toNat its).flatten.toArray := by
    have f0 : ∀ m : Nat, List.foldl (fun x1 x2 => x1 ++ x2) #[] (List.replicate m its.toArray) = (List.replicate m its).flatten.toArray := fun m => by
      have := foldl_rep its m []
      rw [List.nil_append] at this
      exact this
    rw [f0]
    cases its with
    | nil => simp
    | cons a r' => rw [if_neg (by simp)]
  refine wpAny_binaryOp_repeat_ref (T := "list") (U := "int") (by decide) ⟨_, e, rfl⟩ (fun s' => typeIs_int s' k t) noFill_list_mul F.fills_int_mul F.slot_int_rmul repeat_list F.slot_int_index.lookup
    (call_meets F.slot_int_rmul (typeIs_int s k t) F.entry_int_rmul (F.args_int_rmul_2 _ _) (int___rmul___int_list k t l its.toArray n)
      ⟨e, rfl, ⟨_, e, rfl⟩, call_meets F.slot_list_mul ⟨_, e, rfl⟩ F.entry_list_mul (F.args_list_mul_2 _ _) (AutoListH.list___mul___list_int_3 l its.toArray n k t hfit hcap hlong) ⟨e, ?_⟩⟩)
  rw [hnew]
  exact ⟨.ref _, _, I.lnew (t' := s.toks) (r.rep k.toNat) (by rw [len_rep, Nat.mul_comm]; exact hz), rfl, q _ I.fresh⟩

/-! ### del xs[i] -/
theorem del_list {pins : List (Addr × Obj)} {s : Shared} {σ : St} {H : Hp} {l : Addr} {xs : List V} {i : Int} {t : Tok} {k : Nat} {Q : Unit → Shared → Prop} (I : Inv X pins σ H s) (hH : H l = some (.lst xs))
    (h1 : -(2 ^ 63) ≤ i) (h2 : i < 2 ^ 63) (hk : seqIndex? i xs.length = some k) (h : ∀ s', Inv X pins σ (upd H l (.lst (xs.eraseIdx k))) s' → Q () s') :
    wpAny (model X.prog X.w) X.A (delItem (.ref l) (.int i t)) Q X.xe s := by
  obtain ⟨z, its, n, r, hl, e⟩ := I.lstM hH
  refine PySem.P.delItem_list (k := k) e (fitsIndex_both h1 h2) (by rw [List.size_toArray, ← hl]; exact hk) (h _ ?_) (by rw [List.size_toArray]; omega)
  refine I.lset (its' := its.eraseIdx k) (t' := s.toks) hH e ?_ (r.eraseIdx k) ?_
  · show its.toArray.eraseIdxIfInBounds k = (its.eraseIdx k).toArray
    rw [List.eraseIdxIfInBounds_toArray]
  · have := len_erase xs k
    omega
end

/-! ### xs[a:b] = ys -/
section
variable {prog : Program} {w : World} {A : Around} {E : Value → Shared → Prop} {s : Shared}
theorem splice_eq (its its2 : List Value) (a c : Nat) : its.toArray.extract 0 a ++ its2.toArray ++ its.toArray.extract c its.toArray.size = (its.take a ++ its2 ++ its.drop c).toArray := by
  apply Array.toList_inj.mp
  first
    | (simp
       exact List.take_of_length_le (by simp))
    | simp [List.take_of_length_le]
    | simp
theorem bounds_run {a c n : Nat} (hac : a ≤ c) (hc : c ≤ n) : sliceBounds (some (a : Int)) (some (c : Int)) none n = ((a : Int), (c : Int), 1) := by
  simp only [sliceBounds, Option.getD_none]
  have h1 : ¬ ((a : Int) < 0) := by omega
  have h2 : ¬ ((c : Int) < 0) := by omega
  simp only [h1, h2, if_false, show (1 : Int) > 0 by decide, if_true]
  congr 1
  · omega
  · congr 1; omega
set_option maxRecDepth 100000 in
/-- list.__setitem__ with a slice of step one and another list -/
theorem setItem_slice {l b sl : Addr} {items new : Array Value} {n n2 : Nat} {vl vu : Value} {a c : Nat} {Q : Unit → Shared → Prop}
    (e : s.heap.get? l = some { cls := .type "list", data := .seq items n }) (e2 : s.heap.get? b = some { cls := .type "list", data := .seq new n2 }) (hne : l ≠ b)
    (hs : s.heap.IsSliceOf sl vl vu .none) (pl : IsPart vl (some (a : Int))) (pu : IsPart vu (some (c : Int))) (hac : a ≤ c) (hc : c ≤ items.size)
    (hsz : items.size + new.size ≤ sizeLine) (h : Q () { s with heap := s.heap.update l (Obj.mapSeq fun xs => xs.extract 0 a ++ new ++ xs.extract c xs.size) }) :
    wpAny (model prog w) A (setItem (.ref l) (.ref sl) (.ref b)) Q E s := by
  have hl : s.heap.IsList l items := PySem.IsL.isList e
  have hb : s.heap.IsList b new := PySem.IsL.isList e2
  obtain ⟨os, hos, hcs, hds⟩ := id hs
  have hTs : s.TypeIs (.ref sl) "slice" := ⟨os, hos, hcs⟩
  have hstep : ¬ ((rawPart none == rawInt 0) = true) := Bool.false_ne_true
  have hsame : Builtin.List.listSameRef (.ref l) (.ref b) = false := by
    unfold Builtin.List.listSameRef
    exact beq_eq_false_iff_ne.mpr hne
  have hmax : (max (a : Int) (c : Int)).toNat = c := by omega
  have hz' : ((fun xs : Array Value => xs.extract 0 a ++ new ++ xs.extract c xs.size) items).size ≤ sizeLine + 1 := by
    simp only [Array.size_append, Array.size_extract]
    omega
  unfold setItem
  try with_reducible refine wpAny_holding ?_
  first | refine wpAny_bind (wpAny_pure ?_) | skip
  refine wpAny_bind (wpAny_sequenceKey hl.typeIs (by decide) ?_)
  refine wpAny_bind (wpAny_callSpecial?_slot (name := Str.ofString "__setitem__") hl.typeIs slot_list_setitem
    (wpAny_call_entry slot_list_setitem hl.typeIs entry_list_setitem ?_ (args_list_setitem _ _ _)))
  show wpAny _ _ (Builtin.List.listSubscript? (.ref sl) >>= _) _ _ s
  refine wpAny_bind ?_
  unfold Builtin.List.listSubscript?
  refine wpAny_bind (wpAny_specialOf hTs slice_no_index ?_)
  simp only [Option.isNone_none, if_true]
  refine wpAny_pure ?_
  show wpAny _ _ (typeOf (.ref sl) >>= _) _ _ s
  refine wpAny_bind (wpAny_typeOf hTs ?_)
  first
    | rw [if_neg (by decide)]
    | refine PySem.W.KFB.if_not (by decide) ?_
  rw [listSliceParts_eq]
  refine wpAny_bind (wpAny_bind (wpAny_field hos hds (x := .none) rfl (wpAny_bind (wpAny_listPart .none ?_))))
  rw [if_neg hstep]
  refine wpAny_bind (wpAny_field hos hds (x := vl) rfl (wpAny_bind (wpAny_listPart pl ?_)))
  refine wpAny_bind (wpAny_field hos hds (x := vu) rfl (wpAny_bind (wpAny_listPart pu (wpAny_pure ?_))))
  first
    | simp only [hsame, Bool.false_eq_true, if_false]
    | refine PySem.W.KFB.if_not hsame ?_
    | (dsimp only
       rw [if_neg (by rw [hsame]; exact Bool.false_ne_true)])
  refine wpAny_bind (m := Builtin.List.listAllItems (.ref b) "must assign iterable to extended slice") ?_
  unfold Builtin.List.listAllItems
  refine wpAny_bind (wpAny_typeOf hb.typeIs ?_)
  first
    | refine PySem.W.KFB.if_so (by decide) ?_
    | rw [if_pos (by decide)]
    | simp only [beq_self_eq_true, Bool.true_or, if_true]
  unfold Builtin.List.listItems
  refine wpAny_bind (wpAny_seqItems e2 rfl (wpAny_pure ?_))
  refine wpAny_bind (wpAny_bind (wpAny_seqItems e rfl (wpAny_pure ?_)))
  refine wpAny_bind (wpAny_of_eq ((sliceIndices_raw (some (a : Int)) (some (c : Int)) none items.size (by simp)).trans (congrArg (pure : Int × Int × Int → Sem (Int × Int × Int)) (bounds_run hac hc))) ?_)
  show wpAny _ _ (if ((1 : Int) == 1) = true then _ else _) _ _ s
  rw [if_pos (by decide)]
  refine wpAny_bind (wpAny_rule ?_)
  first
    | simp only [notLongL hsz, Bool.false_eq_true, if_false]
    | refine PySem.W.KFB.if_not (notLongL hsz) ?_
  first | refine wpAny_bind (wpAny_pure ?_) | skip
  show wpAny _ _ (updateSeq l (fun xs => xs.extract 0 ((a : Int)).toNat ++ new ++ xs.extract (max (a : Int) (c : Int)).toNat xs.size) >>= _) _ _ s
  rw [hmax, Int.toNat_natCast]
  refine wpAny_bind (wpAny_updateSeq (hz := Nat.le_trans (Nat.le_add_right _ _) hsz) (_hz' := hz') e rfl ?_)
  refine wpAny_bind (wpAny_letGo ?_)
  first
    | exact wpAny_bind (wpAny_pure (wpAny_pure ⟨.none, rfl, wpAny_pure h⟩))
    | exact wpAny_pure ⟨.none, rfl, wpAny_pure h⟩
end

section
variable {X : Cx}
/-- xs[a:c] = ys of another list, at the value level: sl is the slice object that was just made -/
theorem set_slice {pins : List (Addr × Obj)} {s : Shared} {σ : St} {H : Hp} {l b sl : Addr} {xs ys : List V} {a c : Int} {vl vu : Value} {Q : Unit → Shared → Prop} (I : Inv X pins σ H s)
    (hH : H l = some (.lst xs)) (hB : H b = some (.lst ys)) (hne : l ≠ b) (hs : s.heap.IsSliceOf sl vl vu .none) (ra : RelV (.int a) vl) (rc : RelV (.int c) vu) (h0 : 0 ≤ a) (hac : a ≤ c) (hc : c ≤ xs.length)
    (hz : xs.length + ys.length ≤ sizeLine) (h : ∀ s', Inv X pins σ (upd H l (.lst (xs.take a.toNat ++ ys ++ xs.drop c.toNat))) s' → Q () s') :
    wpAny (model X.prog X.w) X.A (setItem (.ref l) (.ref sl) (.ref b)) Q X.xe s := by
  obtain ⟨ta, rfl⟩ := ra
  obtain ⟨tc, rfl⟩ := rc
  obtain ⟨z, its, n, r, hl, e⟩ := I.lstM hH
  obtain ⟨z2, its2, n2, r2, hl2, e2⟩ := I.lstM hB
  obtain ⟨a', rfl⟩ := Int.eq_ofNat_of_zero_le h0
  obtain ⟨c', rfl⟩ := Int.eq_ofNat_of_zero_le (Int.le_trans h0 hac)
  simp only [Int.toNat_natCast] at h
  refine setItem_slice (a := a') (c := c') e e2 hne hs (.int _ _) (.int _ _) (by omega) (by rw [List.size_toArray]; omega) (by rw [List.size_toArray, List.size_toArray]; omega) (h _ ?_)
  refine I.lset (its' := its.take a' ++ its2 ++ its.drop c') (t' := s.toks) hH e ?_ (Vals.append (Vals.append (r.take _) r2) (r.drop _)) ?_
  · exact splice_eq its its2 a' c'
  · rw [List.length_append, List.length_append, List.length_take, List.length_drop]
    omega
end
end L2

namespace Att
open PySem PySem.W PySem.Calls PyProof.Rows

/-! ### the script -/
theorem ints_of_wellAll {P : Params} {h : Heap} : ∀ (ns : List Int) (vs : List Value), WellAll P h vs (ns.map WData.int) → IntsAre vs ns := by
  intro ns
  induction ns with
  | nil =>
    intro vs w
    rw [List.map_nil] at w
    cases w
    exact .nil
  | cons n ns ih =>
    intro vs w
    rw [List.map_cons] at w
    cases w with
    | cons a b =>
      cases a
      exact .cons _ _ (ih _ b)

theorem script_of {l : OpenLaw} {n : Nat} (hn : l.most = some n) {P : Params} {h : Heap} {args : List WData} {vals : List Value}
    (hpre : l.row.toRowW.claim.pre args = true) (hwl : WellAll P h vals args) :
    ∃ a vs ns, vals = [Value.ref a] ∧ args = [WData.list (ns.map WData.int)] ∧ h.get? a = some { cls := .type "list", data := .seq vs.toArray } ∧ IntsAre vs ns ∧ ns.length ≤ n := by
  have hsh : WShape.hasAll [] args [.list .int] = true := (pre_splitW hpre).1
  have hc : l.pre.holds [] { args := args } = true := (pre_splitW hpre).2
  obtain ⟨d, r, rfl, h1, h2⟩ := hasAllW_cons hsh
  obtain rfl := hasAllW_nil h2
  obtain ⟨xs, rfl, h3⟩ := hasW_list h1
  obtain ⟨ns, rfl⟩ := items_int h3
  have hlen : ns.length ≤ n := by
    unfold OpenLaw.pre at hc
    have h4 : (WTm.not (.lt (.lit (.int (n : Int))) (.len (.arg 0)))).holds [] { args := [.list (ns.map .int)] } = true := by
      have h4 := (holds_andW hc).1
      rw [hn] at h4
      exact h4
    have h5 := condW_of h4 (w_not (w_lt w_lit (w_len_list (w_arg rfl))))
    rw [List.length_map] at h5
    refine Nat.le_of_not_lt fun q => ?_
    have q' : (n : Int) < ((ns.length : Nat) : Int) := by omega
    first
      | (rw [decide_eq_true q'] at h5; exact absurd h5 (by decide))
      | (simp at h5; omega)
  cases hwl with
  | cons w1 w2 =>
    cases w2
    cases w1 with
    | list ho hall => exact ⟨_, _, ns, rfl, rfl, ho, ints_of_wellAll ns _ hall, hlen⟩

theorem post_true (l : OpenLaw) (args : List WData) : l.row.toRowW.claim.post args (.bool true) args = true :=
  postW_of (r := l.row.toRowW) (X := (true == true))
    (show WShape.has [] (.bool true) .bool = true by first | rfl | decide | simp [WShape.has, WShape.arms, WShape.armsAll])
    (show (WTm.eq .res (.lit (.bool true))).value [] { args := args, res := some (.bool true), after := args } = some (.bool (true == true)) from w_eq_bool (w_res rfl) w_lit) rfl

/-! ### the attachment: holds_open's last premise (the goal 'hc' behind k_head) from a wpAny of the law's body -/
theorem attach {l : OpenLaw} {n : Nat} {q : Program} {loose : List Str} {XP : (Str → Option Value) → Heap → Prop} {YP : World → Heap → Prop} {d : DefRec} {x : Str}
    (hn : l.most = some n) (hdf : d.params.defaults = [])
    (hbind : ∀ pm cd doc v : Value, bindArgs (docDef d.name d.params d.body d.scope pm cd doc) ⟨[v], []⟩ = pure [(x, v)])
    (hx : d.scope.names.lookup x = some .local ∨ d.scope.names.lookup x = some .cell)
    (hk : d.scope.kind = .function) (hco : d.scope.isCoroutine = false) (hgen : d.scope.isGenerator = false)
    (body : ∀ (w : World) (s₀ s₁ s : Shared) (mg mb : Str → Option Value) (fa : Addr) (o : Obj) (pm cd doc : Value) (a : Addr) (vs : List Value) (ns : List Int),
      Ground q loose [] XP w s₀ mg mb s₁.heap → YP w s₁.heap →
      s₁.heap.get? fa = some o → o.data = .func (docDef d.name d.params d.body d.scope pm cd doc) → s₁.heap.CodeRec cd d.name → mg d.name = some (.ref fa) →
      s₁.heap.get? a = some { cls := .type "list", data := .seq vs.toArray } → IntsAre vs ns → ns.length ≤ n →
      s.gens = #[] → s.os = s₁.os →
      Fr s₁.heap s₁.heap.objs.size s.heap (bindL (envOfC d.name d.scope s₁.heap.objs.size fa cd).kindOf [(x, .ref a)] fun _ => none) →
      Cl s₁.heap.objs.size (cellsFrom (s₁.heap.objs.size + 1) d.scope.names []) s.heap (bindC (envOfC d.name d.scope s₁.heap.objs.size fa cd).kindOf [(x, .ref a)] fun _ => none) →
      wpAny (model l.prog w) (callerA.deeper (envOfC d.name d.scope s₁.heap.objs.size fa cd)) (execs d.body (envOfC d.name d.scope s₁.heap.objs.size fa cd))
        (fun f s' => f = .ret (.bool true) ∧ OldK s₁.heap s'.heap ∧ s'.os = s₁.os ∧ AllBare s'.gens) (fun _ _ => False) s) :
    WalkO q loose XP YP l.row.toRowW d [] (fun f vs => PySem.call f vs) := by
  intro w s₀ s₁ mg mb G Y fa o pm cd doc dV kV ho hd hcd hD hmg hg args vals as hpre hlay hrd hwl hlo
  obtain rfl : dV = .none := Dflts.none hD hdf
  obtain rfl : kV = .none := Dflts.noKw hD
  obtain ⟨a, vs, ns, rfl, rfl, hobj, hints, hlen⟩ := script_of hn hpre hwl
  refine enter_call ?_
  refine call_cells_ret (o := o) (by rw [depth_caller]; decide) ho (fd_plain hd) G.T.nolimit hcd (hbind pm cd doc (.ref a)) (fun y hy => ?_) (fun h₁ tk F X => ?_) hco hgen hk
  · obtain rfl : y = (x, Value.ref a) := List.mem_singleton.mp hy
    rcases hx with e | e
    · exact .inl e
    · exact .inr ⟨e, cellsFrom_some _ _ _ (.inl e)⟩
  · refine wpAny_mono (body w s₀ s₁ { s₁ with heap := h₁, toks := tk } mg mb fa o pm cd doc a vs ns G Y ho (fd_plain hd) hcd hmg hobj hints hlen hg rfl F X) (fun f s' hq => ?_) (fun _ _ hq => hq)
    obtain ⟨rfl, h2, h3, h4⟩ := hq
    exact ⟨.inl ⟨.bool true, .bool true, [], rfl, fun _ => rfl, .bool true, post_true l _, fun _ => ⟨List.Pairwise.nil, fun _ hm => (nomatch hm)⟩⟩, h2, h3, h4⟩

/-- the same from a codeAny of the CALL (for a layer whose function contracts speak of calls) -/
theorem attach_call {l : OpenLaw} {n : Nat} {q : Program} {loose : List Str} {XP : (Str → Option Value) → Heap → Prop} {YP : World → Heap → Prop} {d : DefRec}
    (hn : l.most = some n) (hdf : d.params.defaults = [])
    (call : ∀ (w : World) (s₀ s₁ : Shared) (mg mb : Str → Option Value) (fa : Addr) (o : Obj) (pm cd doc : Value) (a : Addr) (vs : List Value) (ns : List Int),
      Ground q loose [] XP w s₀ mg mb s₁.heap → YP w s₁.heap →
      s₁.heap.get? fa = some o → o.data = .func (docDef d.name d.params d.body d.scope pm cd doc) → s₁.heap.CodeRec cd d.name → mg d.name = some (.ref fa) →
      s₁.heap.get? a = some { cls := .type "list", data := .seq vs.toArray } → IntsAre vs ns → ns.length ≤ n → s₁.gens = #[] →
      codeAny (model l.prog w) callerA (.call (.ref fa) ⟨[.ref a], []⟩) (fun r s' => r = .ok (.ret (.bool true)) ∧ OldK s₁.heap s'.heap ∧ s'.os = s₁.os ∧ AllBare s'.gens) s₁) :
    WalkO q loose XP YP l.row.toRowW d [] (fun f vs => PySem.call f vs) := by
  intro w s₀ s₁ mg mb G Y fa o pm cd doc dV kV ho hd hcd hD hmg hg args vals as hpre hlay hrd hwl hlo
  obtain rfl : dV = .none := Dflts.none hD hdf
  obtain rfl : kV = .none := Dflts.noKw hD
  obtain ⟨a, vs, ns, rfl, rfl, hobj, hints, hlen⟩ := script_of hn hpre hwl
  refine enter_call (codeAny_mono (call w s₀ s₁ mg mb fa o pm cd doc a vs ns G Y ho (fd_plain hd) hcd hmg hobj hints hlen hg) fun r s' hq => ?_)
  obtain ⟨rfl, h2, h3, h4⟩ := hq
  exact ⟨.inl ⟨.bool true, .bool true, [], rfl, fun _ => rfl, .bool true, post_true l _, fun _ => ⟨List.Pairwise.nil, fun _ hm => (nomatch hm)⟩⟩, h2, h3, h4⟩

/-- the same where the top left finished generators (o_head chose holds_openN): nothing may have changed at all and no generator may be left -/
theorem attachN {l : OpenLaw} {n : Nat} {q : Program} {loose : List Str} {XP : (Str → Option Value) → Heap → Prop} {YP : World → Heap → Prop} {d : DefRec} {x : Str}
    (hn : l.most = some n) (hdf : d.params.defaults = [])
    (hbind : ∀ pm cd doc v : Value, bindArgs (docDef d.name d.params d.body d.scope pm cd doc) ⟨[v], []⟩ = pure [(x, v)])
    (hx : d.scope.names.lookup x = some .local ∨ d.scope.names.lookup x = some .cell)
    (hk : d.scope.kind = .function) (hco : d.scope.isCoroutine = false) (hgen : d.scope.isGenerator = false)
    (body : ∀ (w : World) (s₀ s₁ s : Shared) (mg mb : Str → Option Value) (fa : Addr) (o : Obj) (pm cd doc : Value) (a : Addr) (vs : List Value) (ns : List Int),
      Ground q loose [] XP w s₀ mg mb s₁.heap → YP w s₁.heap →
      s₁.heap.get? fa = some o → o.data = .func (docDef d.name d.params d.body d.scope pm cd doc) → s₁.heap.CodeRec cd d.name → mg d.name = some (.ref fa) →
      s₁.heap.get? a = some { cls := .type "list", data := .seq vs.toArray } → IntsAre vs ns → ns.length ≤ n →
      s.gens = #[] → s.os = s₁.os →
      Fr s₁.heap s₁.heap.objs.size s.heap (bindL (envOfC d.name d.scope s₁.heap.objs.size fa cd).kindOf [(x, .ref a)] fun _ => none) →
      Cl s₁.heap.objs.size (cellsFrom (s₁.heap.objs.size + 1) d.scope.names []) s.heap (bindC (envOfC d.name d.scope s₁.heap.objs.size fa cd).kindOf [(x, .ref a)] fun _ => none) →
      wpAny (model l.prog w) (callerA.deeper (envOfC d.name d.scope s₁.heap.objs.size fa cd)) (execs d.body (envOfC d.name d.scope s₁.heap.objs.size fa cd))
        (fun f s' => f = .ret (.bool true) ∧ (∀ b o, s₁.heap.get? b = some o → s'.heap.get? b = some o) ∧ s'.os = s₁.os ∧ s'.gens = #[]) (fun _ _ => False) s) :
    WalkN q loose XP YP l.row.toRowW d [] (fun f vs => PySem.call f vs) := by
  intro w s₀ s₁ mg mb G Y fa o pm cd doc dV kV ho hd hcd hD hmg hg args vals as hpre hlay hrd hwl hlo
  obtain rfl : dV = .none := Dflts.none hD hdf
  obtain rfl : kV = .none := Dflts.noKw hD
  obtain ⟨a, vs, ns, rfl, rfl, hobj, hints, hlen⟩ := script_of hn hpre hwl
  refine enter_callW ?_
  refine call_cells_ret (o := o) (by rw [depth_caller]; decide) ho (fd_plain hd) G.T.nolimit hcd (hbind pm cd doc (.ref a)) (fun y hy => ?_) (fun h₁ tk F X => ?_) hco hgen hk
  · obtain rfl : y = (x, Value.ref a) := List.mem_singleton.mp hy
    rcases hx with e | e
    · exact .inl e
    · exact .inr ⟨e, cellsFrom_some _ _ _ (.inl e)⟩
  · refine wpAny_mono (body w s₀ s₁ { s₁ with heap := h₁, toks := tk } mg mb fa o pm cd doc a vs ns G Y ho (fd_plain hd) hcd hmg hobj hints hlen hg rfl F X) (fun f s' hq => ?_) (fun _ _ hq => hq)
    obtain ⟨rfl, h2, h3, h4⟩ := hq
    exact ⟨.inl ⟨.bool true, .bool true, [], rfl, fun _ => rfl, .bool true, post_true l _, fun _ => ⟨List.Pairwise.nil, fun _ hm => (nomatch hm)⟩⟩, h2, h3, h4⟩

/-! ### rules over ANY heap (no ledger) from facts about the written part K: the library's own take a ledger (News) for what they write -/
section
variable {prog : Program} {w : World} {A : Around} {E : Value → Shared → Prop} {s : Shared} {K : Frag}

/-- a def of the module, or a method (qual 'C.m'), entered: the frame is the next address; cells behind it -/
theorem call_fn {R : Result → Shared → Prop} {name qual : Str} {params : Arguments} {body : List Stmt} {scope : Scope} {dV kV doc pm cdv ct oc : Value} {an od : Option Addr} {osl : Array (Option Value)} {f : Addr} {args : Args} {binds : List (Str × Value)}
    (X : K.In s.heap) (hlim : s.heap.NoLimit) (ho : K.lookup f = some ⟨oc, od, .func (fnOf name qual params body scope dV kV doc pm an cdv ct), osl⟩) (hcd : codeIn K cdv qual = true) (hroom : A.depth < recursionLimit)
    (hbind : BindsTo s (fnOf name qual params body scope dV kV doc pm an cdv ct) args binds)
    (hkind : (binds.all fun y => scope.names.lookup y.1 == some .local || scope.names.lookup y.1 == some .cell) = true)
    (h : ∀ s₁, InCallC s s.heap.objs.size (bindL (envOfC qual scope s.heap.objs.size f cdv).kindOf binds fun _ => none) (cellsFrom (s.heap.objs.size + 1) scope.names [])
        (bindC (envOfC qual scope s.heap.objs.size f cdv).kindOf binds fun _ => none) s₁ →
      wpAny (model prog w) (A.deeper (envOfC qual scope s.heap.objs.size f cdv)) (execs body (envOfC qual scope s.heap.objs.size f cdv))
        (fun fl s' => R (.ok (.ret (match fl with | .ret v => v | _ => .none))) s')
        (fun e s' => wpAny (model prog w) (A.deeper (envOfC qual scope s.heap.objs.size f cdv)) (leaving (envOfC qual scope s.heap.objs.size f cdv) e) (fun _ s'' => R (.error e) s'') (fun e' s'' => R (.error e') s'') s') s₁)
    (hco : scope.isCoroutine = false) (hgen : scope.isGenerator = false) (hk : scope.kind = .function) : codeAny (model prog w) A (.call (.ref f) args) R s := by
  refine codeAny_call_function hroom (X _ _ ho) rfl hco hgen rfl (codeRec_of X hcd) (hbind _ _ _ _ ?_)
  refine wpAny_newFunctionEnv_cells hk (kindsX hkind _) fun env he s₁ x => ?_
  subst he
  exact ⟨hlim.keeps x.toInCall.keep, codeAny_func (h s₁ x)⟩

/-- C(..): dict at size, instance at size + 1, then __init__ -/
theorem make_obj {R : Result → Shared → Prop} {C fI : Addr} {rest : List Value} {kw : List (Str × Value)}
    (X : K.In s.heap) (hm : makesIn K C = true) (hi : findIn K (.ref C) "__init__" = some (some (.ref fI))) (hf : isFn K (.ref fI) = true)
    (h : codeAny (model prog w) (A.under (.builtin "type.__call__" ⟨.ref C :: rest, kw⟩)) (.call (.ref fI) ⟨.ref (s.heap.objs.size + 1) :: rest, kw⟩) (InitBack (s.heap.objs.size + 1) R)
      { s with heap := (s.heap.push emptyDict).push (instObj C s.heap.objs.size) }) : codeAny (model prog w) A (.call (.ref C) ⟨rest, kw⟩) R s := by
  obtain ⟨hh, g, d, t, os⟩ := s
  exact make_core (makes_of X hm) (looks_findIn X hi) (fun self => bind_fn X self (beq_iff_eq.mp hf)) (.inl rfl) h

/-- x.name where the instance's dict holds the name and the class does not -/
theorem get_field {x C : Addr} {ox : Obj} {es : List DictEntry} {n : Nat} {name : Str} {expr : Bool} {v : Value} {Q : Value → Shared → Prop}
    (X : K.In s.heap) (I : PySem.W.InstAt s.heap x ox C (some (dictOf es n))) (hg : plainGet K C name = true) (hh : hasDictIn K C = true) (ha : findIn K (.ref C) name = some none)
    (hl : getL name es = some (some v)) (hv : handedIn v = true) (h : Q v { s with toks := s.toks + 1 }) : wpAny (model prog w) A (getAttr (.ref x) name expr) Q E s :=
  get_value X I (plainGet_of hg).1 (findObj_own hh ha rfl hl) hv h

/-- x.m(..): the method found in the class -/
theorem get_method {x C f : Addr} {ox : Obj} {es : List DictEntry} {n : Nat} {name : Str} {pl : Sem Bool} {Q : Value × List Value → Shared → Prop}
    (X : K.In s.heap) (I : PySem.W.InstAt s.heap x ox C (some (dictOf es n))) (hg : plainGet K C name = true) (hf : findIn K (.ref C) name = some (some (.ref f))) (ht : isFn K (.ref f) = true)
    (hl : getL name es = some none) (h : Q (.ref f, [.ref x]) s) : wpAny (model prog w) A (getMethod (.ref x) name pl) Q E s :=
  method_fn X I (plainGet_of hg).1 (plainGet_of hg).2 hf (beq_iff_eq.mp ht) (by show (lookIn name (dictOf es n)).map _ = _; rw [lookIn_dict, hl]; rfl) h

/-! the whole heap as the ledger: makes every rule that writes through a ledger a rule over any heap -/
def noObjs (h : Heap) : Heap := { h with objs := #[] }
theorem noObjs_get (h : Heap) (b : Addr) : (noObjs h).get? b = none := by
  cases e : (noObjs h).get? b with
  | none => rfl
  | some o => exact absurd (Heap.lt_size e) (Nat.not_lt_zero _)
def ledger (h : Heap) (L d : Addr) : List (Addr × Obj) := (List.range h.objs.size).filterMap fun a => if a = L ∨ a = d then none else (h.get? a).map fun o => (a, o)
theorem mem_ledger {h : Heap} {L d a : Addr} {o : Obj} : (a, o) ∈ ledger h L d ↔ a ≠ L ∧ a ≠ d ∧ h.get? a = some o := by
  unfold ledger
  rw [List.mem_filterMap]
  constructor
  · rintro ⟨b, _, e⟩
    split at e
    · cases e
    · rename_i hb
      obtain ⟨o', ho, e'⟩ := Option.map_eq_some_iff.mp e
      cases e'
      exact ⟨fun q => hb (.inl q), fun q => hb (.inr q), ho⟩
  · rintro ⟨n1, n2, ho⟩
    refine ⟨a, List.mem_range.mpr (Heap.lt_size ho), ?_⟩
    rw [if_neg (show ¬ (a = L ∨ a = d) from fun q => q.elim n1 n2), ho] <;> rfl
theorem news_ledger {h : Heap} {L d : Addr} {od : Obj} (hne : d ≠ L) (ho : h.get? d = some od) : News (noObjs h) L h ([] ++ (d, od) :: ledger h L d) := by
  rintro ⟨a, o⟩ hp
  rcases List.mem_cons.mp hp with e | hp
  · cases e
    exact ⟨ho, hne, noObjs_get _ _⟩
  · obtain ⟨n1, n2, e⟩ := mem_ledger.mp hp
    exact ⟨e, n1, noObjs_get _ _⟩
theorem fr_all {h : Heap} {L : Addr} {m : Str → Option Value} (n : h.Ns L m) : Fr (noObjs h) L h m :=
  ⟨n, fun b o e => (by rw [noObjs_get] at e; cases e), Nat.zero_le _⟩
/-- Upd of the head entry (for append_K, setItem_K ..) -/
theorem upd_ledger {h : Heap} {L d : Addr} {o o' : Obj} : Upd d o o' ((d, o) :: ledger h L d) ((d, o') :: ledger h L d) :=
  .head fun ⟨_, _⟩ hp => (mem_ledger.mp hp).2.1

/-- x.name = v over any heap: L is any namespace of the heap (the frame's, say): its map stays, its object is not told; all else but the dict stays -/
theorem set_field {x C dx L : Addr} {ox : Obj} {m : Str → Option Value} {es es' : List DictEntry} {n n' : Nat} {name : Str} {v : Value} {Q : Unit → Shared → Prop}
    (X : K.In s.heap) (I : PySem.W.InstAt s.heap x ox C (some (dictOf es n))) (hd : ox.dict = some dx) (hL : s.heap.Ns L m) (hne : dx ≠ L)
    (hs : findIn K (.ref C) "__setattr__" = some (some (.builtin "object.__setattr__"))) (hp : plainOver K C = true) (ht : takerIn K C name = some none) (hh : hasDictIn K C = true) (hl : (getL name es).isSome = true)
    (e : (putL name (PyData.keyHash w.params name) (.str name (s.toks + 1)) v es, putN name es n) = (es', n')) (hz : es'.length ≤ 1000)
    (h : ∀ h' : Heap, h'.Ns L m → h'.get? dx = some (dictOf es' n') → (∀ b o, b ≠ dx → b ≠ L → s.heap.get? b = some o → h'.get? b = some o) → Q () { s with heap := h', toks := s.toks + 2 }) :
    wpAny (model prog w) A (setAttr (.ref x) name v) Q E s := by
  obtain ⟨e1, e2⟩ := Prod.mk.inj e
  have hdx : s.heap.get? dx = some (dictOf es n) := by
    have := I.dict
    rw [hd] at this
    exact this
  refine set_plain X I hs (osa_dict (s := { s with toks := s.toks + 1 }) (h₀ := noObjs s.heap) (L := L) (m := m) (od := dictOf es n) (od' := dictOf es' n') (es := es') (n := n') (pre := []) (post := ledger s.heap L dx)
    (fr_all hL) (news_ledger hne hdx) X I hd hp ht hh hl (fun _ q => nomatch q) (fun ⟨_, _⟩ q => (mem_ledger.mp q).2.1) (by rw [putName_dict, e1, e2]) rfl hz fun h' F' N' => ?_)
  exact h h' F'.ns (N'.get (List.Mem.head _)) fun b o n1 n2 ho => N'.get (List.Mem.tail _ (mem_ledger.mpr ⟨n2, n1, ho⟩))
end
end Att

namespace L2
open PySem PySem.Spec PyProof.Rows

theorem vals_ints : ∀ {vs : List Value} {ns : List Int}, IntsAre vs ns → Vals (ns.map V.int) vs
  | _, _, .nil => .nil
  | _, _, .cons n t h => .cons ⟨t, rfl⟩ (vals_ints h)

/-- nothing is tracked but the script, known to the object (or it is an object of the module) -/
def Only (H : Hp) : Prop := ∀ b, H b = none ∨ ∃ o xs, H b = some (.frz o (.lst xs))

/-- THE HEAD: the law's promise, at the heap behind the top. F, the promise of the law's def, may use that base is part of the heap (so K.In base, base.Ns mainGlobals mg stand in Mod) -/
theorem law_call {P : Program} {w : World} {K : PySem.W.Frag} {mg mb : Str → Option Value} {CX : CXT} {k : Nat} {fa a : Addr} {fd : FuncData} {x : Str} {sp : Sp} {s₁ : Shared} {vs : List Value} {ns : List Int}
    (KX : K.In s₁.heap) (hns : s₁.heap.Ns mainGlobals mg) (hb : s₁.heap.Ns builtinsNs mb) (hbb : ∀ x : Str, x ≠ "__name__" → mb x = bootBuiltins x) (hlim : s₁.heap.NoLimit) (hg : s₁.gens = #[])
    (ha : s₁.heap.get? a = some { cls := .type "list", data := .seq vs.toArray }) (hi : IntsAre vs ns) (hl : ns.length ≤ sizeLine) (hr : Room k callerA)
    (F : ∀ base : Heap, K.In base → base.Ns mainGlobals mg → FnOk P w K mg base CX k fa fd [x] sp) (hbind : ∀ (s : Shared) (u : Value), BindsTo s fd ⟨[u], []⟩ [(x, u)])
    (hsp : ∀ H : Hp, Only H → SqL K H a (ns.map V.int) → sp [.ref a] H (fun v _ => v = .bl true) fun _ _ _ => False)
    (hCX : ∀ H e s', CX [] H s₁ (fun _ _ _ => False) e s' → False) :
    codeAny (model P w) callerA (.call (.ref fa) ⟨[.ref a], []⟩) (fun r s' => r = .ok (.ret (.bool true)) ∧ OldK s₁.heap s'.heap ∧ s'.os = s₁.os ∧ AllBare s'.gens) s₁ := by
  have rv := vals_ints hi
  have lenV := hi.length
  -- from an abstract heap in which nothing but the script may be tracked
  have core : ∀ H : Hp, Only H → SqL K H a (ns.map V.int) → HOk P w H s₁.heap → (∀ b, H b ≠ none → b = a) → (H a ≠ none → K.lookup a = none) →
      codeAny (model P w) callerA (.call (.ref fa) ⟨[.ref a], []⟩) (fun r s' => r = .ok (.ret (.bool true)) ∧ OldK s₁.heap s'.heap ∧ s'.os = s₁.os ∧ AllBare s'.gens) s₁ := by
    intro H hO hS hok hA hK
    have base_of : ∀ {b : Addr} {o : Obj}, s₁.heap.get? b = some o → H b = none → (hidT s₁.heap H).get? b = some o := fun e n => hidT_get e n
    have noA : ∀ {b : Addr} {o : Obj} {es : Array DictEntry} {ep : Nat}, s₁.heap.get? b = some o → o.data = .dict es ep → H b = none := fun {b o es ep} e d => by
      cases q : H b with
      | none => rfl
      | some u =>
        have e' : b = a := hA b (by rw [q]; simp)
        subst e'
        rw [ha] at e; cases e
        have d' : Data.seq vs.toArray _ = Data.dict es ep := d
        cases d'
    have nsK : ∀ {b : Addr} {m : Str → Option Value}, s₁.heap.Ns b m → (hidT s₁.heap H).Ns b m := fun {b m} ⟨o, es, ep, e, d, r⟩ => ⟨o, es, ep, base_of e (noA e d), d, r⟩
    have hKb : K.In (hidT s₁.heap H) := fun b o e => base_of (KX b o e) (by
      cases q : H b with
      | none => rfl
      | some u =>
        have e' : b = a := hA b (by rw [q]; simp)
        subst e'
        rw [hK (by rw [q]; simp)] at e; cases e)
    have hM : Mod K mg (hidT s₁.heap H) := ⟨hKb, nsK hns, ⟨mb, nsK hb, hbb⟩, let ⟨mc, h1, h2⟩ := hlim; ⟨mc, nsK h1, h2⟩⟩
    have e0 : Env0 P w K mg (hidT s₁.heap H) callerA [] s₁ H := ⟨rfl, hM, fun b o e => of_hidT e, Nat.le_of_eq (hidT_size _ _), trivial, fun b hb => absurd (show b ∈ ([] : List Addr) from hb) (by simp), hok, .of_eq hg⟩
    refine codeAny_mono ((F _ hKb (nsK hns)).run callerA [] s₁ H ⟨[.ref a], []⟩ [.ref a] [.ref a] _ _ hr e0 (hbind s₁ (.ref a)) (.cons rfl .nil) (hsp H hO hS)) fun r s' h => ?_
    cases r with
    | error e => exact (hCX H e s' h).elim
    | ok fl =>
      cases fl with
      | next => exact False.elim h
      | brk => exact False.elim h
      | cont => exact False.elim h
      | ret u =>
        obtain ⟨v, H', os, bare, un, hok', r', q⟩ := h
        have q' : v = .bl true := q
        subst q'
        obtain rfl : u = Value.bool true := r'
        refine ⟨rfl, OldK.of_keep fun b o e => ?_, os, bare⟩
        cases q : H b with
        | none => exact un.keep b o e q (by intro z; exact absurd (show b ∈ ([] : List Addr) from z) (by simp)) (by simp)
        | some u =>
          rcases hO b with z | ⟨ob, xs, z⟩
          · rw [q] at z; cases z
          · have z2 := un.frzs b ob _ z
            obtain ⟨e1, _⟩ := hok b _ z
            obtain ⟨e2, _⟩ := hok' b _ z2
            rw [e] at e1; cases e1
            exact e2
  cases hk : K.lookup a with
  | some o =>
    -- the script is one of the module's own objects
    have e := KX a o hk
    rw [ha] at e
    cases e
    refine core (fun _ => none) (fun _ => .inl rfl) (.inr ⟨_, vs.toArray, _, hk, rfl, rfl, rfl, by rw [List.size_toArray, lenV]; exact hl, by simpa using rv⟩) (fun b u z => by have z' : (none : Option HO) = some u := z; cases z') (fun b z => absurd rfl z) fun z => absurd rfl z
  | none =>
    refine core (fun b => if b = a then some (.frz { cls := .type "list", data := .seq vs.toArray } (.lst (ns.map V.int))) else none) (fun b => ?_) (.inl (.inr ⟨{ cls := .type "list", data := .seq vs.toArray }, if_pos rfl⟩)) (fun b u z => ?_) (fun b z => ?_) fun _ => hk
    · by_cases hb : b = a
      · exact .inr ⟨_, _, if_pos hb⟩
      · exact .inl (if_neg hb)
    · by_cases hb : b = a
      · have z' := (if_pos hb).symm.trans z
        cases z'
        subst hb
        exact ⟨ha, by rw [List.length_map]; exact hl, vs, _, rv, ha⟩
      · have z' := (if_neg hb).symm.trans z
        cases z'
    · by_cases hb : b = a
      · exact hb
      · exact absurd (if_neg hb) z
end L2

namespace L2
open PySem PySem.Spec PyProof.Rows

abbrev KOf {K : PySem.W.Frag} {h : Heap} (_ : K.In h) : PySem.W.Frag := K

/-- the goal that k_head leaves (case hc), from the law's promise. F gives the function object fd (K's own) once, then the promise over every base -/
theorem walk_of {l : PySem.W.OpenLaw} {n k : Nat} {q : Program} {loose : List Str} {XP : (Str → Option Value) → Heap → Prop} {YP : World → Heap → Prop} {d : DefRec} {K : Params → PySem.W.Frag} {CX : World → CXT} {sp : World → Sp} {x : Str}
    (hn : l.most = some n) (hn2 : n ≤ sizeLine) (hdf : d.params.defaults = []) (hr : Room k callerA)
    (hY : ∀ (w : World) (h : Heap), YP w h → (K w.params).In h)
    (F : ∀ (w : World) (mg : Str → Option Value) (fa : Addr) (h : Heap), (K w.params).In h → h.Ns mainGlobals mg → mg d.name = some (.ref fa) →
      ∃ fd : FuncData, (∀ (s : Shared) (u : Value), BindsTo s fd ⟨[u], []⟩ [(x, u)]) ∧
        ∀ base : Heap, (K w.params).In base → base.Ns mainGlobals mg → FnOk l.prog w (K w.params) mg base (CX w) k fa fd [x] (sp w))
    (hsp : ∀ (w : World) (H : Hp) (a : Addr) (ns : List Int), ns.length ≤ n → Only H → SqL (K w.params) H a (ns.map V.int) → sp w [.ref a] H (fun v _ => v = .bl true) fun _ _ _ => False)
    (hCX : ∀ (w : World) (H : Hp) (s : Shared) (e : Value) (s' : Shared), CX w [] H s (fun _ _ _ => False) e s' → False) :
    PySem.W.WalkO q loose XP YP l.row.toRowW d [] (fun f vs => PySem.call f vs) := by
  refine Att.attach_call hn hdf fun w s₀ s₁ mg mb fa o pm cd doc a vs ns G Y ho hd hcd hmg hobj hints hlen hg => ?_
  have KX := hY w _ Y
  obtain ⟨fd, hb, hF⟩ := F w mg fa _ KX G.T.g hmg
  exact law_call KX G.T.g G.T.b G.T.builtins G.T.nolimit hg hobj hints (Nat.le_trans hlen hn2) hr hF hb (fun H hO hS => hsp w H a ns hlen hO hS) fun H e s' => hCX w H s₁ e s'
/-- the same where the promise hangs on the written part alone: (sp := My.sp_law), no hole under a binder -/
theorem walk_ofK {l : PySem.W.OpenLaw} {n k : Nat} {q : Program} {loose : List Str} {XP : (Str → Option Value) → Heap → Prop} {YP : World → Heap → Prop} {d : DefRec} {K : Params → PySem.W.Frag} {CX : CXT} {sp : PySem.W.Frag → Sp} {x : Str}
    (hn : l.most = some n) (hn2 : n ≤ sizeLine) (hdf : d.params.defaults = []) (hr : Room k callerA)
    (hY : ∀ (w : World) (h : Heap), YP w h → (K w.params).In h)
    (F : ∀ (w : World) (mg : Str → Option Value) (fa : Addr) (h : Heap), (K w.params).In h → h.Ns mainGlobals mg → mg d.name = some (.ref fa) →
      ∃ fd : FuncData, (∀ (s : Shared) (u : Value), BindsTo s fd ⟨[u], []⟩ [(x, u)]) ∧
        ∀ base : Heap, (K w.params).In base → base.Ns mainGlobals mg → FnOk l.prog w (K w.params) mg base CX k fa fd [x] (sp (K w.params)))
    (hsp : ∀ (K : PySem.W.Frag) (H : Hp) (a : Addr) (ns : List Int), ns.length ≤ n → Only H → SqL K H a (ns.map V.int) → sp K [.ref a] H (fun v _ => v = .bl true) fun _ _ _ => False)
    (hCX : ∀ (H : Hp) (s : Shared) (e : Value) (s' : Shared), CX [] H s (fun _ _ _ => False) e s' → False) :
    PySem.W.WalkO q loose XP YP l.row.toRowW d [] (fun f vs => PySem.call f vs) :=
  walk_of (K := K) (CX := fun _ => CX) (sp := fun w => sp (K w.params)) hn hn2 hdf hr hY F (fun w H a ns h1 h2 h3 => hsp (K w.params) H a ns h1 h2 h3) fun _ H s e s' => hCX H s e s'
end L2

/- THE LAST THEOREM (shape; LID, My.* are yours):
   My.Adr: a structure of the addresses that your layer names (classes, functions); My.Txt K t: a structure (Prop) of the equations over K;
   My.txt_mk : {K} {implicit addresses ..} (e1 : nsIn K mainGlobals "law" = some (some (.ref f))) (e2 : K.lookup f = some ⟨oc, od, .func (fnOf "law" "law" params body scope dV kV doc pm an cdv ct), sl⟩) (e3 : codeIn K cdv "law" = true) .. : ∃ t, My.Txt K t

set_option maxRecDepth 100000 in
set_option maxHeartbeats 0 in
theorem PySem.Challenge.cw_LID_holds : PySem.Challenge.rw_LID.Holds := by
  w_on; o_law; k_head; (case hw => w_witness2)
  k_fill
  refine L2.walk_of (l := PySem.Challenge.rw_LID) (n := 63) (k := 40) (x := "script") (CX := fun w => ..) (sp := fun _ => My.sp_law) rfl (by decide) rfl ⟨rfl, by decide, by decide⟩ (fun w h Y => PySem.W.kIn_of Y) ?F ?S ?C
  case F =>
    intro w mg fa h KX G hmg
    have T : ∃ t, My.Txt (L2.KOf KX) t := by
      dsimp only [L2.KOf]                          -- K must stand as «<heap const> w.params» for k_is
      refine' My.txt_mk ?e1 ?e2 ?e3 ..
      (case e1 => PySem.W.k_is)                    -- in the order: a name -> its address -> its object -> its parts
      (case e2 => PySem.W.k_is)
      ..
    obtain ⟨t, T⟩ := T
    have e0 := hmg.symm.trans (PySem.W.mg_of KX G T.law)
    cases e0                                       -- fa is the law's own address
    exact ⟨_, fun s u => .of_eq rfl, fun base kb nb => My.law_fn T kb nb⟩     -- if «.of_eq rfl» comes too early: refine' ⟨_, ?b, fun base kb nb => My.law_fn T kb nb⟩; exact fun s u => .of_eq rfl
  case S => exact fun w H a ns hl hO hS => ..
  case C => exact ..
(the tactic k_is has no namespace: write k_is) -/

/-! SHORT WORDS over the layer: a def of the text, its body, what a loop and a test want. -/
namespace L2
open PySem PySem.Spec PyProof.Rows

/-! ### the text by places -/
/-- the j-th statement of a class's body -/
def inClass (s : Stmt) (j : Nat) : Stmt := match s with
  | .ClassDef _ _ _ body _ _ _ _ _ _ _ => body.getD j (.Pass ⟨0, 0, 0, 0⟩)
  | _ => .Pass ⟨0, 0, 0, 0⟩
def defArgs (s : Stmt) : Arguments := match s with
  | .FunctionDef _ a _ _ _ _ _ _ _ _ => a
  | _ => { posonlyargs := [], args := [], vararg := none, kwonlyargs := [], kw_defaults := [], kwarg := none, defaults := [] }
def defBody (s : Stmt) : List Stmt := match s with
  | .FunctionDef _ _ b _ _ _ _ _ _ _ => b
  | _ => []
def defScope (s : Stmt) : Scope := match s with
  | .FunctionDef _ _ _ _ _ _ sc _ _ _ => sc
  | _ => { kind := .function, names := [], isGenerator := false, isCoroutine := false }

/-! ### no exception leaves a def -/
abbrev CX0 : CXT := fun _ _ _ _ _ _ => False
abbrev E0 : XK := fun _ _ _ => False
theorem pass0 {X : Cx} : Passes CX0 X E0 := fun _ _ _ _ _ _ _ h => h.elim

/-! ### a def (or method) of the text as it stands behind the top -/
structure Fun (K : PySem.W.Frag) (x qual : Str) (st : Stmt) (f : Addr) (fd : FuncData) : Prop where
  ex : ∃ (oc : Value) (od : Option Addr) (kV doc pm : Value) (an : Option Addr) (cdv ct : Value) (osl : Array (Option Value)),
    fd = PySem.W.fnOf x qual (defArgs st) (defBody st) (defScope st) .none kV doc pm an cdv ct ∧ K.lookup f = some ⟨oc, od, .func fd, osl⟩ ∧ PySem.W.codeIn K cdv qual = true
  kp : PySem.W.keepIn K (.ref f) = true
section
variable {P : Program} {w : World} {K : PySem.W.Frag} {mg : Str → Option Value} {base : Heap}
/-- THE RULE for a def: its body as a term of rules, and the reading of that term -/
theorem Fun.ok {x qual : Str} {st : Stmt} {f : Addr} {fd : FuncData} {N ps : List Str} {k : Nat} {sp : Sp} (F : Fun K x qual st f fd) (S : FnScope N ps (defScope st)) (len : ∀ vs H Q E, sp vs H Q E → vs.length = ps.length)
    (hbody : ∀ (cdv : Value) (A : Around) (outer : List Env) (s : Shared) (H : Hp) (vs : List V) (Q : VK) (E : XK), Room k (A.deeper (envOfC qual (defScope st) s.heap.objs.size f cdv)) → sp vs H Q E →
      ∃ t, PSs (cxOf CX0 P w K mg base N qual (defScope st) f cdv A outer s H E).nox (defBody st) t ∧ t { nx := fun _ H' => Q .non H', rt := Q } (start N vs) H) : FnOk P w K mg base CX0 (k + 1) f fd ps sp := by
  obtain ⟨oc, od, kV, doc, pm, an, cdv, ct, osl, rfl, lk, hcd⟩ := F.ex
  refine fn_of lk hcd S len fun A outer s H vs Q E hr hsp => ?_
  obtain ⟨t, h, q⟩ := hbody cdv A outer s H vs Q E hr hsp
  exact ⟨t, h.nox, q⟩
/-- how its arguments bind (no defaults): h is «fun _ _ _ _ _ _ us hl => match us, hl with | [_, _], _ => rfl», one _ a parameter -/
theorem Fun.binds {x qual : Str} {st : Stmt} {f : Addr} {fd : FuncData} {ps : List Str} (F : Fun K x qual st f fd)
    (h : ∀ (kV doc pm : Value) (an : Option Addr) (cdv ct : Value) (us : List Value), us.length = ps.length → bindArgs (PySem.W.fnOf x qual (defArgs st) (defBody st) (defScope st) .none kV doc pm an cdv ct) ⟨us, []⟩ = pure (ps.zip us)) : Binds K fd ps [] := by
  obtain ⟨oc, od, kV, doc, pm, an, cdv, ct, osl, rfl, lk, hcd⟩ := F.ex
  exact .all (h kV doc pm an cdv ct)
theorem fun_mk {x qual : Str} {st : Stmt} {f : Addr} {oc : Value} {od an : Option Addr} {osl : Array (Option Value)} {kV doc pm cdv ct : Value} (l : K.lookup f = some ⟨oc, od, .func (PySem.W.fnOf x qual (defArgs st) (defBody st) (defScope st) .none kV doc pm an cdv ct), osl⟩)
    (c : PySem.W.codeIn K cdv qual = true) (k : PySem.W.keepIn K (.ref f) = true) : Fun K x qual st f (PySem.W.fnOf x qual (defArgs st) (defBody st) (defScope st) .none kV doc pm an cdv ct) := ⟨⟨oc, od, kV, doc, pm, an, cdv, ct, osl, rfl, l, c⟩, k⟩
end
theorem hu_of {A : Around} {k : Nat} (hr : Room k A) : A.units + 1 < cLine := Nat.lt_of_le_of_lt (Nat.add_le_add_left (by decide : 1 ≤ 64) _) hr.units
theorem small1000 {n : Nat} (h : n ≤ 1000) : n < sizeLine := Nat.lt_of_le_of_lt h (by decide)

/-! ### expressions in short: the name that stands in the i-th slot -/
section
variable {X : Cx}
theorem pv (i : Nat) {x : Str} {pos : Pos} (hN : X.N[i]? = some x := by rfl) (hv : Vis X.env.scope x := by first | exact Or.inl rfl | exact Or.inr (Or.inl rfl) | exact Or.inr (Or.inr rfl)) (hd : (x == ("__debug__" : Str)) = false := by decide)
    (hcd : (x == ("__classdict__" : Str)) = false := by decide) : PE X (.Name x pos) (tVar i) := pe_var hN hv hd hcd
/-- len of a dict -/
theorem call_lenD : CallR X (.builtin "len") (fun xs H Q => ∃ a kvs, xs = [V.ref a] ∧ H a = some (.dK kvs) ∧ Q (.int kvs.length) H) := by
  intro pins s σ H xs us Q I r h
  obtain ⟨a, kvs, rfl, ha, q⟩ := h
  obtain ⟨u, rfl, ru⟩ := vals1 r
  cases ru
  exact d_len I (.inl ha) fun t s' I' => ⟨.int kvs.length, H, I', ⟨t, rfl⟩, q⟩
end

/-! ### tests -/
theorem iteF {A B : Prop} (h : B) : if false = true then A else B := by
  rw [if_neg Bool.false_ne_true]
  exact h
theorem iteT {A B : Prop} (h : A) : if true = true then A else B := by
  rw [if_pos rfl]
  exact h
theorem ite2 {c A B : Prop} [Decidable c] (h1 : c → A) (h2 : ¬ c → B) : if c then A else B := by
  by_cases h : c
  · rw [if_pos h]
    exact h1 h
  · rw [if_neg h]
    exact h2 h
theorem iteNS {c A B : Prop} [Decidable c] (hc : c) (h : B) : if (!decide c) = true then A else B := by
  rw [decide_eq_true hc]
  exact iteF h

/-! ### heaps -/
/-- all that was tracked is as it was -/
def Same (H H' : Hp) : Prop := ∀ b o, H b = some o → H' b = some o
theorem Same.refl (H : Hp) : Same H H := fun _ _ h => h
theorem Same.trans {H H1 H2 : Hp} (a : Same H H1) (b : Same H1 H2) : Same H H2 := fun c o h => b c o (a c o h)
theorem Same.free {H H' : Hp} (e : Same H H') {l : Addr} (h : H' l = Option.none) : H l = Option.none := by
  cases q : H l with
  | none => rfl
  | some o =>
    rw [e l o q] at h
    cases h
theorem Same.seq {K : PySem.W.Frag} {H H' : Hp} {a : Addr} {xs : List V} (e : Same H H') (h : SqL K H a xs) : SqL K H' a xs := by
  rcases h with (h | ⟨o, h⟩) | h
  · exact .inl (.inl (e _ _ h))
  · exact .inl (.inr ⟨o, e _ _ h⟩)
  · exact .inr h

/-! ### a dict's pairs: keys that differ -/
section
variable {κ : Type} [DecidableEq κ]
theorem valV_not {kvs : List (κ × V)} {k : κ} (h : valV kvs k = none) : ¬ k ∈ kvs.map (·.1) := by
  intro m
  obtain ⟨p, hp, e⟩ := List.mem_map.mp m
  have q : (kvs.any fun kv => decide (kv.1 = k)) = true := List.any_eq_true.mpr ⟨p, hp, decide_eq_true e⟩
  rw [valV_any, h] at q
  exact absurd q (by simp)
theorem valV_in {kvs : List (κ × V)} {k : κ} {v : V} (h : valV kvs k = some v) : k ∈ kvs.map (·.1) := by
  have q : (kvs.any fun kv => decide (kv.1 = k)) = true := by
    rw [valV_any, h]
    all_goals rfl
  obtain ⟨p, hp, e⟩ := List.any_eq_true.mp q
  exact List.mem_map.mpr ⟨p, hp, of_decide_eq_true e⟩
theorem nd_snoc : ∀ {l : List κ} {k : κ}, l.Nodup → ¬ k ∈ l → (l ++ [k]).Nodup
  | [], k, _, _ => by simp
  | a :: r, k, h, hk => by
    obtain ⟨h1, h2⟩ := List.nodup_cons.mp h
    show (a :: (r ++ [k])).Nodup
    refine List.nodup_cons.mpr ⟨fun m => ?_, nd_snoc h2 fun m => hk (List.mem_cons.mpr (Or.inr m))⟩
    rcases List.mem_append.mp m with q | q
    · exact h1 q
    · exact hk (List.mem_cons.mpr (Or.inl (List.mem_singleton.mp q).symm))
theorem nd_putK {kvs : List (κ × V)} {k : κ} (v : V) (hn : (kvs.map (·.1)).Nodup) (h : valV kvs k = none) : ((putK kvs k v).map (·.1)).Nodup := by
  rw [putK_new v h, List.map_append]
  exact nd_snoc hn (valV_not h)
theorem dropK_pos {p : κ × V} {r : List (κ × V)} {k : κ} (e : p.1 = k) : dropK (p :: r) k = dropK r k := by
  unfold dropK
  rw [List.filter_cons, if_neg (by simp [e])]
theorem dropK_neg {p : κ × V} {r : List (κ × V)} {k : κ} (e : ¬ p.1 = k) : dropK (p :: r) k = p :: dropK r k := by
  unfold dropK
  rw [List.filter_cons, if_pos (by simp [e])]
theorem dropK_no : ∀ {kvs : List (κ × V)} {k : κ}, ¬ k ∈ kvs.map (·.1) → dropK kvs k = kvs
  | [], _, _ => rfl
  | p :: r, k, h => by
    have h' : ¬ k ∈ r.map (·.1) := fun m => by
      obtain ⟨q, hq, e⟩ := List.mem_map.mp m
      exact h (List.mem_map.mpr ⟨q, List.mem_cons.mpr (Or.inr hq), e⟩)
    rw [dropK_neg fun e => h (List.mem_map.mpr ⟨p, List.mem_cons.mpr (Or.inl rfl), e⟩), dropK_no h']
theorem dropK_mem {kvs : List (κ × V)} {k : κ} {p : κ × V} (h : p ∈ dropK kvs k) : p ∈ kvs := (List.mem_filter.mp h).1
theorem nd_dropK : ∀ {kvs : List (κ × V)} {k : κ}, (kvs.map (·.1)).Nodup → ((dropK kvs k).map (·.1)).Nodup
  | [], _, _ => List.nodup_nil
  | p :: r, k, h => by
    have h : (p.1 :: r.map (·.1)).Nodup := h
    obtain ⟨h1, h2⟩ := List.nodup_cons.mp h
    by_cases e : p.1 = k
    · rw [dropK_pos e]
      exact nd_dropK h2
    · rw [dropK_neg e]
      show (p.1 :: (dropK r k).map (·.1)).Nodup
      refine List.nodup_cons.mpr ⟨fun m => h1 ?_, nd_dropK h2⟩
      obtain ⟨q, hq, eq⟩ := List.mem_map.mp m
      exact List.mem_map.mpr ⟨q, dropK_mem hq, eq⟩
theorem dropK_len : ∀ {kvs : List (κ × V)} {k : κ}, (kvs.map (·.1)).Nodup → k ∈ kvs.map (·.1) → (dropK kvs k).length + 1 = kvs.length
  | [], _, _, m => by simp at m
  | p :: r, k, h, m => by
    have h : (p.1 :: r.map (·.1)).Nodup := h
    have m : k = p.1 ∨ k ∈ r.map (·.1) := List.mem_cons.mp m
    obtain ⟨h1, h2⟩ := List.nodup_cons.mp h
    by_cases e : p.1 = k
    · subst e
      rw [dropK_pos rfl, dropK_no h1]
      all_goals rfl
    · have m' : k ∈ r.map (·.1) := m.resolve_left fun z => e z.symm
      have q := dropK_len h2 m'
      rw [dropK_neg e, List.length_cons, List.length_cons]
      omega
end
end L2

set_option Elab.async false
set_option linter.all false
set_option maxRecDepth 100000
namespace L2
open PySem PySem.Spec PyProof.Rows

/-! ### a list comprehension of one clause -/
section
variable {prog : Program} {w : World} {A : Around} {R : Result → Shared → Prop} {s : Shared}
theorem compLoop_any {elt target iter : Expr} {ifs : List Expr} {scope : Scope} {pos : Pos} {it acc : Value} {env : Env} (I : Nat → Shared → Prop)
    (turn : ∀ n s, I n s → wpAny (model prog w) A (pyNext it) (fun r s₁ => match r with
      | none => R (.ok .next) s₁
      | some v => wpAny (model prog w) A (letOwnedTupleGo target it v) (fun _ s₂ => wpAny (model prog w) A (assign target env v) (fun _ s₂ =>
          wpAny (model prog w) A (forIn ifs true fun c r => if r = true then do let ok ← isTrue c env (eval c env); pure (ForInStep.yield ok) else pure (ForInStep.yield r)) (fun ok s₃ =>
            if ok = true then wpAny (model prog w) A (eval elt env) (fun x s₄ =>
              wpAny (model prog w) A (call (.builtin "list.append") [acc, x]) (fun _ s₅ => ∃ m, m < n ∧ I m s₅) (fun _ _ => False) s₄) (fun _ _ => False) s₃
            else ∃ m, m < n ∧ I m s₃) (fun _ _ => False) s₂) (fun _ _ => False) s₂) (fun _ _ => False) s₁) (fun _ _ => False) s)
    (n : Nat) (h : I n s) :
    codeAny (model prog w) A (.compLoop (.ListComp elt [⟨target, iter, ifs, 0⟩] scope pos) 0 it acc env) R s := by
  refine codeAny_loop rfl I (fun n s hI => ?_) n h
  show wpAny _ A ((compTurn (.ListComp elt [⟨target, iter, ifs, 0⟩] scope pos) 0 it acc env).onRaise (fun x => do noteFrame x env; theTreesLotGoes x)) _ _ s
  refine wpAny_noted ?_
  rw [compTurn_list]
  refine wpAny_bind (wpAny_standAt (wpAny_bind (wpAny_mono (turn n s hI) (fun r s₁ h₁ => ?_) fun _ _ h' => h'.elim)))
  cases r with
  | none => exact wpAny_pure h₁
  | some v =>
    refine wpAny_bind (wpAny_mono h₁ (fun _ s₁' h₁ => ?_) fun _ _ h' => h'.elim)
    refine wpAny_bind (wpAny_mono h₁ (fun _ s₂ h₂ => wpAny_bind (wpAny_mono h₂ (fun ok s₃ h₃ => ?_) fun _ _ h' => h'.elim)) fun _ _ h' => h'.elim)
    cases ok with
    | false => exact wpAny_pure ⟨rfl, h₃⟩
    | true =>
      exact wpAny_bind (wpAny_bind (wpAny_mono h₃ (fun x s₄ h₄ => wpAny_bind (wpAny_mono h₄ (fun _ s₅ h₅ => wpAny_pure (wpAny_pure ⟨rfl, h₅⟩)) fun _ _ h' => h'.elim)) fun _ _ h' => h'.elim))
end

/-- the free names' cells -/
theorem closure_ok {env : Env} : ∀ (names : List (Str × NameKind)) (cs : List (Str × Addr)), (∀ y ∈ names, y.2 = .free → ∃ c, env.cells.lookup y.1 = some c) → ∃ cl : List (Str × Addr),
    (forIn names cs fun x r => (match x, r with | (name, kind), cs => if (kind == NameKind.free) = true then do let c ← cellOf env name; pure (ForInStep.yield ((name, c) :: cs)) else pure (ForInStep.yield cs)) : Sem (List (Str × Addr))) = pure cl ∧
    (∀ x c, cl.lookup x = some c → cs.lookup x = some c ∨ env.cells.lookup x = some c) ∧ (∀ x c, cs.lookup x = some c → ∃ c', cl.lookup x = some c') ∧ ∀ y ∈ names, y.2 = .free → ∃ c, cl.lookup y.1 = some c := by
  intro names
  induction names with
  | nil => intro cs _; exact ⟨cs, rfl, fun _ _ h => .inl h, fun x c h => ⟨c, h⟩, fun _ h => nomatch h⟩
  | cons y r ih =>
    intro cs h
    obtain ⟨n, k⟩ := y
    have hr : ∀ y ∈ r, y.2 = .free → ∃ c, env.cells.lookup y.1 = some c := fun y hy => h y (List.mem_cons_of_mem _ hy)
    by_cases hk : k = .free
    · subst hk
      obtain ⟨c, hc⟩ := h (n, .free) List.mem_cons_self rfl
      obtain ⟨cl, e, h1, h2, h3⟩ := ih ((n, c) :: cs) hr
      refine ⟨cl, ?_, fun x d hx => ?_, fun x d hx => ?_, fun y hy hf => ?_⟩
      · rw [List.forIn_cons]
        have hcell : cellOf env n = (pure c : Sem Addr) := by simp only [cellOf, hc]
        simp only [beq_self_eq_true, if_true, hcell]
        simpa using e
      · rcases h1 x d hx with z | z
        · rw [List.lookup_cons] at z
          by_cases hxn : (x == n) = true
          · rw [hxn] at z; simp at z; subst z
            have : x = n := by simpa using hxn
            subst this; exact .inr hc
          · rw [Bool.not_eq_true] at hxn; rw [hxn] at z; exact .inl z
        · exact .inr z
      · by_cases hxn : (x == n) = true
        · exact h2 x c (by rw [List.lookup_cons, hxn])
        · rw [Bool.not_eq_true] at hxn
          exact h2 x d (by rw [List.lookup_cons, hxn]; exact hx)
      · rcases List.mem_cons.mp hy with z | z
        · subst z; exact h2 n c (by rw [List.lookup_cons]; simp)
        · exact h3 y z hf
    · have hb : (k == NameKind.free) = false := by simpa using hk
      obtain ⟨cl, e, h1, h2, h3⟩ := ih cs hr
      refine ⟨cl, ?_, h1, h2, fun y hy hf => ?_⟩
      · rw [List.forIn_cons]
        simp only [hb, Bool.false_eq_true, if_false]
        simpa using e
      · rcases List.mem_cons.mp hy with z | z
        · subst z; exact absurd hf hk
        · exact h3 y z hf

theorem closureFor_ok {scope : Scope} {env : Env} (h : ∀ y ∈ scope.names, y.2 = .free → ∃ c, env.cells.lookup y.1 = some c) : ∃ cl : List (Str × Addr), closureFor scope env = pure cl ∧
    (∀ x c, cl.lookup x = some c → env.cells.lookup x = some c) ∧ ∀ y ∈ scope.names, y.2 = .free → ∃ c, cl.lookup y.1 = some c := by
  obtain ⟨cl, e, h1, _, h3⟩ := closure_ok (env := env) scope.names [] h
  refine ⟨cl, ?_, fun x c hx => (h1 x c hx).elim (fun z => nomatch z) id, h3⟩
  simp only [closureFor]
  rw [e]
  rfl
theorem relabel_kind {scope : Scope} {env : Env} (hcell : ∀ y ∈ scope.names, y.2 ≠ .cell) {x : Str} (h : (relabel scope env).names.lookup x = some .cell ∨ (relabel scope env).names.lookup x = some .free) : ∃ y ∈ scope.names, y.1 = x ∧ y.2 = .free := by
  have key : ∀ (l : List (Str × NameKind)), (∀ y ∈ l, y.2 ≠ .cell) → ((l.map fun (n, k) => if (k == NameKind.free && env.scope.kind == .function && env.kindOf n == some .cell) then (n, NameKind.cell) else (n, k)).lookup x = some .cell ∨
      (l.map fun (n, k) => if (k == NameKind.free && env.scope.kind == .function && env.kindOf n == some .cell) then (n, NameKind.cell) else (n, k)).lookup x = some .free) → ∃ y ∈ l, y.1 = x ∧ y.2 = .free := by
    intro l
    induction l with
    | nil => intro _ h; rcases h with h | h <;> simp at h
    | cons y r ih =>
      intro hc h
      obtain ⟨n, k⟩ := y
      have hr : ∀ y ∈ r, y.2 ≠ .cell := fun y hy => hc y (List.mem_cons_of_mem _ hy)
      have hk : k ≠ .cell := hc (n, k) List.mem_cons_self
      by_cases hb : (k == NameKind.free && env.scope.kind == .function && env.kindOf n == some .cell) = true
      · have kf : k = .free := by simp at hb; exact hb.1.1
        by_cases hx : (x == n) = true
        · have : x = n := by simpa using hx
          exact ⟨(n, k), List.mem_cons_self, this.symm, kf⟩
        · rw [Bool.not_eq_true] at hx
          simp only [List.map_cons, hb, if_true, List.lookup_cons, hx] at h
          obtain ⟨y, hy, z⟩ := ih hr h
          exact ⟨y, List.mem_cons_of_mem _ hy, z⟩
      · rw [Bool.not_eq_true] at hb
        by_cases hx : (x == n) = true
        · have e : x = n := by simpa using hx
          simp only [List.map_cons, hb, List.lookup_cons, hx, Bool.false_eq_true, if_false] at h
          rcases h with h | h
          · exact absurd (Option.some.inj h) hk
          · exact ⟨(n, k), List.mem_cons_self, e.symm, Option.some.inj h⟩
        · rw [Bool.not_eq_true] at hx
          simp only [List.map_cons, hb, List.lookup_cons, hx, Bool.false_eq_true, if_false] at h
          obtain ⟨y, hy, z⟩ := ih hr h
          exact ⟨y, List.mem_cons_of_mem _ hy, z⟩
  exact key scope.names hcell h

/-- the context of a comprehension's block -/
def compCx (X : Cx) (N : List Str) (scope : Scope) (cl : List (Str × Addr)) (C : Addr) (s : Shared) (H : Hp) (fp : List Addr) : Cx where
  prog := X.prog
  w := X.w
  K := X.K
  mg := X.mg
  base := X.base
  A := X.A
  N := N
  s₀ := s
  H₀ := H
  env := compEnvC scope cl C X.env
  outer := X.stack
  stack := X.stack
  ex := fp
  fn := fun _ => false
  calm := X.calm
  pn := []
  xe := fun _ _ => False

/-- what is asked of a comprehension's scope: own names (local), the outer ones (free), at these slots of the outer body -/
structure CompScope (X : Cx) (own fre : List Str) (ix : List Nat) (scope : Scope) : Prop where
  kind : scope.kind = .function
  cell : ∀ y ∈ scope.names, y.2 ≠ .cell
  loc : ∀ y ∈ scope.names, y.2 = .local → scope.names.lookup y.1 = some .local
  fr : ∀ y ∈ scope.names, y.2 = .free → X.env.kindOf y.1 = some .cell ∨ X.env.kindOf y.1 = some .free
  len : fre.length = ix.length
  at_ : ∀ (j : Nat) (i : Nat) (x : Str), fre[j]? = some x → ix[j]? = some i → X.N[i]? = some x ∧ (X.env.kindOf x = some .cell ∨ X.env.kindOf x = some .free)
  vis : ∀ x ∈ fre, (relabel scope X.env).names.lookup x = some .cell ∨ (relabel scope X.env).names.lookup x = some .free
/-- .. as a check; sc: the outer body's scope -/
def relabelS (scope sc : Scope) : Scope :=
  { scope with names := scope.names.map fun (n, k) => if (k == .free && sc.kind == .function && sc.names.lookup n == some .cell) then (n, .cell) else (n, k) }
def cellOrFree (o : Option NameKind) : Bool := o == some .cell || o == some .free
theorem cellOrFree_iff {o : Option NameKind} (h : cellOrFree o = true) : o = some .cell ∨ o = some .free := by
  simpa [cellOrFree] using h
def compOk (sc : Scope) (N own fre : List Str) (ix : List Nat) (scope : Scope) : Bool :=
  (scope.kind == .function) && (scope.names.all fun y => y.2 != .cell) && (scope.names.all fun y => y.2 != .local || scope.names.lookup y.1 == some .local) &&
  (scope.names.all fun y => y.2 != .free || cellOrFree (sc.names.lookup y.1)) && (fre.length == ix.length) && ((fre.zip ix).all fun p => N[p.2]? == some p.1 && cellOrFree (sc.names.lookup p.1)) &&
  fre.all fun x => cellOrFree ((relabelS scope sc).names.lookup x)
theorem CompScope.mk' {X : Cx} {N own fre : List Str} {ix : List Nat} {scope sc : Scope} (hs : X.env.scope = sc) (hN : X.N = N) (h : compOk sc N own fre ix scope = true) : CompScope X own fre ix scope := by
  simp only [compOk, Bool.and_eq_true] at h
  obtain ⟨⟨⟨⟨⟨⟨h1, h2⟩, h3⟩, h4⟩, h5⟩, h6⟩, h7⟩ := h
  subst hs
  subst hN
  refine ⟨by simpa using h1, fun y hy => ?_, fun y hy hl => ?_, fun y hy hl => ?_, by simpa using h5, fun j i x e1 e2 => ?_, fun x hx => ?_⟩
  · have := List.all_eq_true.mp h2 y hy
    simpa using this
  · have := List.all_eq_true.mp h3 y hy
    rw [hl] at this
    simpa using this
  · have := List.all_eq_true.mp h4 y hy
    rw [hl] at this
    exact cellOrFree_iff (show cellOrFree (X.env.scope.names.lookup y.1) = true by simpa using this)
  · have hz : (x, i) ∈ fre.zip ix := by
      refine List.mem_iff_getElem?.mpr ⟨j, ?_⟩
      rw [List.getElem?_zip_eq_some]
      exact ⟨e1, e2⟩
    have := List.all_eq_true.mp h6 (x, i) hz
    simp only [Bool.and_eq_true] at this
    exact ⟨by simpa using this.1, cellOrFree_iff this.2⟩
  · exact cellOrFree_iff (List.all_eq_true.mp h7 x hx)

/-- the block's slots at its entry -/
def compSt (own : List Str) (ix : List Nat) (σ : St) : St := own.map (fun _ => none) ++ ix.map fun i => (σ[i]?).join

section
variable {X : Cx} {pins : List (Addr × Obj)} {σ : St} {H : Hp} {s : Shared} {own fre : List Str} {ix : List Nat} {scope : Scope} {cl : List (Str × Addr)} {fp : List Addr} {C : Addr}
theorem Inv.stkNo (I : Inv X pins σ H s) {b : Addr} (h : FpOk X pins H b) : b ∉ frs X.stack := fun hb =>
  (List.mem_cons.mp (I.stkSub b hb)).elim h.2.1 h.2.2.1
theorem comp_ok (I : Inv X pins σ H s) (hf : ∀ b ∈ fp, FpOk X pins H b) (hlt : ∀ b ∈ fp, b < s.heap.objs.size) (S : CompScope X own fre ix scope) (hcl : ∀ x c, cl.lookup x = some c → X.env.cells.lookup x = some c)
    (hcf : ∀ y ∈ scope.names, y.2 = .free → ∃ c, cl.lookup y.1 = some c) (hC : s.heap.objs.size ≤ C) : (compCx X (own ++ fre) scope cl C s H fp).Ok where
  mod := I.ok.mod
  kind := S.kind
  glob := I.ok.glob
  blt := I.ok.blt
  above := hC
  inj := fun x y c e1 e2 => I.ok.inj x y c (hcl x c e1) (hcl y c e2)
  has := fun x hx => by
    obtain ⟨y, hy, e, k⟩ := relabel_kind S.cell hx
    subst e
    exact hcf y hy k
  cab := fun _ _ h => nomatch h
  hd := I.ok.hd
  frames := I.ok.frames
  stk := .inl rfl
  exf := fun b hb => ⟨Nat.ne_of_lt (Nat.lt_of_lt_of_le (hlt b hb) hC), fun x c e => (hf b hb).2.2.2.2.1 x c (hcl x c e)⟩
  bs := I.bs
  bsz := Nat.le_trans I.ok.bsz I.sz
  noex := fun b o e hb => by
    rcases (hf b hb).2.2.2.1 with z | z
    · exact I.ok.noex b o e z
    · exact absurd (Nat.lt_of_lt_of_le (Heap.lt_size e) (Nat.le_trans I.ok.bsz z)) (Nat.lt_irrefl _)
  exfs := fun b hb => I.stkNo (hf b hb)
  funs := I.stack
  frf := I.stkFree
theorem comp_start {h₁ : Heap} {t' : Nat} {m : Str → Option Value} (I : Inv X pins σ H s) (hf : ∀ b ∈ fp, FpOk X pins H b) (hlt : ∀ b ∈ fp, b < s.heap.objs.size) (S : CompScope X own fre ix scope) (hcl : ∀ x c, cl.lookup x = some c → X.env.cells.lookup x = some c)
    (hcf : ∀ y ∈ scope.names, y.2 = .free → ∃ c, cl.lookup y.1 = some c) (hC : s.heap.objs.size ≤ C) (old : ∀ b o, s.heap.get? b = some o → h₁.get? b = some o) (hn : h₁.Ns C m) :
    Inv (compCx X (own ++ fre) scope cl C s H fp) [] (compSt own ix σ) H { s with heap := h₁, toks := t' } where
  ok := comp_ok I hf hlt S hcl hcf hC
  os := rfl
  bare := I.bare
  base := Un.kept old
  loc := by
    refine ⟨m, hn, fun i x v e1 e2 e3 => ?_⟩
    obtain ⟨m0, hn0, hl⟩ := I.loc
    have hi : own.length ≤ i := by
      rcases Nat.lt_or_ge i own.length with z | z
      · rw [compSt, List.getElem?_append_left (by simpa using z), List.getElem?_map] at e2
        cases q : own[i]? <;> rw [q] at e2 <;> simp at e2
      · exact z
    have e1' : (own ++ fre)[i]? = some x := e1
    rw [List.getElem?_append_right hi] at e1'
    rw [compSt, List.getElem?_append_right (by simpa using hi), List.getElem?_map, List.length_map] at e2
    cases q : ix[i - own.length]? with
    | none => rw [q] at e2; simp at e2
    | some j =>
      rw [q] at e2
      obtain ⟨hN, hk⟩ := S.at_ _ _ _ e1' q
      have e2' : (σ[j]?).join = some v := by simpa using e2
      have e4 : σ[j]? = some (some v) := by
        cases z : σ[j]? with
        | none => rw [z] at e2'; cases e2'
        | some o => rw [z] at e2'; exact congrArg some e2'
      obtain ⟨u, r, lk⟩ := hl j x v hN e4 (hk.elim (fun z => .inr (.inl z)) fun z => .inr (.inr z))
      refine ⟨u, r, .inr ?_⟩
      rcases lk with ⟨k, _⟩ | ⟨k, c, ec, hc⟩
      · rcases hk with z | z <;> · rw [k] at z; cases z
      · have fin : ((compCx X (own ++ fre) scope cl C s H fp).env.kindOf x = some .cell ∨ (compCx X (own ++ fre) scope cl C s H fp).env.kindOf x = some .free) := by
          exact S.vis x (List.mem_of_getElem? e1')
        refine ⟨fin, ?_⟩
        obtain ⟨y, hy, e, kf⟩ := relabel_kind (env := X.env) S.cell (x := x) fin
        subst e
        obtain ⟨c', hc'⟩ := hcf y hy kf
        have := (hcl _ _ hc').symm.trans ec
        cases this
        exact ⟨c, hc', by obtain ⟨o, ho, hd⟩ := hc; exact ⟨o, old _ _ ho, hd⟩⟩
  cell := fun x c e => by
    obtain ⟨v, o, ho, hd⟩ := I.cell x c (hcl x c e)
    exact ⟨v, o, old _ _ ho, hd⟩
  free := I.hok.fresh hC
  freeC := fun x c e => I.freeC x c (hcl x c e)
  pin := fun p hp => nomatch hp
  hok := I.hok.kept old
  len := by simp [compSt, compCx, S.len]
end

/-! ### the block -/
/-- the tests of a clause -/
def PIfs (X : Cx) (ifs : List Expr) (t : TT) : Prop :=
  ∀ (pins : List (Addr × Obj)) (s : Shared) (σ : St) (H : Hp) (Q : Bool → Hp → Prop), Inv X pins σ H s → t σ H Q →
    wpAny (model X.prog X.w) X.A (forIn ifs true fun c r => if r = true then do let ok ← isTrue c X.env (eval c X.env); pure (ForInStep.yield ok) else pure (ForInStep.yield r)) (TP X pins σ Q) X.xe s
def tYes : TT := fun _ H Q => Q true H
theorem pifs_nil {X : Cx} : PIfs X [] tYes := fun pins s σ H Q I h => wpAny_pure ⟨H, I, h⟩
theorem pifs_one {X : Cx} {c : Expr} {t : TT} (hc : PT X c t) : PIfs X [c] t := by
  intro pins s σ H Q I h
  rw [List.forIn_cons]
  simp only [if_true]
  refine wpAny_bind (wpAny_bind (thn (hc pins s σ H Q I h) fun b s1 q => wpAny_pure ?_))
  simp only [List.forIn_nil]
  exact wpAny_pure q

def tCompL (J : It) (g : TG) (tt : TT) (te : TE) (σc : St) (H1 : Hp) (Qd : List V → Hp → Prop) : Prop :=
  ∃ W : Nat → Nat → List V → St → Hp → Prop, (∃ m, W 0 m [] σc H1) ∧ ∀ i m ys σ H, W i m ys σ H →
    (J.stop i H ∧ Qd ys H) ∨ (J.go i H ∧ ys.length < sizeLine ∧ ∃ N : List V → St → Hp → Prop, (∀ zs σ' H', N zs σ' H' → ∃ m', m' < m ∧ W (i + 1) m' zs σ' H') ∧ ∀ x H', J.yld i H x H' → g x σ H' fun σ2 H2 => tt σ2 H2 fun c H3 =>
      if c = true then te σ2 H3 fun y H4 => N (ys ++ [y]) σ2 H4 else N ys σ2 H3)

theorem HOk.adopt {P : Program} {w : World} {H : Hp} {h : Heap} {D : Addr} {o : HO} (x : HOk P w H h) (n : H D = none) (new : ObjOk P w (upd H D o) h D o) : HOk P w (upd H D o) h := fun b u e => by
  by_cases hb : b = D
  · subst hb
    rw [upd_same] at e
    cases e
    exact new
  · rw [upd_ne hb] at e
    refine (x b u e).stay (fun c v _ q => q) (fun c q => ?_) fun c xs q => ?_
    · rw [upd_ne (ne_of_none q n)]; exact q
    · rw [upd_ne (ne_of_none q n)]; exact q
theorem Un.adopt {fs ex : List Addr} {H H' : Hp} {h h' : Heap} {D : Addr} {o : HO} (u : Un fs ex H H' h h') (hD : h.objs.size ≤ D) (n : H' D = none) : Un fs ex H (upd H' D o) h h' where
  keep := u.keep
  slot := u.slot
  free := fun b ob e n' hx => by rw [upd_ne (Nat.ne_of_lt (Nat.lt_of_lt_of_le (Heap.lt_size e) hD))]; exact u.free b ob e n' hx
  there := u.there
  tups := fun b xs e => by have := u.tups b xs e; rw [upd_ne (ne_of_none this n)]; exact this
  frzs := fun b ob xs e => by have := u.frzs b ob xs e; rw [upd_ne (ne_of_none this n)]; exact this
  tbls := fun b ps e => by obtain ⟨m, z⟩ := u.tbls b ps e; exact ⟨m, by rw [upd_ne (ne_of_none z n)]; exact z⟩

section
variable {X : Cx} {pins : List (Addr × Obj)} {σ : St} {H2 : Hp} {s2 : Shared} {own fre : List Str} {ix : List Nat} {scope : Scope} {cl : List (Str × Addr)} {fp : List Addr} {C : Addr}
theorem comp_block {tg elt iter : Expr} {ifs : List Expr} {pos : Pos} {J : It} {it : Addr} {tn : Nat → Heap → Prop} {g : TG} {tt : TT} {te : TE} {Qd : List V → Hp → Prop} {RR : Value → Addr → Result → Shared → Prop} {E : Value → Shared → Prop}
    (I2 : Inv X pins σ H2 s2) (T : Turn X.prog X.w X.K tg J fp it tn) (st2 : tn 0 s2.heap) (f2 : ∀ b ∈ fp, FpOk X pins H2 b) (hc : X.calm = true) (S : CompScope X own fre ix scope)
    (hcl : ∀ x c, cl.lookup x = some c → X.env.cells.lookup x = some c) (hcf : ∀ y ∈ scope.names, y.2 = .free → ∃ c, cl.lookup y.1 = some c)
    (hg : ∀ C, PG (compCx X (own ++ fre) scope cl C s2 H2 fp) tg g) (hi : ∀ C, PIfs (compCx X (own ++ fre) scope cl C s2 H2 fp) ifs tt) (he : ∀ C, PE (compCx X (own ++ fre) scope cl C s2 H2 fp) elt te)
    (q : tCompL J g tt te (compSt own ix σ) H2 Qd)
    (hRR : ∀ D C s' m' ys H', Inv X pins σ (upd H' D (.lst ys)) s' → s'.heap.Ns C m' → FpOk X pins (upd H' D (.lst ys)) C → H' D = none → Qd ys H' → RR (.ref D) C (.ok .next) s') :
    wpAny (model X.prog X.w) X.A (newList []) (fun acc s₃ => wpAny (model X.prog X.w) X.A (newFunctionEnv scope X.env.globals cl [] X.env.qual none .none (some X.env)) (fun cenv s₄ =>
      codeAny (model X.prog X.w) X.A (.compStart (.ListComp elt [⟨tg, iter, ifs, 0⟩] scope pos) 0 (.ref it) acc { cenv with scope := relabel scope X.env }) (RR acc cenv.locals) s₄) E s₃) E s2 := by
  obtain ⟨W, ⟨m0, w0⟩, turn⟩ := q
  refine wpAny_newObj_type (wpAny_newFunctionEnv S.cell (by intro y hy; simp at hy) (fun h₁ hns₁ hsb₁ => ?_) S.kind)
  dsimp only at hns₁ hsb₁ ⊢
  generalize hHH : s2.heap.push { cls := .type "list", dict := none, data := .seq ([] : List Value).toArray } = HH at hns₁ hsb₁ ⊢
  have hC : HH.objs.size = s2.heap.objs.size + 1 := by rw [← hHH, Heap.size_push]
  generalize hDe : s2.heap.objs.size = D at *
  generalize hCe : HH.objs.size = C at *
  have hDC : D ≠ C := by omega
  have hDle : s2.heap.objs.size ≤ D := by omega
  have hCle : s2.heap.objs.size ≤ C := by omega
  have below : ∀ b o, s2.heap.get? b = some o → b ≠ C ∧ b ≠ D := fun b o e => ⟨Nat.ne_of_lt (Nat.lt_of_lt_of_le (Heap.lt_size e) hCle), Nat.ne_of_lt (Nat.lt_of_lt_of_le (Heap.lt_size e) hDle)⟩
  have old : ∀ b o, s2.heap.get? b = some o → h₁.get? b = some o := fun b o e => hsb₁.extBut b o (below b o e).1 (Heap.get?_push_of_some _ (hHH ▸ Heap.get?_push_of_some _ e))
  have hacc : h₁.get? D = some { cls := .type "list", dict := none, data := .seq ([] : List Value).toArray } := hsb₁.extBut _ _ hDC (Heap.get?_push_of_some _ (hHH ▸ hDe ▸ Heap.get?_push_size _ rfl))
  have fpo : ∀ b ∈ fp, ∃ o, s2.heap.get? b = some o ∧ ∀ v, o.data ≠ .cell v := T.obj _ _ st2
  have hlt : ∀ b ∈ fp, b < s2.heap.objs.size := fun b hb => by obtain ⟨o, e, _⟩ := fpo b hb; exact Heap.lt_size e
  have hDf : D ∉ fp := fun hm => absurd (Nat.lt_of_lt_of_le (hlt D hm) hDle) (Nat.lt_irrefl _)
  have hcD : ∀ x c, cl.lookup x = some c → c ≠ D := fun x c e z => by
    obtain ⟨v, o, ho, _⟩ := I2.cell x c (hcl x c e)
    exact (below c o ho).2 z
  let Xc := compCx X (own ++ fre) scope cl C s2 H2 fp
  have hnoS : ∀ b, s2.heap.objs.size ≤ b → b ∉ frs X.stack := fun b hb z => by
    rcases List.mem_cons.mp (I2.stkSub b z) with z | z
    · exact absurd (Nat.lt_of_lt_of_le I2.lt hb) (by rw [z]; exact Nat.lt_irrefl _)
    · exact I2.nofs hb z
  have loop : ∀ t', codeAny (model X.prog X.w) X.A (.compLoop (.ListComp elt [⟨tg, iter, ifs, 0⟩] scope pos) 0 (.ref it) (.ref D) (compEnvC scope cl C X.env)) (RR (.ref D) C) { s2 with heap := h₁, toks := t' } := by
    intro t'
    have I4 : Inv Xc [] (compSt own ix σ) H2 { s2 with heap := h₁, toks := t' } := comp_start I2 f2 hlt S hcl hcf hCle old hns₁
    refine compLoop_any (fun n s' => ∃ i ys σ' H' its k, Inv Xc [] σ' H' s' ∧ tn i s'.heap ∧ (∀ b ∈ fp, H' b = none) ∧ H' D = none ∧ s'.heap.get? D = some ({ cls := .type "list", data := .seq (List.toArray its) k } : Obj) ∧ Vals ys its ∧ ys.length ≤ sizeLine ∧ W i n ys σ' H')
      ?_ m0 ⟨0, [], _, H2, [], _, I4, T.keep _ _ _ st2 (fun b _ o e => old b o e), fun b hb => (f2 b hb).1, I2.hok.fresh hDle, hacc, .nil, Nat.zero_le _, w0⟩
    rintro n s3 ⟨i, ys, σ3, H3, its, k, I3, st3, fr3, hD3, ho3, hv3, hz3, w3⟩
    have I3p : Inv Xc [(D, { cls := .type "list", data := .seq (List.toArray its) k })] σ3 H3 s3 := I3.pins_of fun p hp => by
      have e : p = (D, ({ cls := .type "list", data := .seq (List.toArray its) k } : Obj)) := by simpa using hp
      subst e
      exact ⟨ho3, hD3, hDC, hnoS D hDle, fun v z => by cases z⟩
    have stat : ∀ {H' : Hp}, (∀ b ∈ fp, H' b = none) → ∀ b ∈ fp, FpOk Xc [(D, ({ cls := .type "list", data := .seq (List.toArray its) k } : Obj))] H' b := fun hn b hb =>
      ⟨hn b hb, Nat.ne_of_lt (Nat.lt_of_lt_of_le (hlt b hb) hCle), I2.stkNo (f2 b hb), .inl hb, fun x c e => (f2 b hb).2.2.2.2.1 x c (hcl x c e), fun p hp z => by
        have e : p = (D, ({ cls := .type "list", data := .seq (List.toArray its) k } : Obj)) := by simpa [Xc, compCx] using hp
        rw [e] at z; exact hDf (by rw [show D = b from z]; exact hb)⟩
    rcases turn i n ys σ3 H3 w3 with ⟨stop, qn⟩ | ⟨go, hys, N, hN, step⟩
    · refine thn (T.done Xc rfl rfl rfl hc i _ s3 σ3 H3 _ I3p (stat fr3) st3 stop) fun r s4 ⟨hr, I4⟩ => ?_
      subst hr
      have ho4 := (I4.pin (D, _) (List.mem_append_right _ List.mem_cons_self)).1
      obtain ⟨m', hn', _⟩ := I4.loc
      have un : Un (frs X.stack) fp H2 (upd H3 D (.lst ys)) s2.heap s4.heap := Un.adopt (show Un (frs X.stack) fp H2 H3 s2.heap s4.heap from I4.base) hDle hD3
      have hok : HOk X.prog X.w (upd H3 D (.lst ys)) s4.heap := HOk.adopt (show HOk X.prog X.w H3 s4.heap from I4.hok) hD3 ⟨hz3, its, _, hv3, ho4⟩
      have IX : Inv X pins σ (upd H3 D (.lst ys)) s4 := I2.call' (ch := fp) I4.os un hok I4.bare fun b hb => ⟨(f2 b hb).2.2.2.1, (f2 b hb).2.1, (f2 b hb).2.2.2.2.1, (f2 b hb).2.2.2.2.2⟩
      exact hRR D C s4 m' ys H3 IX hn' (I2.fpOk hCle (by rw [upd_ne (Ne.symm hDC)]; exact I4.free)) hD3 qn
    · refine thn (T.item Xc rfl rfl rfl hc i _ s3 σ3 H3 _ I3p (stat fr3) st3 go) fun r s4 ⟨u, hr, h4⟩ => ?_
      subst hr
      refine thn h4 fun _ s5 ⟨x, H5, I5, r5, y5, st5, fr5⟩ => ?_
      have I5' := I5.pinned (stat fr5) (T.obj _ _ st5)
      refine thn (hg C _ s5 σ3 H5 x u _ I5' r5 (step x H5 y5)) fun _ s6 ⟨σ6, H6, I6, q6⟩ => ?_
      refine thn (hi C _ s6 σ6 H6 _ I6 q6) fun b s7 ⟨H7, I7, q7⟩ => ?_
      have keepT : ∀ {σ7 : St} {H7 : Hp} {s7 : Shared} {h' : Heap}, Inv Xc ([(D, ({ cls := .type "list", data := .seq (List.toArray its) k } : Obj))] ++ pinsAt fp s5.heap) σ7 H7 s7 → (∀ b o, b ≠ D → s7.heap.get? b = some o → h'.get? b = some o) → tn (i + 1) h' ∧ ∀ b ∈ fp, H7 b = none := fun {σ7 H7 s7 h'} I7 hk => by
        refine ⟨T.keep _ _ _ st5 fun b hb o e => hk b o (fun z => hDf (z ▸ hb)) (I7.pin (b, o) (List.mem_append_right _ (List.mem_append_right _ (mem_pinsAt hb e)))).1, fun b hb => ?_⟩
        obtain ⟨o, e, d⟩ := T.obj _ _ st5 b hb
        exact (I7.pin (b, o) (List.mem_append_right _ (List.mem_append_right _ (mem_pinsAt hb e)))).2.1
      cases b with
      | false =>
        obtain ⟨m', hm, w7⟩ := hN _ _ _ q7
        obtain ⟨t7, f7⟩ := keepT (h' := s7.heap) I7 fun _ _ _ e => e
        have pD := I7.pin (D, _) (List.mem_append_right _ (List.mem_append_left _ List.mem_cons_self))
        exact ⟨m', hm, i + 1, ys, σ6, H7, its, k, I7.pins_of (fun p hp => nomatch hp), t7, f7, pD.2.1, pD.1, hv3, hz3, w7⟩
      | true =>
        refine thn (he C _ s7 σ6 H7 _ I7 q7) fun y s8 ⟨v, H8, I8, r8, n8⟩ => ?_
        obtain ⟨m', hm, w8⟩ := hN _ _ _ n8
        have pD := I8.pin (D, _) (List.mem_append_right _ (List.mem_append_left _ List.mem_cons_self))
        have hsz : its.toArray.size ≤ sizeLine := by rw [List.size_toArray, ← hv3.length]; exact hz3
        refine wpAny_list_append_plain (hsz := hsz) (show s8.heap.PlainList D its.toArray from ⟨_, pD.1⟩) fun h₅ hl₅ hs₅ => ?_
        obtain ⟨t8, f8⟩ := keepT (h' := h₅) I8 fun b o hb e => hs₅.extBut b o hb e
        obtain ⟨k', ho5⟩ := hl₅
        have I9 : Inv Xc [] σ6 H8 { s8 with heap := h₅ } := (I8.pins_of (pins' := []) (fun p hp => nomatch hp)).turned (it := D) (t' := s8.toks) (fun b o hb e => hs₅.extBut b o hb e) pD.2.1 hDC (.inr hDle) hcD fun p hp => nomatch hp
        refine ⟨m', hm, i + 1, ys ++ [v], σ6, H8, its ++ [y], k', I9, t8, f8, pD.2.1, ?_, hv3.append (.cons r8 .nil), (by rw [List.length_append, List.length_singleton]; exact hys), w8⟩
        show h₅.get? D = _
        rw [ho5]; simp
  exact codeAny_compStart_list (loop _) (T.self _ 0 _ _ _ (T.keep _ _ _ st2 (fun b _ o e => old b o e)) (loop _))
end

/-- [e for target in iter if t] -/
def tComp (own : List Str) (ix : List Nat) (wi : TI) (g : TG) (tt : TT) (te : TE) : TE := fun σ H Q => wi σ H fun J H1 =>
  tCompL J g tt te (compSt own ix σ) H1 fun ys H2 => ∀ D, H2 D = none → Q (.ref D) (upd H2 D (.lst ys))
section
variable {X : Cx} {own fre : List Str} {ix : List Nat} {scope : Scope}
theorem pe_lcomp {tg elt iter : Expr} {ifs : List Expr} {pos : Pos} {wi : TI} {g : TG} {tt : TT} {te : TE} (hc : X.calm = true) (S : CompScope X own fre ix scope) (hi : PI X tg iter wi)
    (hg : ∀ cl C s H fp, PG (compCx X (own ++ fre) scope cl C s H fp) tg g) (ht : ∀ cl C s H fp, PIfs (compCx X (own ++ fre) scope cl C s H fp) ifs tt) (he : ∀ cl C s H fp, PE (compCx X (own ++ fre) scope cl C s H fp) elt te)
    (hs : ∀ x, foldedSetIterable iter X.env x = pure x := by intro _; rfl) : PE X (.ListComp elt [⟨tg, iter, ifs, 0⟩] scope pos) (tComp own ix wi g tt te) := by
  intro pins s σ H Q I h
  obtain ⟨cl, ecl, hcl, hcf⟩ := closureFor_ok (scope := scope) (env := X.env) fun y hy hf => I.ok.has y.1 (S.fr y hy hf)
  rw [eval_ListComp]
  refine wpAny_comprehension_free (use := none) rfl hs ecl S.kind S.loc (thn (hi pins s σ H _ I h) fun v s1 h1 => thn h1 fun itv s2 h2 => ?_)
  obtain ⟨it, fp, tn, J, H2, e, I2, T, st2, f2, q⟩ := h2
  subst e
  refine comp_block (RR := fun acc C => compPost (model X.prog X.w) X.A X.xe none (EP X pins σ Q) acc C) I2 T st2 f2 hc S hcl hcf (fun C => hg _ _ _ _ _) (fun C => ht _ _ _ _ _) (fun C => he _ _ _ _ _) q ?_
  intro D C s' m' ys H' IX hn fC hD qd
  refine ⟨m', hn, fun h' hs' => ?_⟩
  exact ⟨.ref D, _, IX.turned (it := C) (t' := s'.toks) (fun b o hb e => hs'.extBut b o hb e) fC.1 fC.2.1 fC.2.2.2.1 fC.2.2.2.2.1 fC.2.2.2.2.2, rfl, qd D hD⟩
/-- name = [e for ..], the name a plain local on the comprehension's own line -/
theorem ps_setc {i : Nat} {x : Str} {pos' : Pos} {tg elt iter : Expr} {ifs : List Expr} {pos cpos : Pos} {wi : TI} {g : TG} {tt : TT} {te : TE} (hN : X.N.Nodup) (hix : X.N[i]? = some x) (hx : Loc X.env.scope x)
    (hc : X.calm = true) (S : CompScope X own fre ix scope) (hi : PI X tg iter wi)
    (hg : ∀ cl C s H fp, PG (compCx X (own ++ fre) scope cl C s H fp) tg g) (ht : ∀ cl C s H fp, PIfs (compCx X (own ++ fre) scope cl C s H fp) ifs tt) (he : ∀ cl C s H fp, PE (compCx X (own ++ fre) scope cl C s H fp) elt te)
    (hsw : swapsWith (.ListComp elt [⟨tg, iter, ifs, 0⟩] scope cpos) (some (.Name x pos')) pos.line X.env = pure true := by rfl)
    (hs : ∀ x, foldedSetIterable iter X.env x = pure x := by intro _; rfl) (hf : X.fn x = true ∨ X.env.scope.names.lookup x = some .local := by first | exact .inl rfl | exact .inr rfl | assumption) :
    PS X (.Assign [.Name x pos'] (.ListComp elt [⟨tg, iter, ifs, 0⟩] scope cpos) pos) (tAsg (tComp own ix wi g tt te) (gName i)) := by
  intro pins s σ H D I h
  obtain ⟨cl, ecl, hcl, hcf⟩ := closureFor_ok (scope := scope) (env := X.env) fun y hy hf => I.ok.has y.1 (S.fr y hy hf)
  rw [exec_Assign_Name_used _ _ _ _ hsw]
  refine wpAny_bind (wpAny_standAt (wpAny_bind ?_))
  show wpAny _ X.A (do let _ ← comprehension (.ListComp elt [⟨tg, iter, ifs, 0⟩] scope cpos) scope X.env _ (newList []) false (eval iter X.env) (some (assign (.Name x pos') X.env))) _ _ s
  refine wpAny_bind (wpAny_mono (wpAny_comprehension_free (use := some (assign (.Name x pos') X.env)) (Q := fun _ s' => SP X pins D .next s') rfl hs ecl S.kind S.loc
    (thn (hi pins s σ H _ I h) fun v s1 h1 => thn h1 fun itv s2 h2 => ?_)) (fun _ s' hq => wpAny_pure (wpAny_pure hq)) fun _ _ e => e)
  obtain ⟨it, fp, tn, J, H2, e, I2, T, st2, f2, q⟩ := h2
  subst e
  refine comp_block (RR := fun acc C => compPost (model X.prog X.w) X.A X.xe (some (assign (.Name x pos') X.env)) (fun _ s' => SP X pins D .next s') acc C) I2 T st2 f2 hc S hcl hcf (fun C => hg _ _ _ _ _) (fun C => ht _ _ _ _ _) (fun C => he _ _ _ _ _) q ?_
  intro D' C s' m' ys H' IX hn fC hD qd
  show wpAny _ X.A (assign (.Name x pos') X.env (.ref D')) _ _ _
  refine wpAny_assign_Name (store_ok2 (v := .ref D') IX hN hix hx rfl (fun s'' I'' hsb => ?_) hf)
  obtain ⟨a, hsb, ha⟩ := hsb
  have hCa : C ≠ a := by
    rcases ha with z | z
    · rw [z]; exact fC.2.1
    · exact Ne.symm (fC.2.2.2.2.1 x a z)
  refine ⟨m', hn.sameBut hsb hCa, fun h' hs' => ?_⟩
  exact ⟨_, _, I''.turned (it := C) (t' := s''.toks) (fun b o hb e => hs'.extBut b o hb e) fC.1 fC.2.1 fC.2.2.2.1 fC.2.2.2.2.1 fC.2.2.2.2.2, qd D' hD⟩
end

/-! ### the forms one uses -/
section
variable {K : PySem.W.Frag} {a : Addr} {xs : List V} {g : TG} {tt : TT} {te : TE} {σc : St} {H : Hp} {Qd : List V → Hp → Prop}
theorem comp_list (Pv : Nat → List V → St → Hp → Prop) (h0 : Pv 0 [] σc H)
    (hl : ∀ i ys σ H, i ≤ xs.length → Pv i ys σ H → SqL K H a xs ∧ (i < xs.length → ys.length < sizeLine))
    (hs : ∀ i x ys σ H, xs[i]? = some x → Pv i ys σ H → g x σ H fun σ2 H2 => tt σ2 H2 fun c H3 => if c = true then te σ2 H3 fun y H4 => Pv (i + 1) (ys ++ [y]) σ2 H4 else Pv (i + 1) ys σ2 H3)
    (hd : ∀ ys σ H, Pv xs.length ys σ H → Qd ys H) : tCompL (Itl K a) g tt te σc H Qd := by
  refine ⟨fun i m ys σ H => m = xs.length - i ∧ i ≤ xs.length ∧ Pv i ys σ H, ⟨xs.length, by simp, Nat.zero_le _, h0⟩, ?_⟩
  rintro i m ys σ H ⟨rfl, hi, p⟩
  obtain ⟨q, hz⟩ := hl i ys σ H hi p
  by_cases hlt : i < xs.length
  · refine .inr ⟨⟨xs, xs[i], q, by simp [hlt]⟩, hz hlt, Pv (i + 1), fun zs σ' H' p' => ⟨xs.length - (i + 1), by omega, rfl, hlt, p'⟩, fun x H' y => ?_⟩
    obtain ⟨e, y⟩ := y
    subst e
    exact hs i x ys σ _ (y xs q) p
  · have e : i = xs.length := by omega
    subst e
    exact .inl ⟨⟨xs, q, Nat.le_refl _⟩, hd ys σ H p⟩
theorem comp_tup (Pv : Nat → List V → St → Hp → Prop) (h0 : Pv 0 [] σc H)
    (hl : ∀ i ys σ H, i ≤ xs.length → Pv i ys σ H → SqT K H a xs ∧ (i < xs.length → ys.length < sizeLine))
    (hs : ∀ i x ys σ H, xs[i]? = some x → Pv i ys σ H → g x σ H fun σ2 H2 => tt σ2 H2 fun c H3 => if c = true then te σ2 H3 fun y H4 => Pv (i + 1) (ys ++ [y]) σ2 H4 else Pv (i + 1) ys σ2 H3)
    (hd : ∀ ys σ H, Pv xs.length ys σ H → Qd ys H) : tCompL (Itt K a) g tt te σc H Qd := by
  refine ⟨fun i m ys σ H => m = xs.length - i ∧ i ≤ xs.length ∧ Pv i ys σ H, ⟨xs.length, by simp, Nat.zero_le _, h0⟩, ?_⟩
  rintro i m ys σ H ⟨rfl, hi, p⟩
  obtain ⟨q, hz⟩ := hl i ys σ H hi p
  by_cases hlt : i < xs.length
  · refine .inr ⟨⟨xs, xs[i], q, by simp [hlt]⟩, hz hlt, Pv (i + 1), fun zs σ' H' p' => ⟨xs.length - (i + 1), by omega, rfl, hlt, p'⟩, fun x H' y => ?_⟩
    obtain ⟨e, y⟩ := y
    subst e
    exact hs i x ys σ _ (y xs q) p
  · have e : i = xs.length := by omega
    subst e
    exact .inl ⟨⟨xs, q, Nat.le_refl _⟩, hd ys σ H p⟩
theorem comp_range {lo : Int} {n : Nat} (Pv : Nat → List V → St → Hp → Prop) (h0 : Pv 0 [] σc H) (hl : ∀ i ys σ H, i < n → Pv i ys σ H → ys.length < sizeLine)
    (hs : ∀ i ys σ H, i < n → Pv i ys σ H → g (.int (lo + i)) σ H fun σ2 H2 => tt σ2 H2 fun c H3 => if c = true then te σ2 H3 fun y H4 => Pv (i + 1) (ys ++ [y]) σ2 H4 else Pv (i + 1) ys σ2 H3)
    (hd : ∀ ys σ H, Pv n ys σ H → Qd ys H) : tCompL (Itr lo n) g tt te σc H Qd := by
  refine ⟨fun i m ys σ H => m = n - i ∧ i ≤ n ∧ Pv i ys σ H, ⟨n, by simp, Nat.zero_le _, h0⟩, ?_⟩
  rintro i m ys σ H ⟨rfl, hi, p⟩
  by_cases hlt : i < n
  · refine .inr ⟨hlt, hl i ys σ H hlt p, Pv (i + 1), fun zs σ' H' p' => ⟨n - (i + 1), by omega, rfl, hlt, p'⟩, fun x H' y => ?_⟩
    obtain ⟨e, y⟩ := y
    subst e
    subst y
    exact hs i ys σ _ hlt p
  · have e : i = n := by omega
    subst e
    exact .inl ⟨Nat.le_refl _, hd ys σ H p⟩
end
end L2

set_option Elab.async false
set_option linter.all false
set_option maxRecDepth 100000
namespace LX
open PySem
open Sem (wp)
theorem nolen_ri : typeLookup (.type "list_reverseiterator") "__len__" = pure none := by rw [typeLookup_type, builtinLookup_eq_fast]; kernel_rfl
theorem hint_ri : typeLookup (.type "list_reverseiterator") "__length_hint__" = pure (some (.builtin "list_reverseiterator.__length_hint__")) := by rw [typeLookup_type, builtinLookup_eq_fast]; kernel_rfl
section
variable {prog : Program} {w : World} {A : Around} {E : Value → Shared → Prop} {s : Shared}
theorem extend_rev {R : Result → Shared → Prop} {I l : Addr} {items : Array Value} (hh : A.handled = none) (hne : l ≠ I) (hit : s.heap.IsRevIter I l ((items.size : Int) - 1)) (hl : s.heap.IsList l items)
    (S : Addr) (res : Value) (c₀ : Nat) (hSI : S ≠ I) (hSl : S ≠ l) (hS : s.heap.get? S = some { cls := .type "list", data := .seq #[] c₀ }) (hn : items.size ≤ sizeLine)
    (hR : ∀ h' tk acc' c', (∀ b o, b ≠ S → b ≠ I → s.heap.get? b = some o → h'.get? b = some o) → h'.get? S = some { cls := .type "list", dict := none, data := .seq acc' c', slots := #[] } →
      ItemsOf (fun i v => items[items.size - 1 - i]? = some v) acc' items.size → R (.ok (.ret res)) { s with heap := h', toks := tk }) :
    wpAny (model prog w) A.in1 (Builtin.List.listExtendWith (.ref S) (.ref I) res)
      (fun fin s' => match fin with | .done f => R (.ok f) s' | .again c' => c'.quiet = true ∧ codeAny (model prog w) A c' R s') (fun e s' => R (.error e) s') s := by
  have W := (Walks.listRev (prog := prog) (w := w) (A := A.in1) hh I l hne items).toS
  have st : 0 ≤ items.size ∧ s.heap.IsRevIter I l ((items.size : Int) - 1 - ((0 : Nat) : Int)) ∧ s.heap.IsList l items := ⟨Nat.zero_le _, by simpa using hit, hl⟩
  have hT : s.TypeIs (.ref I) "list_reverseiterator" := hit.typeIs
  have hSf : S ∉ [I, l] := fun hm => by
    rcases List.mem_cons.mp hm with z | z
    · exact hSI z
    · exact hSl (List.mem_singleton.mp z)
  have h1 : Builtin.List.listSameRef (.ref S) (.ref I) = false := by simp [Builtin.List.listSameRef, hSI]
  unfold Builtin.List.listExtendWith
  refine wpAny_bind (wpAny_typeOf hT ?_)
  rw [if_neg (by rw [h1]; decide)]
  refine wpAny_bind (wpAny_pyIter_revIter hit ?_)
  refine wpAny_bind (wpAny_holding ?_)
  unfold Builtin.List.listLengthHint
  refine wpAny_bind (wpAny_specialOf hT nolen_ri ?_)
  show wpAny _ A.in1 (specialOf (Value.ref I) (Str.ofString "__length_hint__") >>= _) _ _ _
  refine wpAny_bind (wpAny_specialOf hT hint_ri ?_)
  (generalize hid : ("list_reverseiterator.__length_hint__" : String) = id0; (fail_if_success (clear hid id0)); wp_delta; rw [show splitId id0 = some ("list_reverseiterator", "__length_hint__") from by subst hid; decide +kernel]; subst hid)
  refine wpAny_bind (wpAny_isInstance (b := true) hT (by rw [isSubtype_type]; kernel_rfl) ?_)
  refine wpAny_pure ?_
  rw [if_neg (by decide)]
  refine wpAny_pure ⟨plainId_quiet F.plain_extend_loop _, codeAny_extend_loopS W hn _ hSf _ items.size 0 _ _ _ rfl (Nat.zero_le _) st hS (ItemsOf.nil _) fun s' acc' c' hm hS' hacc => ?_⟩
  rw [Moved.eq_with hm]
  refine hR s'.heap s'.toks acc' c' (fun b o hb hb' e => hm.heap b o (fun hmem => ?_) e) hS' hacc
  rcases List.mem_cons.mp hmem with z | z
  · exact hb z
  · exact hb' (List.mem_singleton.mp z)
theorem init_rev {R : Result → Shared → Prop} {I l : Addr} {items : Array Value} (hh : A.handled = none) (hne : l ≠ I) (hit : s.heap.IsRevIter I l ((items.size : Int) - 1)) (hl : s.heap.IsList l items)
    (S : Addr) (hSI : S ≠ I) (hSl : S ≠ l) (hS : s.heap.get? S = some { cls := .type "list", data := .seq #[] }) (hn : items.size ≤ sizeLine)
    (hR : ∀ h' tk acc' c', (∀ b o, b ≠ S → b ≠ I → s.heap.get? b = some o → h'.get? b = some o) → h'.get? S = some { cls := .type "list", dict := none, data := .seq acc' c', slots := #[] } →
      ItemsOf (fun i v => items[items.size - 1 - i]? = some v) acc' items.size → R (.ok (.ret .none)) { s with heap := h', toks := tk }) :
    wpAny (model prog w) A.in1 (Builtin.«list.__init__» ⟨[.ref S, .ref I], []⟩)
      (fun fin s' => match fin with | .done f => R (.ok f) s' | .again c' => c'.quiet = true ∧ codeAny (model prog w) A c' R s') (fun e s' => R (.error e) s') s := by
  show wpAny _ A.in1 (do let old ← Builtin.List.listItems (.ref S); Builtin.List.listUpdate (.ref S) (fun _ => #[]); letGo old.toList.reverse; Builtin.List.listExtendWith (.ref S) (.ref I) .none) _ _ s
  refine wpAny_bind ?_
  unfold Builtin.List.listItems
  refine wpAny_bind (wpAny_seqItems hS rfl (wpAny_pure ?_))
  show wpAny _ A.in1 (updateSeq S (fun _ => #[]) >>= fun _ => letGo (#[] : Array Value).toList.reverse >>= fun _ => Builtin.List.listExtendWith (.ref S) (.ref I) .none) _ _ s
  refine wpAny_bind (wpAny_updateSeq hS rfl ?_)
  have hS₂ := Heap.get?_update_self (Obj.mapSeq (fun _ => (#[] : Array Value))) hS rfl
  have oth : ∀ b o, b ≠ S → s.heap.get? b = some o → (s.heap.update S (Obj.mapSeq (fun _ => (#[] : Array Value)))).get? b = some o :=
    fun b o hb e => (Heap.get?_update_other _ _ (Ne.symm hb)).trans e
  refine wpAny_bind (wpAny_letGo ?_)
  refine extend_rev hh hne (hit.at fun o e => oth I o (Ne.symm hSI) e) (hl.at fun o e => oth l o (Ne.symm hSl) e) S .none _ hSI hSl hS₂ hn fun h' tk acc' c' hk hS' hacc => ?_
  exact hR h' tk acc' c' (fun b o hb hb' e => hk b o hb hb' (oth b o hb e)) hS' hacc
/-- list(reversed iterator) -/
theorem call_list_rev {Q : Value → Shared → Prop} {I l : Addr} {items : Array Value} (hh : A.handled = none) (hne : l ≠ I) (hit : s.heap.IsRevIter I l ((items.size : Int) - 1)) (hl : s.heap.IsList l items) (hn : items.size ≤ sizeLine)
    (hQ : ∀ h' tk acc' c', (∀ b o, b ≠ I → s.heap.get? b = some o → h'.get? b = some o) → h'.get? s.heap.objs.size = some { cls := .type "list", dict := none, data := .seq acc' c', slots := #[] } →
      ItemsOf (fun i v => items[items.size - 1 - i]? = some v) acc' items.size → Q (.ref s.heap.objs.size) { s with heap := h', toks := tk }) : wpAny (model prog w) A (call (.type "list") [.ref I]) Q E s := by
  refine callType_codes (Q₁ := fun obj s₁ => obj = .ref s.heap.objs.size ∧ s₁ = { s with heap := s.heap.push { cls := .type "list", data := .seq #[] } }) F.called_list (F.typeCall_list_1 _) F.entry_list_init
    (code_list_new _ ⟨rfl, rfl⟩) fun obj s₁ h₁ => ?_
  obtain ⟨rfl, rfl⟩ := h₁
  have hS : (s.heap.push { cls := .type "list", data := .seq #[] }).get? s.heap.objs.size = some { cls := .type "list", data := .seq #[] } := Heap.get?_push_size _ rfl
  have nI : s.heap.objs.size ≠ I := by obtain ⟨o, ho, _⟩ := hit; exact Ne.symm (Nat.ne_of_lt (Heap.lt_size ho))
  have nl : s.heap.objs.size ≠ l := by obtain ⟨o, ho, _⟩ := hl; exact Ne.symm (Nat.ne_of_lt (Heap.lt_size ho))
  refine ⟨⟨_, hS, rfl⟩, F.args_list_init_2 _ _, init_rev (A := A.in1) hh hne (hit.at fun o e => Heap.get?_push_of_some _ e) (hl.at fun o e => Heap.get?_push_of_some _ e) _ nI nl hS hn fun h' tk acc' c' hk hS' hacc => ?_⟩
  exact ⟨rfl, hQ h' tk acc' c' (fun b o hb e => hk b o (Nat.ne_of_lt (Heap.lt_size e)) hb (Heap.get?_push_of_some _ e)) hS' hacc⟩
end
end LX

set_option Elab.async false
set_option linter.all false
set_option maxRecDepth 100000
namespace L2
open PySem PySem.Spec PyProof.Rows
section
variable {X : Cx}
/-- list(reversed(l)) -/
def tListRev (K : PySem.W.Frag) (te : TE) : TE := fun σ H Q => te σ H fun x H1 => ∃ a xs, x = .ref a ∧ SqL K H1 a xs ∧ ∀ l, H1 l = none → Q (.ref l) (upd H1 l (.lst xs.reverse))
theorem vals_of_rev {xs : List V} {its : List Value} {acc : Array Value} (r : Vals xs its) (h : ItemsOf (fun i v => its.toArray[its.toArray.size - 1 - i]? = some v) acc its.toArray.size) : acc.toList = its.reverse := by
  obtain ⟨hs, hi⟩ := h
  have hs' : acc.size = its.length := by simpa using hs
  refine List.ext_getElem? fun j => ?_
  rcases Nat.lt_or_ge j its.length with hj | hj
  · have e1 : acc[j]? = some (acc[j]'(by omega)) := Array.getElem?_eq_getElem (by omega)
    have e2 := hi j _ e1
    rw [Array.getElem?_toList, e1, List.getElem?_reverse hj, ← e2]
    simp
  · rw [List.getElem?_eq_none (by simpa [hs'] using hj), List.getElem?_eq_none (by simpa using hj)]
theorem pe_listrev {e : Expr} {te : TE} {p p2 pos pos2 : Pos} (hc : X.calm = true) (he : PE X e te) (hgl : Gl X "list") (hml : X.mg "list" = none) (hgr : Gl X "reversed") (hmr : X.mg "reversed" = none)
    (hs : starEach [e] X.env = [(false, eval e X.env)] := by rfl)
    (hs2 : starEach [Expr.Call (.Name "reversed" p2) [e] [] pos2] X.env = [(false, eval (.Call (.Name "reversed" p2) [e] [] pos2) X.env)] := by rfl) :
    PE X (.Call (.Name "list" p) [.Call (.Name "reversed" p2) [e] [] pos2] [] pos) (tListRev X.K te) := by
  intro pins s σ H Q I h
  refine wpAny_Call_Name_kw (ld_blt I hgl hml PyProof.Rows.boot_list ?_)
  refine PyProof.Rows.callWith_type1 ?_ hs2 rfl
  rw [hs2]
  show wpAny _ _ (spliced ((false, eval (.Call (.Name "reversed" p2) [e] [] pos2) X.env) :: backTo pos [])) _ _ s
  refine Calls.spliced_cons ?_
  refine wpAny_Call_Name_kw (ld_blt I hgr hmr PyProof.Rows.boot_reversed ?_)
  refine PyProof.Rows.callWith_type1 ?_ hs rfl
  rw [hs]
  show wpAny _ _ (spliced ((false, eval e X.env) :: backTo pos2 [])) _ _ s
  refine Calls.spliced_cons (thn (he pins s σ H _ I h) fun u s1 ⟨x, H1, I1, r1, a, xs, ex, hq, q⟩ => ?_)
  subst ex
  cases r1
  refine Calls.spliced_nil ?_
  obtain ⟨its, rv, pl, hz⟩ := I1.list hq
  refine call_reversed_list pl.isList ?_
  refine Calls.spliced_nil ?_
  have I2 : Inv X pins σ H1 { s1 with heap := s1.heap.push (revObj a ((its.toArray.size : Int) - 1)) } := I1.kept (t' := s1.toks) fun b o e => Heap.get?_push_of_some _ e
  have hne : a ≠ s1.heap.objs.size := by obtain ⟨o, ho, _⟩ := pl.isList; exact Nat.ne_of_lt (Heap.lt_size ho)
  refine LX.call_list_rev (items := its.toArray) (I.ok.hd hc) hne ⟨_, Heap.get?_push_size _ rfl, rfl, rfl⟩ (pl.isList.at fun o e => Heap.get?_push_of_some _ e) (by simpa [← rv.length] using hz) fun h' tk acc c kp ho hi => ?_
  have hfr : H1 s1.heap.objs.size = none := I1.hok.fresh (Nat.le_refl _)
  have fp : FpOk X pins H1 s1.heap.objs.size := I1.fpOk (Nat.le_refl _) hfr
  have I3 : Inv X pins σ H1 { s1 with heap := h', toks := tk } := Inv.turned (s := { s1 with heap := s1.heap.push (revObj a ((its.toArray.size : Int) - 1)) }) (it := s1.heap.objs.size) (h' := h') (t' := tk) I2 (fun b o hb e => kp b o hb e) fp.1 fp.2.1 fp.2.2.2.1 fp.2.2.2.2.1 fp.2.2.2.2.2
  generalize hDD : (s1.heap.push (revObj a ((its.toArray.size : Int) - 1))).objs.size = D at ho ⊢
  have hD : H1 D = none := by rw [← hDD]; exact I2.hok.fresh (Nat.le_refl _)
  have fD : FpOk X pins H1 D := I2.fpOk (by rw [← hDD]; exact Nat.le_refl _) hD
  have e1 : acc.toList = its.reverse := vals_of_rev rv hi
  have ho' : h'.get? D = some { cls := .type "list", dict := none, data := .seq (its.reverse).toArray c, slots := #[] } := by rw [ho, ← e1]
  have hok : HOk X.prog X.w (upd H1 D (.lst xs.reverse)) h' := HOk.adopt I3.hok hD ⟨by rw [List.length_reverse]; exact hz, _, _, rv.reverse, ho'⟩
  have I4 : Inv X pins σ (upd H1 D (.lst xs.reverse)) { s1 with heap := h', toks := tk } := by
    refine Inv.call' (s := { s1 with heap := s1.heap.push (revObj a ((its.toArray.size : Int) - 1)) }) (s' := { s1 with heap := h', toks := tk }) (ch := [s1.heap.objs.size]) I2 rfl ?_ hok I3.bare fun b hb => ?_
    · have ne : ∀ b, b ∉ [s1.heap.objs.size] → b ≠ s1.heap.objs.size := fun b hb z => hb (by simp [z])
      exact ⟨fun b o e _ _ hx => kp b o (ne b hx) e, fun b o e _ _ hx => ⟨o.slots, kp b o (ne b hx) e⟩, fun b o e n _ => by
          rw [upd_ne (Nat.ne_of_lt (Nat.lt_of_lt_of_le (Heap.lt_size e) (by rw [← hDD]; exact Nat.le_refl _)))]; exact n, fun b o e hx => ⟨o, kp b o (ne b hx) e⟩,
        fun b ys e => by rw [upd_ne (ne_of_none e hD)]; exact e, fun b o u e => by rw [upd_ne (ne_of_none e hD)]; exact e, fun b ps e => ⟨#[], by rw [upd_ne (ne_of_none e hD), e]; simp⟩⟩
    · have e : b = s1.heap.objs.size := by simpa using hb
      subst e
      exact ⟨fp.2.2.2.1, fp.2.1, fp.2.2.2.2.1, fp.2.2.2.2.2⟩
  exact ⟨.ref D, _, I4, rfl, q D hD⟩

/-- // by a positive divisor of up to 9000 bits -/
theorem op_fdivL : OpR X (binaryOp .FloorDiv) (rI (fun _ j => 0 < j ∧ j.natAbs.log2 < 9000) fun i j => .int (i / j)) := opI fun i j _ _ _ _ _ hc q => by
  have e : i.fdiv j = i / j := Int.fdiv_eq_ediv_of_nonneg _ (Int.le_of_lt hc.1)
  exact floordiv_int (Int.ne_of_gt hc.1) (by rw [e]; exact q) (.inl (PyProof.noPylong_of_log2 hc.2))
theorem log2_small {j : Int} (h0 : 0 < j) (h : j < 2 ^ 200) : j.natAbs.log2 < 9000 := by
  have h1 : j.natAbs ≠ 0 := by omega
  have h2 : j.natAbs < 2 ^ 200 := by
    have : ((2 : Int) ^ 200) = ((2 ^ 200 : Nat) : Int) := by norm_cast
    rw [this] at h
    omega
  have := (Nat.log2_lt h1).mpr h2
  omega

/-- all(l), any(l) of a list of truths -/
theorem truthOf_bools {A : Around} {P : Program} {w : World} {bs : List Bool} {its : List Value} (r : Vals (bs.map V.bl) its) : TruthOf P w A (fun i v => its.toArray[i]? = some v) (fun i => bs.getD i false) := by
  intro i v s Q E hv hq
  have hv' : its[i]? = some v := by simpa using hv
  have hlt : i < its.length := (List.getElem?_eq_some_iff.mp hv').1
  have hl := r.length
  rw [List.length_map] at hl
  have hb : (bs.map V.bl)[i]? = some (V.bl (bs[i]'(by omega))) := by rw [List.getElem?_map, List.getElem?_eq_getElem (by omega)]; rfl
  obtain ⟨u, hu, ru⟩ := r.get hb
  rw [hv'] at hu
  cases hu
  cases ru
  dsimp only at hq
  rw [List.getD_eq_getElem?_getD, List.getElem?_eq_getElem (by omega)] at hq
  exact wpAny_truthy_bool hq
theorem range_all_getD : ∀ bs : List Bool, ((List.range bs.length).all fun i => bs.getD i false) = bs.all id := by
  intro bs
  rw [Bool.eq_iff_iff, List.all_eq_true, List.all_eq_true]
  constructor
  · intro h b hb
    obtain ⟨i, hi, rfl⟩ := List.mem_iff_getElem.mp hb
    have := h i (List.mem_range.mpr hi)
    simpa [List.getD_eq_getElem?_getD, hi] using this
  · intro h i hi
    have hi' := List.mem_range.mp hi
    have := h bs[i] (List.getElem_mem hi')
    simpa [List.getD_eq_getElem?_getD, hi'] using this
theorem range_any_getD : ∀ bs : List Bool, ((List.range bs.length).any fun i => bs.getD i false) = bs.any id := by
  intro bs
  rw [Bool.eq_iff_iff, List.any_eq_true, List.any_eq_true]
  constructor
  · rintro ⟨i, hi, h⟩
    have hi' := List.mem_range.mp hi
    exact ⟨bs[i], List.getElem_mem hi', by simpa [List.getD_eq_getElem?_getD, hi'] using h⟩
  · rintro ⟨b, hb, h⟩
    obtain ⟨i, hi, rfl⟩ := List.mem_iff_getElem.mp hb
    exact ⟨i, List.mem_range.mpr hi, by simpa [List.getD_eq_getElem?_getD, hi] using h⟩
theorem call_allB (hc : X.calm = true) : CallR X (.builtin "all") (fun xs H Q => ∃ (p : Addr) (bs : List Bool), xs = [.ref p] ∧ SqL X.K H p (bs.map V.bl) ∧ Q (.bl (bs.all id)) H) := by
  intro pins s σ H xs us Q I r h
  obtain ⟨p, bs, rfl, hq, q⟩ := h
  obtain ⟨u, rfl, rx⟩ := vals1 r
  cases rx
  obtain ⟨its, rv, pl, hz⟩ := I.list hq
  have hl := rv.length
  rw [List.length_map] at hl
  have hne : p ≠ s.heap.objs.size := by obtain ⟨o, ho, _⟩ := pl.isList; exact Nat.ne_of_lt (Heap.lt_size ho)
  refine call_all_walk (wpAny_pyIter_list pl.isList ?_)
  refine ⟨_, _, _, _, _, _, _, rfl, Walks.list (A := X.A.in1) (I.ok.hd hc) _ p hne its.toArray, ⟨⟨_, Heap.get?_push_size _ rfl, rfl, rfl⟩, pl.isList.at fun o e => Heap.get?_push_of_some _ e⟩, truthOf_bools rv, fun h' tk hk => ?_⟩
  have hfr : H s.heap.objs.size = none := I.hok.fresh (Nat.le_refl _)
  have fp : FpOk X pins H s.heap.objs.size := I.fpOk (Nat.le_refl _) hfr
  have e : ((List.range its.toArray.size).all fun i => bs.getD i false) = bs.all id := by rw [List.size_toArray, ← hl]; exact range_all_getD bs
  rw [e]
  exact ⟨.bl (bs.all id), H, Inv.turned (it := s.heap.objs.size) (h' := h') (t' := tk) (I.kept (t' := s.toks) fun b o e => Heap.get?_push_of_some _ e) (fun b o hb e => hk b o (by simpa using hb) e) fp.1 fp.2.1 fp.2.2.2.1 fp.2.2.2.2.1 fp.2.2.2.2.2, rfl, q⟩
theorem call_anyB (hc : X.calm = true) : CallR X (.builtin "any") (fun xs H Q => ∃ (p : Addr) (bs : List Bool), xs = [.ref p] ∧ SqL X.K H p (bs.map V.bl) ∧ Q (.bl (bs.any id)) H) := by
  intro pins s σ H xs us Q I r h
  obtain ⟨p, bs, rfl, hq, q⟩ := h
  obtain ⟨u, rfl, rx⟩ := vals1 r
  cases rx
  obtain ⟨its, rv, pl, hz⟩ := I.list hq
  have hl := rv.length
  rw [List.length_map] at hl
  have hne : p ≠ s.heap.objs.size := by obtain ⟨o, ho, _⟩ := pl.isList; exact Nat.ne_of_lt (Heap.lt_size ho)
  refine call_any_walk (wpAny_pyIter_list pl.isList ?_)
  refine ⟨_, _, _, _, _, _, _, rfl, Walks.list (A := X.A.in1) (I.ok.hd hc) _ p hne its.toArray, ⟨⟨_, Heap.get?_push_size _ rfl, rfl, rfl⟩, pl.isList.at fun o e => Heap.get?_push_of_some _ e⟩, truthOf_bools rv, fun h' tk hk => ?_⟩
  have hfr : H s.heap.objs.size = none := I.hok.fresh (Nat.le_refl _)
  have fp : FpOk X pins H s.heap.objs.size := I.fpOk (Nat.le_refl _) hfr
  have e : ((List.range its.toArray.size).any fun i => bs.getD i false) = bs.any id := by rw [List.size_toArray, ← hl]; exact range_any_getD bs
  rw [e]
  exact ⟨.bl (bs.any id), H, Inv.turned (it := s.heap.objs.size) (h' := h') (t' := tk) (I.kept (t' := s.toks) fun b o e => Heap.get?_push_of_some _ e) (fun b o hb e => hk b o (by simpa using hb) e) fp.1 fp.2.1 fp.2.2.2.1 fp.2.2.2.2.1 fp.2.2.2.2.2, rfl, q⟩
end
end L2

set_option Elab.async false
set_option linter.all false
set_option maxRecDepth 100000
namespace L2
open PySem PySem.Spec PyProof.Rows

/-! ### data: what a value stands for, down to its leaves -/
inductive Dv where
  | non | bl (b : Bool) | int (i : Int) | str (x : Str) | tup (l : List Dv) | lst (l : List Dv)
mutual
def Dv.eqv : Dv → Dv → Bool
  | .non, .non => true
  | .bl a, .bl b => a == b
  | .int a, .int b => a == b
  | .str a, .str b => decide (a = b)
  | .tup a, .tup b => eqvL a b
  | .lst a, .lst b => eqvL a b
  | _, _ => false
def eqvL : List Dv → List Dv → Bool
  | [], [] => true
  | a :: r, b :: t => a.eqv b && eqvL r t
  | _, _ => false
end
/-! they may be compared: of one kind wherever == looks -/
mutual
def Dv.cmp : Dv → Dv → Bool
  | .non, .non => true
  | .bl _, .bl _ => true
  | .int _, .int _ => true
  | .str _, .str _ => true
  | .tup a, .tup b => cmpL a b
  | .lst a, .lst b => cmpL a b
  | _, _ => false
def cmpL : List Dv → List Dv → Bool
  | a :: r, b :: t => a.cmp b && cmpL r t
  | _, _ => true
end
mutual
def Dv.dep : Dv → Nat
  | .tup l => depL l + 1
  | .lst l => depL l + 1
  | _ => 0
def depL : List Dv → Nat
  | [] => 0
  | d :: r => max d.dep (depL r)
end
mutual
def Den (K : PySem.W.Frag) (H : Hp) : Dv → V → Prop
  | .non, v => v = .non
  | .bl b, v => v = .bl b
  | .int i, v => v = .int i
  | .str x, v => v = .str x
  | .tup ds, v => ∃ a xs, v = .ref a ∧ SqT K H a xs ∧ DenL K H ds xs
  | .lst ds, v => ∃ a xs, v = .ref a ∧ SqL K H a xs ∧ DenL K H ds xs
def DenL (K : PySem.W.Frag) (H : Hp) : List Dv → List V → Prop
  | [], xs => xs = []
  | d :: ds, xs => ∃ x r, xs = x :: r ∧ Den K H d x ∧ DenL K H ds r
end
mutual
theorem Dv.eqv_iff : ∀ (a b : Dv), a.eqv b = true ↔ a = b
  | .non, b => by cases b <;> simp [Dv.eqv]
  | .bl x, b => by cases b <;> simp [Dv.eqv]
  | .int x, b => by cases b <;> simp [Dv.eqv]
  | .str x, b => by cases b <;> simp [Dv.eqv]
  | .tup l, b => by
    cases b with
    | tup m => simp only [Dv.eqv, Dv.tup.injEq]; exact eqvL_iff l m
    | _ => simp [Dv.eqv]
  | .lst l, b => by
    cases b with
    | lst m => simp only [Dv.eqv, Dv.lst.injEq]; exact eqvL_iff l m
    | _ => simp [Dv.eqv]
theorem eqvL_iff : ∀ (a b : List Dv), eqvL a b = true ↔ a = b
  | [], b => by cases b <;> simp [eqvL]
  | x :: r, b => by
    cases b with
    | nil => simp [eqvL]
    | cons y t => simp only [eqvL, Bool.and_eq_true, List.cons.injEq, Dv.eqv_iff x y, eqvL_iff r t]
end
mutual
theorem Den.up {K : PySem.W.Frag} {H H' : Hp} (ht : ∀ a xs, SqT K H a xs → SqT K H' a xs) (hl : ∀ a xs, SqL K H a xs → SqL K H' a xs) : ∀ (d : Dv) (v : V), Den K H d v → Den K H' d v
  | .non, _, h => h
  | .bl _, _, h => h
  | .int _, _, h => h
  | .str _, _, h => h
  | .tup ds, v, ⟨a, xs, e, q, r⟩ => ⟨a, xs, e, ht _ _ q, DenL.up ht hl ds xs r⟩
  | .lst ds, v, ⟨a, xs, e, q, r⟩ => ⟨a, xs, e, hl _ _ q, DenL.up ht hl ds xs r⟩
theorem DenL.up {K : PySem.W.Frag} {H H' : Hp} (ht : ∀ a xs, SqT K H a xs → SqT K H' a xs) (hl : ∀ a xs, SqL K H a xs → SqL K H' a xs) : ∀ (ds : List Dv) (xs : List V), DenL K H ds xs → DenL K H' ds xs
  | [], _, h => h
  | d :: ds, xs, ⟨x, r, e, h1, h2⟩ => ⟨x, r, e, Den.up ht hl d x h1, DenL.up ht hl ds r h2⟩
end
section
variable {X : Cx} {pins : List (Addr × Obj)} {σ : St} {H : Hp} {s : Shared}
mutual
theorem Den.inj (I : Inv X pins σ H s) : ∀ (d e : Dv) (v : V), Den X.K H d v → Den X.K H e v → d.cmp e = true → d = e
  | .non, e, v, h, h', c => by cases e <;> simp [Dv.cmp] at c; rfl
  | .bl x, e, v, h, h', c => by
    cases e <;> simp [Dv.cmp] at c
    have := Eq.trans (Eq.symm (show v = .bl x from h)) (show v = .bl _ from h')
    cases this; rfl
  | .int x, e, v, h, h', c => by
    cases e <;> simp [Dv.cmp] at c
    have := Eq.trans (Eq.symm (show v = .int x from h)) (show v = .int _ from h')
    cases this; rfl
  | .str x, e, v, h, h', c => by
    cases e <;> simp [Dv.cmp] at c
    have := Eq.trans (Eq.symm (show v = .str x from h)) (show v = .str _ from h')
    cases this; rfl
  | .tup l, e, v, h, h', c => by
    cases e with
    | tup m =>
      obtain ⟨a, xs, e1, q1, r1⟩ := h
      obtain ⟨b, ys, e2, q2, r2⟩ := h'
      have e3 := Eq.trans (Eq.symm e1) e2
      cases e3
      have e4 := I.tuple_inj q1 q2
      subst e4
      rw [DenL.inj I l m xs r1 r2 (by simpa [Dv.cmp] using c)]
    | _ => simp [Dv.cmp] at c
  | .lst l, e, v, h, h', c => by
    cases e with
    | lst m =>
      obtain ⟨a, xs, e1, q1, r1⟩ := h
      obtain ⟨b, ys, e2, q2, r2⟩ := h'
      have e3 := Eq.trans (Eq.symm e1) e2
      cases e3
      have e4 := I.list_inj q1 q2
      subst e4
      rw [DenL.inj I l m xs r1 r2 (by simpa [Dv.cmp] using c)]
    | _ => simp [Dv.cmp] at c
theorem DenL.inj (I : Inv X pins σ H s) : ∀ (ds es : List Dv) (xs : List V), DenL X.K H ds xs → DenL X.K H es xs → cmpL ds es = true → ds = es
  | [], es, xs, h, h', c => by
    cases es with
    | nil => rfl
    | cons e es =>
      obtain ⟨x, r, e1, _⟩ := h'
      rw [show xs = [] from h] at e1
      cases e1
  | d :: ds, es, xs, h, h', c => by
    cases es with
    | nil =>
      obtain ⟨x, r, e1, _⟩ := h
      rw [show xs = [] from h'] at e1
      cases e1
    | cons e es =>
      obtain ⟨x, r, e1, h1, h2⟩ := h
      obtain ⟨y, t, e2, h3, h4⟩ := h'
      have e3 := Eq.trans (Eq.symm e1) e2
      cases e3
      simp only [cmpL, Bool.and_eq_true] at c
      rw [Den.inj I d e x h1 h3 c.1, DenL.inj I ds es r h2 h4 c.2]
end
theorem DenL.len {K : PySem.W.Frag} {H : Hp} : ∀ {ds : List Dv} {xs : List V}, DenL K H ds xs → ds.length = xs.length
  | [], _, h => by rw [show _ = [] from h]; rfl
  | d :: ds, xs, ⟨x, r, e, _, h⟩ => by rw [e, List.length_cons, List.length_cons, DenL.len h]
theorem DenL.get {K : PySem.W.Frag} {H : Hp} : ∀ {ds : List Dv} {xs : List V} {j : Nat} {d : Dv} {x : V}, DenL K H ds xs → ds[j]? = some d → xs[j]? = some x → Den K H d x
  | [], _, _, _, _, _, e, _ => by simp at e
  | d :: ds, xs, 0, d', x', ⟨x, r, e, h1, _⟩, e1, e2 => by
    subst e
    simp at e1 e2
    subst e1 e2
    exact h1
  | d :: ds, xs, j + 1, d', x', ⟨x, r, e, _, h2⟩, e1, e2 => by
    subst e
    exact DenL.get (j := j) h2 (by simpa using e1) (by simpa using e2)
theorem cmpL_get : ∀ {ds es : List Dv} {j : Nat} {d e : Dv}, cmpL ds es = true → ds[j]? = some d → es[j]? = some e → d.cmp e = true
  | [], _, _, _, _, _, h, _ => by simp at h
  | _ :: _, [], _, _, _, _, _, h => by simp at h
  | a :: r, b :: t, 0, d, e, c, h1, h2 => by
    simp at h1 h2
    subst h1 h2
    simp only [cmpL, Bool.and_eq_true] at c
    exact c.1
  | a :: r, b :: t, j + 1, d, e, c, h1, h2 => by
    simp only [cmpL, Bool.and_eq_true] at c
    exact cmpL_get (j := j) c.2 (by simpa using h1) (by simpa using h2)
theorem depL_get : ∀ {ds : List Dv} {j : Nat} {d : Dv}, ds[j]? = some d → d.dep ≤ depL ds
  | [], _, _, h => by simp at h
  | a :: r, 0, d, h => by simp at h; subst h; simp only [depL]; omega
  | a :: r, j + 1, d, h => by
    have := depL_get (ds := r) (j := j) (d := d) (by simpa using h)
    simp only [depL]; omega
/-- two lists' answers, place by place -/
def eqvAt (ds es : List Dv) (j : Nat) : Bool := match ds[j]?, es[j]? with
  | some d, some e => d.eqv e
  | _, _ => true
theorem eqvL_all : ∀ (ds es : List Dv), ((List.range (min ds.length es.length)).all (eqvAt ds es) && ds.length == es.length) = eqvL ds es
  | [], [] => rfl
  | [], e :: es => by simp [eqvL]
  | d :: ds, [] => by simp [eqvL]
  | d :: ds, e :: es => by
    have ih := eqvL_all ds es
    have h1 : min (d :: ds).length (e :: es).length = min ds.length es.length + 1 := by simp only [List.length_cons]; omega
    have hf : ((List.range (min ds.length es.length)).map Nat.succ).all (eqvAt (d :: ds) (e :: es)) = (List.range (min ds.length es.length)).all (eqvAt ds es) := by
      rw [List.all_map]
      rfl
    have h0 : eqvAt (d :: ds) (e :: es) 0 = d.eqv e := rfl
    have h2 : ((d :: ds).length == (e :: es).length) = (ds.length == es.length) := by simp
    rw [h1, List.range_succ_eq_map, List.all_cons, hf, h0, h2, Bool.and_assoc, ih, eqvL]
theorem units_in1 (A : Around) : A.in1.units = A.units + 1 := rfl
theorem eqAt_D (I : Inv X pins σ H s) : ∀ (n : Nat) (d e : Dv), d.dep ≤ n → ∀ (A : Around) (x y : V) (u v : Value), A.units + n < cLine → Den X.K H d x → Den X.K H e y → RelV x u → RelV y v → d.cmp e = true → SeqAt.EqAt A s u v (d.eqv e) := by
  intro n
  induction n with
  | zero =>
    intro d e hd A x y u v hu h1 h2 r1 r2 hc
    cases d with
    | non => cases e <;> simp [Dv.cmp] at hc; rw [show x = .non from h1] at r1; rw [show y = .non from h2] at r2; cases r1; cases r2; exact SeqAt.EqAt.same _
    | bl a => cases e with | bl b => (rw [show x = .bl a from h1] at r1; rw [show y = .bl b from h2] at r2; cases r1; cases r2; exact SeqAt.EqAt.bool_bool a b) | _ => simp [Dv.cmp] at hc
    | int a => cases e with | int b => (rw [show x = .int a from h1] at r1; rw [show y = .int b from h2] at r2; obtain ⟨t, rfl⟩ := r1; obtain ⟨t', rfl⟩ := r2; exact SeqAt.EqAt.int_int a t b t') | _ => simp [Dv.cmp] at hc
    | str a => cases e with | str b => (rw [show x = .str a from h1] at r1; rw [show y = .str b from h2] at r2; obtain ⟨t, rfl⟩ := r1; obtain ⟨t', rfl⟩ := r2; have q := SeqAt.EqAt.str_str (A := A) (s := s) a t b t'; rw [Bool.beq_eq_decide_eq] at q; exact q) | _ => simp [Dv.cmp] at hc
    | tup l => simp [Dv.dep] at hd
    | lst l => simp [Dv.dep] at hd
  | succ n ih =>
    intro d e hd A x y u v hu h1 h2 r1 r2 hc
    cases d with
    | non => exact ih .non e (by simp [Dv.dep]) A x y u v (by omega) h1 h2 r1 r2 hc
    | bl a => exact ih (.bl a) e (by simp [Dv.dep]) A x y u v (by omega) h1 h2 r1 r2 hc
    | int a => exact ih (.int a) e (by simp [Dv.dep]) A x y u v (by omega) h1 h2 r1 r2 hc
    | str a => exact ih (.str a) e (by simp [Dv.dep]) A x y u v (by omega) h1 h2 r1 r2 hc
    | tup l =>
      cases e with
      | tup m =>
        obtain ⟨a, xs, ea, qa, ra⟩ := id h1
        obtain ⟨b, ys, eb, qb, rb⟩ := id h2
        subst ea eb
        cases r1
        cases r2
        by_cases hab : a = b
        · subst hab
          have e1 := Den.inj I _ _ _ h1 h2 hc
          rw [(Dv.eqv_iff _ _).mpr e1]
          exact SeqAt.EqAt.same _
        · obtain ⟨its, va, ta, _⟩ := I.tuple qa
          obtain ⟨jts, vb, tb, _⟩ := I.tuple qb
          have la := ra.len.trans va.length
          have lb := rb.len.trans vb.length
          refine SeqAt.EqAt.of_refs hab ?_
          have key := SeqAt.RcAt.tuples (A := A) (e := eqvAt l m) (show s.heap.IsTuple a its.toArray from ta) (show s.heap.IsTuple b jts.toArray from tb) (by omega) (fun j h1' h2' => ?_)
          · simp only [List.size_toArray] at key
            rw [← la, ← lb, eqvL_all] at key
            exact key
          · simp only [List.size_toArray] at h1' h2'
            simp only [List.getElem_toArray]
            have gl : l[j]? = some (l[j]'(by omega)) := List.getElem?_eq_getElem (by omega)
            have gm : m[j]? = some (m[j]'(by omega)) := List.getElem?_eq_getElem (by omega)
            have gx : xs[j]? = some (xs[j]'(by rw [va.length]; omega)) := List.getElem?_eq_getElem _
            have gy : ys[j]? = some (ys[j]'(by rw [vb.length]; omega)) := List.getElem?_eq_getElem _
            obtain ⟨u', gu, ru⟩ := va.get gx
            obtain ⟨v', gv, rv⟩ := vb.get gy
            rw [List.getElem?_eq_getElem h1'] at gu
            rw [List.getElem?_eq_getElem h2'] at gv
            cases gu
            cases gv
            have e1 : eqvAt l m j = (l[j]'(by omega)).eqv (m[j]'(by omega)) := by simp only [eqvAt, gl, gm]
            rw [e1]
            have hdep := depL_get gl
            simp only [Dv.dep] at hd
            simp only [Dv.cmp] at hc
            exact ih _ _ (by omega) A.in1 _ _ _ _ (by rw [units_in1]; omega) (ra.get gl gx) (rb.get gm gy) ru rv (cmpL_get hc gl gm)
      | _ => simp [Dv.cmp] at hc
    | lst l =>
      cases e with
      | lst m =>
        obtain ⟨a, xs, ea, qa, ra⟩ := id h1
        obtain ⟨b, ys, eb, qb, rb⟩ := id h2
        subst ea eb
        cases r1
        cases r2
        by_cases hab : a = b
        · subst hab
          have e1 := Den.inj I _ _ _ h1 h2 hc
          rw [(Dv.eqv_iff _ _).mpr e1]
          exact SeqAt.EqAt.same _
        · obtain ⟨its, va, ta, _⟩ := I.list qa
          obtain ⟨jts, vb, tb, _⟩ := I.list qb
          have la := ra.len.trans va.length
          have lb := rb.len.trans vb.length
          refine SeqAt.EqAt.of_refs hab ?_
          by_cases hsz : its.length = jts.length
          · have key := SeqAt.RcAt.lists (A := A) (e := eqvAt l m) ta.isList tb.isList (by simpa using hsz) (by omega) (fun j h1' h2' => ?_)
            · simp only [List.size_toArray] at key
              have e2 := eqvL_all l m
              rw [la, lb, hsz, Nat.min_self, beq_self_eq_true, Bool.and_true] at e2
              rw [hsz, e2] at key
              exact key
            · simp only [List.size_toArray] at h1' h2'
              simp only [List.getElem_toArray]
              have gl : l[j]? = some (l[j]'(by omega)) := List.getElem?_eq_getElem (by omega)
              have gm : m[j]? = some (m[j]'(by omega)) := List.getElem?_eq_getElem (by omega)
              have gx : xs[j]? = some (xs[j]'(by rw [va.length]; omega)) := List.getElem?_eq_getElem _
              have gy : ys[j]? = some (ys[j]'(by rw [vb.length]; omega)) := List.getElem?_eq_getElem _
              obtain ⟨u', gu, ru⟩ := va.get gx
              obtain ⟨v', gv, rv⟩ := vb.get gy
              rw [List.getElem?_eq_getElem h1'] at gu
              rw [List.getElem?_eq_getElem h2'] at gv
              cases gu
              cases gv
              have e1 : eqvAt l m j = (l[j]'(by omega)).eqv (m[j]'(by omega)) := by simp only [eqvAt, gl, gm]
              rw [e1]
              have hdep := depL_get gl
              simp only [Dv.dep] at hd
              simp only [Dv.cmp] at hc
              exact ih _ _ (by omega) A.in1 _ _ _ _ (by rw [units_in1]; omega) (ra.get gl gx) (rb.get gm gy) ru rv (cmpL_get hc gl gm)
          · have e2 : (Dv.lst l).eqv (.lst m) = false := by
              rw [Bool.eq_false_iff]
              intro z
              have z' := (Dv.eqv_iff _ _).mp z
              cases z'
              omega
            rw [e2]
            exact SeqAt.RcAt.lists_lengths ta.isList tb.isList (by simpa using hsz) (by omega)
      | _ => simp [Dv.cmp] at hc

/-- the items' answers -/
theorem items_D (I : Inv X pins σ H s) {l m : List Dv} {xs ys : List V} {its jts : List Value} {A : Around} (hd : depL l ≤ 60) (hu : A.units + 64 < cLine) (ra : DenL X.K H l xs) (rb : DenL X.K H m ys) (va : Vals xs its) (vb : Vals ys jts) (hc : cmpL l m = true)
    (j : Nat) (h1' : j < its.toArray.size) (h2' : j < jts.toArray.size) : SeqAt.EqAt A.in1 s its.toArray[j] jts.toArray[j] (eqvAt l m j) := by
  simp only [List.size_toArray] at h1' h2'
  simp only [List.getElem_toArray]
  have la := ra.len.trans va.length
  have lb := rb.len.trans vb.length
  have gl : l[j]? = some (l[j]'(by omega)) := List.getElem?_eq_getElem (by omega)
  have gm : m[j]? = some (m[j]'(by omega)) := List.getElem?_eq_getElem (by omega)
  have gx : xs[j]? = some (xs[j]'(by rw [va.length]; omega)) := List.getElem?_eq_getElem _
  have gy : ys[j]? = some (ys[j]'(by rw [vb.length]; omega)) := List.getElem?_eq_getElem _
  obtain ⟨u', gu, ru⟩ := va.get gx
  obtain ⟨v', gv, rv⟩ := vb.get gy
  rw [List.getElem?_eq_getElem h1'] at gu
  rw [List.getElem?_eq_getElem h2'] at gv
  cases gu
  cases gv
  have e1 : eqvAt l m j = (l[j]'(by omega)).eqv (m[j]'(by omega)) := by simp only [eqvAt, gl, gm]
  rw [e1]
  have hdep := depL_get gl
  exact eqAt_D I 60 _ _ (by omega) A.in1 _ _ _ _ (by rw [units_in1]; omega) (ra.get gl gx) (rb.get gm gy) ru rv (cmpL_get hc gl gm)
/-- ==, != of two tuples, of two lists, by what they stand for -/
def rEqD (K : PySem.W.Frag) (neg : Bool) : R2 := fun x y H Q => (∃ l m, Den K H (.tup l) x ∧ Den K H (.tup m) y ∧ cmpL l m = true ∧ depL l ≤ 60 ∧ Q (.bl (if neg then !eqvL l m else eqvL l m)) H) ∨
  ∃ l m, Den K H (.lst l) x ∧ Den K H (.lst m) y ∧ cmpL l m = true ∧ depL l ≤ 60 ∧ Q (.bl (if neg then !eqvL l m else eqvL l m)) H
theorem op_eqD (hu : X.A.units + 64 < cLine) : OpR X (compareOp .Eq) (rEqD X.K false) := by
  intro pins s σ H x y v u Q I rx ry h
  rcases h with ⟨l, m, ⟨a, xs, ea, qa, ra⟩, ⟨b, ys, eb, qb, rb⟩, hc, hd, q⟩ | ⟨l, m, ⟨a, xs, ea, qa, ra⟩, ⟨b, ys, eb, qb, rb⟩, hc, hd, q⟩
  · subst ea eb
    cases rx
    cases ry
    obtain ⟨its, va, ta, _⟩ := I.tuple qa
    obtain ⟨jts, vb, tb, _⟩ := I.tuple qb
    have la := ra.len.trans va.length
    have lb := rb.len.trans vb.length
    refine SeqAt.RcAt.tuples (A := X.A) (e := eqvAt l m) (show s.heap.IsTuple a its.toArray from ta) (show s.heap.IsTuple b jts.toArray from tb) (by omega) (fun j h1 h2 => items_D I hd hu ra rb va vb hc j h1 h2) _ _ _ _ ?_
    simp only [List.size_toArray]
    rw [← la, ← lb, eqvL_all]
    exact ⟨.bl _, H, I, rfl, q⟩
  · subst ea eb
    cases rx
    cases ry
    obtain ⟨its, va, ta, _⟩ := I.list qa
    obtain ⟨jts, vb, tb, _⟩ := I.list qb
    have la := ra.len.trans va.length
    have lb := rb.len.trans vb.length
    by_cases hsz : its.length = jts.length
    · refine SeqAt.RcAt.lists (A := X.A) (e := eqvAt l m) ta.isList tb.isList (by simpa using hsz) (by omega) (fun j h1 h2 => items_D I hd hu ra rb va vb hc j h1 h2) _ _ _ _ ?_
      have e2 := eqvL_all l m
      rw [la, lb, hsz, Nat.min_self, beq_self_eq_true, Bool.and_true] at e2
      simp only [List.size_toArray]
      rw [hsz, e2]
      exact ⟨.bl _, H, I, rfl, q⟩
    · refine SeqAt.RcAt.lists_lengths (A := X.A) ta.isList tb.isList (by simpa using hsz) (by omega) _ _ _ _ ?_
      have e2 : eqvL l m = false := by
        rw [Bool.eq_false_iff]
        intro z
        have z' := (eqvL_iff _ _).mp z
        subst z'
        omega
      rw [e2] at q
      exact ⟨.bl _, H, I, rfl, q⟩
theorem op_neD (hu : X.A.units + 64 < cLine) : OpR X (compareOp .NotEq) (rEqD X.K true) := by
  intro pins s σ H x y v u Q I rx ry h
  rcases h with ⟨l, m, ⟨a, xs, ea, qa, ra⟩, ⟨b, ys, eb, qb, rb⟩, hc, hd, q⟩ | ⟨l, m, ⟨a, xs, ea, qa, ra⟩, ⟨b, ys, eb, qb, rb⟩, hc, hd, q⟩
  · subst ea eb
    cases rx
    cases ry
    obtain ⟨its, va, ta, _⟩ := I.tuple qa
    obtain ⟨jts, vb, tb, _⟩ := I.tuple qb
    have la := ra.len.trans va.length
    have lb := rb.len.trans vb.length
    refine SeqAt.RcNeAt.tuples (A := X.A) (e := eqvAt l m) (show s.heap.IsTuple a its.toArray from ta) (show s.heap.IsTuple b jts.toArray from tb) (by omega) (fun j h1 h2 => items_D I hd hu ra rb va vb hc j h1 h2) _ _ _ _ ?_
    simp only [List.size_toArray]
    rw [← la, ← lb, eqvL_all]
    exact ⟨.bl _, H, I, rfl, q⟩
  · subst ea eb
    cases rx
    cases ry
    obtain ⟨its, va, ta, _⟩ := I.list qa
    obtain ⟨jts, vb, tb, _⟩ := I.list qb
    have la := ra.len.trans va.length
    have lb := rb.len.trans vb.length
    by_cases hsz : its.length = jts.length
    · refine SeqAt.RcNeAt.lists (A := X.A) (e := eqvAt l m) ta.isList tb.isList (by simpa using hsz) (by omega) (fun j h1 h2 => items_D I hd hu ra rb va vb hc j h1 h2) _ _ _ _ ?_
      have e2 := eqvL_all l m
      rw [la, lb, hsz, Nat.min_self, beq_self_eq_true, Bool.and_true] at e2
      simp only [List.size_toArray]
      rw [hsz, e2]
      exact ⟨.bl _, H, I, rfl, q⟩
    · refine SeqAt.RcNeAt.lists_lengths (A := X.A) ta.isList tb.isList (by simpa using hsz) (by omega) _ _ _ _ ?_
      have e2 : eqvL l m = false := by
        rw [Bool.eq_false_iff]
        intro z
        have z' := (eqvL_iff _ _).mp z
        subst z'
        omega
      rw [e2] at q
      exact ⟨.bl _, H, I, rfl, q⟩

/-! ### isinstance against a built-in type -/
theorem call_isi {T : String} (b : Bool) : CallR X (.builtin "isinstance") (fun xs H Q => ∃ x t, xs = [x, .ty T] ∧ TyOf X.K H x t ∧ PySem.W.kitOne X.K t (.type T) = some b ∧ Q (.bl b) H) := by
  intro pins s σ H xs us Q I r h
  obtain ⟨x, t, rfl, ty, e, q⟩ := h
  obtain ⟨u, w', rfl, ru, rw'⟩ := vals2 r
  cases (show w' = Value.type T from rw')
  exact isinst_ok I ru ty e fun tk => ⟨.bl b, H, I.tok _, rfl, q⟩
/-! ### a, b, .. = a list of that length -/
def gLst (K : PySem.W.Frag) (n : Nat) (t : TGs) : TG := fun v σ H Q => ∃ a xs, v = .ref a ∧ SqL K H a xs ∧ xs.length = n ∧ t xs σ H Q

theorem draw_lst {prog : Program} {w : World} {A : Around} {E : Value → Shared → Prop} {it t : Addr} {items : Array Value} (hne : t ≠ it) : ∀ (n i : Nat) (s : Shared) (Q : List Value → Shared → Prop), s.heap.IsListIter it t i → s.heap.IsList t items → i + n ≤ items.size →
    (∀ h', h'.IsListIter it t (i + n) → Heap.SameBut it s.heap h' → Q ((items.toList.drop i).take n) { s with heap := h' }) → wpAny (model prog w) A (draw (.ref it) n) Q E s
  | 0, i, s, Q, hit, _, _, hQ => by
    show wpAny _ _ (pure []) Q E s
    exact wpAny_pure (by simpa using hQ s.heap hit (Heap.SameBut.refl ..))
  | n + 1, i, s, Q, hit, ht, hle, hQ => by
    have hlt : i < items.size := by omega
    show wpAny _ _ (pyNext (.ref it) >>= _) Q E s
    refine wpAny_bind (wpAny_pyNext_list_item hit ht (x := items[i]) (by simp [hlt]) fun h₁ hit₁ hs₁ => ?_)
    refine wpAny_bind (wpAny_holding (draw_lst hne n (i + 1) { s with heap := h₁ } _ hit₁ (ht.at fun o e => hs₁.extBut t o hne e) (by omega) fun h₂ hit₂ hs₂ => wpAny_pure ?_))
    have hd : items.toList.drop i = items[i] :: items.toList.drop (i + 1) := by simp [List.drop_eq_getElem_cons, hlt]
    have := hQ h₂ (by rw [show i + (n + 1) = i + 1 + n by omega]; exact hit₂) (hs₁.trans hs₂)
    rw [hd, List.take_succ_cons] at this
    exact this
theorem unpackItems_lst {prog : Program} {w : World} {A : Around} {E : Value → Shared → Prop} {s : Shared} {t : Addr} {items : Array Value} {Q : List Value → Shared → Prop} (hh : A.handled = none) (ht : s.heap.IsList t items)
    (hQ : ∀ h', Heap.ExtBut s.heap.objs.size s.heap h' → Q items.toList { s with heap := h' }) : wpAny (model prog w) A (unpackItems (.ref t) items.size none) Q E s := by
  have hlt : t ≠ s.heap.objs.size := by obtain ⟨o, ho, _⟩ := ht; exact Nat.ne_of_lt (Heap.lt_size ho)
  unfold unpackItems
  refine wpAny_bind ?_
  · unfold notIterableAtAll
    refine wpAny_bind (wpAny_specialOf ht.typeIs slot_list_iter.lookup ?_)
    refine wpAny_pure ?_
    simp only [Bool.false_eq_true, if_false]
    refine wpAny_bind (wpAny_holding (wpAny_pyIter_list ht ?_))
    refine wpAny_bind (wpAny_holding (draw_lst hlt items.size 0 _ _ ⟨_, Heap.get?_push_size _ rfl, rfl, rfl⟩ (ht.at fun o e => Heap.get?_push_of_some _ e) (by omega) fun h₁ hit₁ hs₁ => ?_))
    have hall : List.take items.size (List.drop 0 items.toList) = items.toList := by
      rw [List.drop_zero]; exact List.take_of_length_le (by simp)
    rw [hall]
    rw [if_neg (by simp)]
    have ht₁ : h₁.IsList t items := ht.at fun o e => hs₁.extBut t o hlt (Heap.get?_push_of_some _ e)
    refine wpAny_bind (wpAny_holding (wpAny_pyNext_list_end hh hit₁ ht₁ (by simp) fun h₂ he₂ => ?_))
    simp only [Option.isSome_none, Bool.false_eq_true, if_false]
    refine wpAny_pure (hQ h₂ fun b o hb e => he₂ b o hb (hs₁.extBut b o hb (Heap.get?_push_of_some _ e)))
theorem pg_unl {es : List Expr} {k : Nat} {t : TGs} {n : Nat} {pos : Pos} (hc : X.calm = true) (h : PGs X es t)
    (hn : (assignEach es X.env).length = n := by rfl) (hst : (assignEach es X.env).findIdx? (·.1) = none := by rfl) : PG X (.Tuple es k pos) (gLst X.K n t) := by
  intro pins s σ H v u Q I r hw
  obtain ⟨a, xs, e1, hq, hl, hw⟩ := hw
  subst e1
  cases r
  obtain ⟨its, rv, ht, hz⟩ := I.list hq
  rw [assign_Tuple]
  refine wpAny_bind (wpAny_standAt ?_)
  unfold unpack
  rw [hst, hn, show n = its.toArray.size by rw [List.size_toArray, ← rv.length, hl]]
  refine wpAny_bind (wpAny_holding (unpackItems_lst (I.ok.hd hc) ht.isList fun h' hx => ?_))
  have I1 : Inv X pins σ H { s with heap := h' } := I.kept (t' := s.toks) fun b o e => hx b o (Nat.ne_of_lt (Heap.lt_size e)) e
  exact h pins _ σ H xs _ Q I1 (by simpa using rv) hw
end
end L2

set_option Elab.async false
set_option linter.all false
set_option maxRecDepth 100000
namespace L2
open PySem PySem.Spec PyProof.Rows
/-- a def of the text that may be called: its promise sp, at k frames -/
structure Cal (P : Program) (w : World) (K : PySem.W.Frag) (mg : Str → Option Value) (base : Heap) (x : Str) (k : Nat) (ps : List Str) (sp : Sp) : Prop where
  ex : ∃ f fd, FnOk P w K mg base CX0 k f fd ps sp ∧ mg x = some (.ref f) ∧ PySem.W.keepIn K (.ref f) = true ∧ Binds K fd ps []
section
variable {X : Cx} {x : Str} {k : Nat} {ps : List Str} {sp : Sp} {e : Expr} {es : List Expr} {t : TA} {p pos : Pos}
theorem pe_cal (C : Cal X.prog X.w X.K X.mg X.base x k ps sp) (hr : Room k X.A) (hg : Gl X x) (ha : PA X (e :: es) t) (hdb : (x == ("__debug__" : Str)) = false := by decide)
    (hs : starEach (e :: es) X.env = (false, eval e X.env) :: starEach es X.env := by rfl) (hpl : (backTo pos (starEach es X.env)).any (·.1) = false := by rfl) :
    PE X (.Call (.Name x p) (e :: es) [] pos) (tCall sp [] E0 t) := by
  obtain ⟨f, fd, F, hm, hk, hb⟩ := C.ex
  exact pe_call F hr hg hm hk hb .nil pass0 ha hdb hs hpl
theorem pe_cal0 (C : Cal X.prog X.w X.K X.mg X.base x k ps sp) (hr : Room k X.A) (hg : Gl X x) (hdb : (x == ("__debug__" : Str)) = false := by decide) :
    PE X (.Call (.Name x p) [] [] pos) (tCall sp [] E0 tNil) := by
  obtain ⟨f, fd, F, hm, hk, hb⟩ := C.ex
  exact pe_call0 F hr hg hm hk hb .nil pass0 hdb
end

/-! ### heaps grow -/
/-- all that was tracked but at d and l is as it was -/
def Kp (d l : Addr) (H H' : Hp) : Prop := ∀ b o, b ≠ d → b ≠ l → H b = some o → H' b = some o
theorem Kp.refl {d l : Addr} {H : Hp} : Kp d l H H := fun _ _ _ _ h => h
theorem Kp.trans {d l : Addr} {H H1 H2 : Hp} (a : Kp d l H H1) (b : Kp d l H1 H2) : Kp d l H H2 := fun c o h1 h2 h => b c o h1 h2 (a c o h1 h2 h)
theorem Kp.of {d l : Addr} {H H' : Hp} (h : Same H H') : Kp d l H H' := fun b o _ _ e => h b o e
theorem Same.upd {H : Hp} {p : Addr} {o : HO} (h : H p = none) : Same H (upd H p o) := fun b u e => by rw [upd_ne (ne_of_none e h)]; exact e
theorem Same.put {H H1 : Hp} {p : Addr} {o : HO} (s : Same H H1) (h : H1 p = none) : Same H (L2.upd H1 p o) := s.trans (.upd h)

/-! ### the dealer of the laws: a dict of a seed, a number, and a list of numbers left -/
def dealKvs (s n : Int) (l : Addr) : List (Key × V) := [(.inr "seed", .int s), (.inr "number", .int n), (.inr "left", .ref l)]
structure DealOk (s n : Int) (ls : List Int) : Prop where
  s0 : 0 ≤ s
  s1 : s < 2147483647
  n0 : 0 ≤ n
  all : ∀ i ∈ ls, 0 ≤ i
  len : ls.length ≤ 100
def Deal (H : Hp) (d l : Addr) : Prop := ∃ s n ls, H d = some (.dK (dealKvs s n l)) ∧ H l = some (.lst (ls.map V.int)) ∧ DealOk s n ls
theorem Deal.ne {H : Hp} {d l : Addr} (h : Deal H d l) : d ≠ l := by
  obtain ⟨s, n, ls, h1, h2, _⟩ := h
  exact ne_of h1 h2 (by intro z; cases z)
/-- a tuple stands elsewhere -/
theorem Deal.tup {H : Hp} {d l t : Addr} {xs : List V} (h : Deal H d l) (ht : H t = some (.tup xs)) : t ≠ d ∧ t ≠ l := by
  obtain ⟨s, n, ls, h1, h2, _⟩ := h
  exact ⟨ne_of ht h1 (by intro z; cases z), ne_of ht h2 (by intro z; cases z)⟩
theorem Deal.free {H : Hp} {d l t : Addr} (h : Deal H d l) (ht : H t = none) : t ≠ d ∧ t ≠ l := by
  obtain ⟨s, n, ls, h1, h2, _⟩ := h
  exact ⟨Ne.symm (ne_of_none h1 ht), Ne.symm (ne_of_none h2 ht)⟩
theorem Deal.same {H H' : Hp} {d l : Addr} (h : Deal H d l) (s : Same H H') : Deal H' d l := by
  obtain ⟨a, n, ls, h1, h2, o⟩ := h
  exact ⟨a, n, ls, s _ _ h1, s _ _ h2, o⟩
theorem Kp.tup {d l t : Addr} {H H' : Hp} {xs : List V} (k : Kp d l H H') (h : Deal H d l) (ht : H t = some (.tup xs)) : H' t = some (.tup xs) := k t _ (h.tup ht).1 (h.tup ht).2 ht
theorem str_ne {a b : Str} (h : a ≠ b) : (Sum.inr a : Key) ≠ Sum.inr b := fun z => h (Sum.inr.inj z)
theorem deal_seed (s n : Int) (l : Addr) : valV (dealKvs s n l) (.inr "seed") = some (.int s) := rfl
theorem deal_number (s n : Int) (l : Addr) : valV (dealKvs s n l) (.inr "number") = some (.int n) := by
  unfold dealKvs
  rw [valV_neg (str_ne (by decide +kernel)), valV_pos rfl]
theorem deal_left (s n : Int) (l : Addr) : valV (dealKvs s n l) (.inr "left") = some (.ref l) := by
  unfold dealKvs
  rw [valV_neg (str_ne (by decide +kernel)), valV_neg (str_ne (by decide +kernel)), valV_pos rfl]
theorem deal_putN (s n m : Int) (l : Addr) : putK (dealKvs s n l) (.inr "number") (.int m) = dealKvs s m l := by
  have h1 : ((Sum.inr "seed" : Key) = (Sum.inr "number" : Key)) = False := eq_false (by decide +kernel)
  have h2 : ((Sum.inr "left" : Key) = (Sum.inr "number" : Key)) = False := eq_false (by decide +kernel)
  simp [putK, dealKvs, h1, h2]
theorem deal_putS (s n m : Int) (l : Addr) : putK (dealKvs s n l) (.inr "seed") (.int m) = dealKvs m n l := by
  have h1 : ((Sum.inr "number" : Key) = (Sum.inr "seed" : Key)) = False := eq_false (by decide +kernel)
  have h2 : ((Sum.inr "left" : Key) = (Sum.inr "seed" : Key)) = False := eq_false (by decide +kernel)
  simp [putK, dealKvs, h1, h2]
/-- _law_draw(deal, many) -/
def spDraw : Sp := fun vs H Q _ => ∃ (d l : Addr) (many : Int), vs = [.ref d, .int many] ∧ Deal H d l ∧ 0 < many ∧ many < 2 ^ 200 ∧ ∀ (r : Int) (H' : Hp), 0 ≤ r → r < many → Deal H' d l → Kp d l H H' → Q (.int r) H'
/-- _law_deal(script, base) -/
def spDeal (K : PySem.W.Frag) : Sp := fun vs H Q _ => ∃ (a : Addr) (ns : List Int) (base : Nat), vs = [.ref a, .int base] ∧ SqL K H a (ns.map V.int) ∧ ns.length ≤ 63 ∧ base ≤ 63 ∧ ∀ (d l : Addr) (H' : Hp), H d = none → H l = none → Deal H' d l → Same H H' → Q (.ref d) H'
end L2

set_option Elab.async false
set_option linter.all false
set_option maxRecDepth 100000
namespace L2
open PySem PySem.Spec PyProof.Rows
/-! ### the side conditions by the outermost constructor alone -/
def nst : Expr → Bool
  | .Starred .. => false
  | _ => true
theorem star_of {e : Expr} {es : List Expr} {env : Env} (h : nst e = true) : starEach (e :: es) env = (false, eval e env) :: starEach es env := by
  cases e <;> first | rfl | cases h
theorem back_of {env : Env} {pos : Pos} : ∀ {es : List Expr}, es.all nst = true → (backTo pos (starEach es env)).any (·.1) = false
  | [], _ => rfl
  | e :: es, h => by
    simp only [List.all_cons, Bool.and_eq_true] at h
    rw [star_of h.1]
    show (false || (backTo pos (starEach es env)).any (·.1)) = false
    rw [back_of h.2]; rfl
def nsl : Expr → Bool
  | .Slice .. => false
  | _ => true
theorem plain_ix {b : Expr} (h : nsl b = true) : PlainIx b := fun o i => by cases b <;> first | rfl | cases h
def nco : Expr → Bool
  | .ListComp .. | .SetComp .. | .DictComp .. => false
  | _ => true
theorem swaps_of {e : Expr} {tg : Option Expr} {l : Nat} {env : Env} (h : nco e = true) : swapsWith e tg l env = pure false := by cases e <;> first | rfl | cases h
theorem sole_of {e : Expr} {tg : Expr} {l : Nat} {env : Env} (h : nco e = true) : swapsWithSole [tg] e l env = pure false := swaps_of h
theorem sole_tup {e : Expr} {es : List Expr} {k : Nat} {p : Pos} {l : Nat} {env : Env} : swapsWithSole [.Tuple es k p] e l env = pure false := by
  show swapsWith e (some (.Tuple es k p)) l env = pure false
  cases e <;> rfl
def ntu : Expr → Bool
  | .Tuple .. => false
  | _ => true
theorem stores_of {e : Expr} {tg : Expr} {env : Env} (h : ntu e = true) : swappedStores [tg] e env = pure none := by cases e <;> first | (cases tg <;> rfl) | cases h
theorem assignEach_one {tg : Expr} {env : Env} (h : nst tg = true) : (assignEach [tg] env).map (·.2) = [assign tg env] := by cases tg <;> first | rfl | cases h
theorem assignEach_cons {tg : Expr} {es : List Expr} {env : Env} (h : nst tg = true) : (assignEach (tg :: es) env).map (·.2) = assign tg env :: (assignEach es env).map (·.2) := by cases tg <;> first | rfl | cases h
theorem assignEach_len {env : Env} : ∀ {es : List Expr}, es.all nst = true → (assignEach es env).length = es.length ∧ (assignEach es env).findIdx? (·.1) = none
  | [], _ => ⟨rfl, rfl⟩
  | e :: es, h => by
    simp only [List.all_cons, Bool.and_eq_true] at h
    obtain ⟨h1, h2⟩ := assignEach_len (env := env) h.2
    have e1 : assignEach (e :: es) env = (false, assign e env) :: assignEach es env := by
      have := h.1
      cases e <;> first | rfl | cases this
    rw [e1]
    refine ⟨by rw [List.length_cons, h1, List.length_cons], ?_⟩
    rw [List.findIdx?_cons]
    simp [h2]
def nse : Expr → Bool
  | .Set .. => false
  | _ => true
theorem setit_of {e : Expr} {env : Env} (h : nse e = true) (x : Value) : foldedSetIterable e env x = pure x := by cases e <;> first | rfl | cases h
def nba : Expr → Bool
  | .Call .. => false
  | _ => true
theorem base_of {o : Expr} {m : Str} {env : Env} (h : nba o = true) : attributeBase o m env (eval o env) = eval o env := by cases o <;> first | rfl | cases h
def ntt : Expr → Bool
  | .UnaryOp .. | .BoolOp .. | .IfExp .. | .Compare .. => false
  | _ => true
theorem true_of {e : Expr} {env : Env} (h : ntt e = true) (whole : Sem Value) : isTrue e env whole = (do let v ← whole; standAt e.pos; holding [v] (truthy v)) := by cases e <;> first | rfl | cases h

section
variable {X : Cx} {e o i a b : Expr} {es : List Expr} {te ta tb to ti : TE} {t : TA} {p pos cpos apos : Pos}
theorem qa (ha : PE X e te) (hr : PA X es t) (h : nst e = true := by rfl) : PA X (e :: es) (tCons te t) := pa_cons ha hr (star_of h)
theorem qix {r : R2} (hr : IxR X r) (ha : PE X a ta) (hb : PE X b tb) (h : nsl b = true := by rfl) : PE X (.Subscript a b pos) (tOp r ta tb) := pe_ix hr ha hb (plain_ix h)
theorem qdget (hu : X.A.units + 1 < cLine) (ho : PE X o to) (hi : PE X i ti) (h : nsl i = true := by rfl) : PE X (.Subscript o i pos) (tDGet to ti) := pe_dget hu ho hi (plain_ix h)
theorem qcal {x : Str} {k : Nat} {ps : List Str} {sp : Sp} (C : Cal X.prog X.w X.K X.mg X.base x k ps sp) (hr : Room k X.A) (hg : Gl X x) (ha : PA X (e :: es) t) (hdb : (x == ("__debug__" : Str)) = false := by decide)
    (h : (e :: es).all nst = true := by rfl) : PE X (.Call (.Name x p) (e :: es) [] pos) (tCall sp [] E0 t) := by
  simp only [List.all_cons, Bool.and_eq_true] at h
  exact pe_cal C hr hg ha hdb (star_of h.1) (back_of h.2)
theorem qcallB {x : Str} {id : String} {r : List V → Hp → VK → Prop} (hc : CallR X (.builtin id) r) (hg : Gl X x) (hm : X.mg x = none) (hv : bootBuiltins x = some (.builtin id)) (ha : PA X (e :: es) t) (hn : x ≠ "__name__" := by decide) (hdb : (x == ("__debug__" : Str)) = false := by decide)
    (h : (e :: es).all nst = true := by rfl) : PE X (.Call (.Name x p) (e :: es) [] pos) (tCB r t) := by
  simp only [List.all_cons, Bool.and_eq_true] at h
  exact pe_callB hc hg hm hv ha hn hdb (star_of h.1) (back_of h.2)
theorem qcallT {x : Str} {T : String} {r : List V → Hp → VK → Prop} (hc : CallR X (.type T) r) (hg : Gl X x) (hm : X.mg x = none) (hv : bootBuiltins x = some (.type T)) (ha : PA X (e :: es) t) (hn : x ≠ "__name__" := by decide) (hdb : (x == ("__debug__" : Str)) = false := by decide)
    (h : (e :: es).all nst = true := by rfl) : PE X (.Call (.Name x p) (e :: es) [] pos) (tCB r t) := by
  simp only [List.all_cons, Bool.and_eq_true] at h
  exact pe_callTy hc hg hm hv ha hn hdb (star_of h.1) (back_of h.2)
theorem qval (ha : PE X e te) (h : ntt e = true := by rfl) : PT X e (tB te) := pt_val ha (true_of h)
theorem qtruth (ha : PE X e te) (h : ntt e = true := by rfl) : PT X e (fun σ H Q => te σ H fun x H1 => ∃ k, TruV X.K x H1 k ∧ Q k H1) := pt_truth ha (true_of h)
theorem qset {j : Nat} {x : Str} {pos' : Pos} (hN : X.N.Nodup) (hi : X.N[j]? = some x) (hx : Loc X.env.scope x) (he : PE X e te) (hf : X.fn x = true ∨ X.env.scope.names.lookup x = some .local := by first | exact .inl rfl | exact .inr rfl | assumption) (h : nco e = true := by rfl) :
    PS X (.Assign [.Name x pos'] e pos) (tAsg te (gName j)) := ps_set hN hi hx he (swaps_of h) hf
theorem qasg {tg : Expr} {g : TG} (he : PE X e te) (hg : PG X tg g) (h1 : ntu e = true := by rfl) (h2 : nco e = true := by rfl) (h3 : nst tg = true := by rfl) : PS X (.Assign [tg] e pos) (tAsg te g) := ps_asg he hg (sole_of h2) (stores_of h1) (assignEach_one h3)
theorem qasgt {ts : List Expr} {k : Nat} {tp : Pos} {g : TG} (he : PE X e te) (hg : PG X (.Tuple ts k tp) g) (h1 : ntu e = true := by rfl) : PS X (.Assign [.Tuple ts k tp] e pos) (tAsg te g) := ps_asg he hg sole_tup (stores_of h1) rfl
theorem qgs {tg : Expr} {ts : List Expr} {g : TG} {gs : TGs} (h1 : PG X tg g) (h2 : PGs X ts gs) (h : nst tg = true := by rfl) : PGs X (tg :: ts) (gCons g gs) := pgs_cons h1 h2 (assignEach_cons h)
theorem qtup {ts : List Expr} {k n : Nat} {gs : TGs} (hc : X.calm = true) (h : PGs X ts gs) (hn : ts.length = n := by rfl) (h1 : ts.all nst = true := by rfl) : PG X (.Tuple ts k pos) (gTup X.K n gs) := pg_tup hc h ((assignEach_len h1).1.trans hn) (assignEach_len h1).2
theorem qunl {ts : List Expr} {k n : Nat} {gs : TGs} (hc : X.calm = true) (h : PGs X ts gs) (hn : ts.length = n := by rfl) (h1 : ts.all nst = true := by rfl) : PG X (.Tuple ts k pos) (gLst X.K n gs) := pg_unl hc h ((assignEach_len h1).1.trans hn) (assignEach_len h1).2
theorem qfor {tg iter : Expr} {body : List Stmt} {wi : TI} {g : TG} {tb : TS} (hp : PassesOwn (model X.prog X.w) X.A X.env X.xe) (hc : X.calm = true) (hi : PI X tg iter wi) (hg : PG X tg g) (hb : PSs X body tb) (h : nse iter = true := by rfl) :
    PS X (.For tg iter body [] pos) (tFor wi g tb) := ps_for hp hc hi hg hb (setit_of h)
theorem qexpr (he : PE X e te) (h : nco e = true := by rfl) : PS X (.Expr e pos) (tDrop te) := ps_expr he (swaps_of h)
theorem qdput {value : Expr} {tv : TE} {pos' : Pos} (hu : X.A.units + 1 < cLine) (ho : PE X o to) (hi : PE X i ti) (hv : PE X value tv) (h : nco value = true := by rfl) : PS X (.Assign [.Subscript o i pos'] value pos) (sDPut to ti tv) := ps_dput hu ho hi hv (swaps_of h)
theorem qlcomp {own fre : List Str} {ix : List Nat} {scope : Scope} {tg elt iter : Expr} {ifs : List Expr} {wi : TI} {g : TG} {tt : TT} (hc : X.calm = true) (S : CompScope X own fre ix scope) (hi : PI X tg iter wi)
    (hg : ∀ cl C s H fp, PG (compCx X (own ++ fre) scope cl C s H fp) tg g) (ht : ∀ cl C s H fp, PIfs (compCx X (own ++ fre) scope cl C s H fp) ifs tt) (he : ∀ cl C s H fp, PE (compCx X (own ++ fre) scope cl C s H fp) elt te)
    (h : nse iter = true := by rfl) : PE X (.ListComp elt [⟨tg, iter, ifs, 0⟩] scope pos) (tComp own ix wi g tt te) := pe_lcomp hc S hi hg ht he (setit_of h)
theorem qsetc {own fre : List Str} {ix : List Nat} {scope : Scope} {j : Nat} {x : Str} {pos' : Pos} {tg elt iter : Expr} {ifs : List Expr} {wi : TI} {g : TG} {tt : TT} (hN : X.N.Nodup) (hix : X.N[j]? = some x) (hx : Loc X.env.scope x)
    (hc : X.calm = true) (S : CompScope X own fre ix scope) (hi : PI X tg iter wi)
    (hg : ∀ cl C s H fp, PG (compCx X (own ++ fre) scope cl C s H fp) tg g) (ht : ∀ cl C s H fp, PIfs (compCx X (own ++ fre) scope cl C s H fp) ifs tt) (he : ∀ cl C s H fp, PE (compCx X (own ++ fre) scope cl C s H fp) elt te)
    (hsw : swapsWith (.ListComp elt [⟨tg, iter, ifs, 0⟩] scope cpos) (some (.Name x pos')) pos.line X.env = pure true := by rfl) (h : nse iter = true := by rfl) (hf : X.fn x = true ∨ X.env.scope.names.lookup x = some .local := by first | exact .inl rfl | exact .inr rfl | assumption) :
    PS X (.Assign [.Name x pos'] (.ListComp elt [⟨tg, iter, ifs, 0⟩] scope cpos) pos) (tAsg (tComp own ix wi g tt te) (gName j)) := ps_setc hN hix hx hc S hi hg ht he hsw (setit_of h) hf
theorem qrange1 {tg : Expr} {ta : TA} (hg : Gl X "range") (hm : X.mg "range" = none) (ha : PA X [a] ta) (h : nst a = true := by rfl) : PI X tg (.Call (.Name "range" p) [a] [] pos) (iRng1 ta) := pi_range1 hg hm ha (star_of h)
theorem qrange2 {tg : Expr} {ta : TA} (hg : Gl X "range") (hm : X.mg "range" = none) (ha : PA X [a, b] ta) (h : nst a = true := by rfl) (h2 : nst b = true := by rfl) : PI X tg (.Call (.Name "range" p) [a, b] [] pos) (iRng2 ta) :=
  pi_range2 hg hm ha (by rw [star_of h, star_of h2]; rfl) (star_of h2)
theorem qlistrev {p2 pos2 : Pos} (hc : X.calm = true) (he : PE X e te) (hgl : Gl X "list") (hml : X.mg "list" = none) (hgr : Gl X "reversed") (hmr : X.mg "reversed" = none) (h : nst e = true := by rfl) :
    PE X (.Call (.Name "list" p) [.Call (.Name "reversed" p2) [e] [] pos2] [] pos) (tListRev X.K te) := pe_listrev hc he hgl hml hgr hmr (star_of h) rfl
theorem qbm0 {T name id : _} {r : V → List V → Hp → VK → Prop} (pa : PlainAttrs T) (slot : Slot T name id) (hty : typeOf (.builtin id) = pure (.type "method_descriptor")) (hm : MtR X id r) (ho : PE X o to) (h : nba o = true := by rfl) (hline : (apos.endLine == cpos.line) = true := by rfl) :
    PE X (.Call (.Attribute o name apos) [] [] cpos) (tBM0 X.K T r to) := pe_bm0 pa slot hty hm ho (base_of h) hline
/-- a, b, .. = x, y, .. with plain local names: stored from the right -/
theorem qpar {x y : Str} {px py pt pt2 : Pos} {kt k2 i j : Nat} {ta : TA} (hc : X.calm = true) (hN : X.N.Nodup) (hi : X.N[i]? = some x) (hj : X.N[j]? = some y) (hij : i ≠ j)
    (hx : X.env.scope.names.lookup x = some .local) (hy : X.env.scope.names.lookup y = some .local) (ha : PA X [a, b] ta)
    (hw : swappedStores [.Tuple [.Name x px, .Name y py] kt pt] (.Tuple [a, b] k2 pt2) X.env = pure (some [x, y])) :
    PS X (.Assign [.Tuple [.Name x px, .Name y py] kt pt] (.Tuple [a, b] k2 pt2) pos) (tPar i j ta) := ps_par hc hN hi hj hij hx hy ha hw sole_tup
end
end L2

set_option Elab.async false
set_option linter.all false
set_option maxRecDepth 100000
namespace L2
open PySem PySem.Spec PyProof.Rows
/-! ### readings, step by step -/
section
variable {D : Ends} {σ : St} {H : Hp} {Q : VK} {K : PySem.W.Frag} {te ta tb tl tv td ty to : TE} {t u : TS} {g : TG} {gs : TGs} {v x y : V} {c ca cb : TT} {i j k : Nat} {A tr : TA} {N : St → Hp → Prop} {QB : Bool → Hp → Prop} {QA : List V → Hp → Prop}
theorem rd_seq (h : t { D with nx := u D } σ H) : tSeq t u D σ H := h
theorem rd_asg (h : te σ H fun x H1 => g x σ H1 D.nx) : tAsg te g D σ H := h
theorem rd_name (h : N (σ.set i (some v)) H) : gName i v σ H N := h
theorem rd_gnil (h : N σ H) : gNil [] σ H N := ⟨rfl, h⟩
theorem rd_gcons {r : List V} (h : g v σ H fun σ' H' => gs r σ' H' N) : gCons g gs (v :: r) σ H N := ⟨v, r, rfl, h⟩
theorem rd_ret (h : te σ H D.rt) : tRet te D σ H := h
theorem rd_retN (h : D.rt .non H) : tRetN D σ H := h
theorem rd_next (h : D.nx σ H) : tNext D σ H := h
theorem rd_drop (h : te σ H fun _ H1 => D.nx σ H1) : tDrop te D σ H := h
theorem rd_ifs (h : c σ H fun b H1 => if b = true then t D σ H1 else u D σ H1) : tIfS c t u D σ H := h
theorem rd_par (h : A σ H fun vs H1 => ∃ v w, vs = [v, w] ∧ D.nx ((σ.set i (some v)).set j (some w)) H1) : tPar i j A D σ H := h
theorem rd_dput (h : tv σ H fun v H1 => td σ H1 fun x H2 => ty σ H2 fun y H3 => ∃ a H4, x = .ref a ∧ DPut H3 a y v H4 ∧ D.nx σ H4) : sDPut td ty tv D σ H := h
theorem rd_var (e : σ[i]? = some (some v)) (h : Q v H) : tVar i σ H Q := ⟨v, e, h⟩
theorem rd_c (h : Q v H) : tC v σ H Q := h
theorem rd_op {r : R2} (h : ta σ H fun x H1 => tb σ H1 fun y H2 => r x y H2 Q) : tOp r ta tb σ H Q := h
theorem rd_un {r : V → Hp → VK → Prop} (h : ta σ H fun x H1 => r x H1 Q) : tUn r ta σ H Q := h
theorem rd_rU {f : Int → V} {a : Int} (h : Q (f a) H) : rU f (.int a) H Q := ⟨a, rfl, h⟩
theorem rd_if (h : c σ H fun b H1 => if b = true then ta σ H1 Q else tb σ H1 Q) : tIf c ta tb σ H Q := h
theorem rd_test (h : te σ H fun x H' => ∃ k, x = .bl k ∧ QB k H') : tTest te σ H QB := h
theorem rd_B (h : te σ H fun x H' => ∃ k, x = .bl k ∧ QB k H') : tB te σ H QB := h
theorem rd_not (h : c σ H fun b H1 => QB (!b) H1) : tNot c σ H QB := h
theorem rd_and (h : ca σ H fun b H1 => if b = true then cb σ H1 QB else QB false H1) : tAnd ca cb σ H QB := h
theorem rd_or (h : ca σ H fun b H1 => if b = true then QB true H1 else cb σ H1 QB) : tOr ca cb σ H QB := h
theorem rd_andV (h : ta σ H fun x H1 => ∃ c, x = .bl c ∧ if c = true then tb σ H1 Q else Q (.bl false) H1) : tAndV ta tb σ H Q := h
theorem rd_orV (h : ta σ H fun x H1 => ∃ c, x = .bl c ∧ if c = true then Q (.bl true) H1 else tb σ H1 Q) : tOrV ta tb σ H Q := h
theorem rd_notV (h : ta σ H fun x H1 => ∃ c, x = .bl c ∧ Q (.bl (!c)) H1) : tNotV ta σ H Q := h
theorem rd_yes (h : QB true H) : tYes σ H QB := h
theorem rd_nil (h : QA [] H) : tNil σ H QA := h
theorem rd_cons (h : te σ H fun x H1 => tr σ H1 fun xs H2 => QA (x :: xs) H2) : tCons te tr σ H QA := h
theorem rd_I0 {f : Int → Int → V} {a b : Int} (h : Q (f a b) H) : rI0 f (.int a) (.int b) H Q := ⟨a, b, rfl, rfl, h⟩
theorem rd_I {C : Int → Int → Prop} {f : Int → Int → V} {a b : Int} (c : C a b) (h : Q (f a b) H) : rI C f (.int a) (.int b) H Q := ⟨a, b, rfl, rfl, c, h⟩
theorem rd_eq (e : scal x y = true) (h : Q (.bl (decide (x = y))) H) : rEq x y H Q := ⟨e, h⟩
theorem rd_ne (e : scal x y = true) (h : Q (.bl (!decide (x = y))) H) : rNe x y H Q := ⟨e, h⟩
theorem rd_call {sp : Sp} {dvs : List V} {E : XK} (h : A σ H fun vs H1 => sp (vs ++ dvs) H1 Q E) : tCall sp dvs E A σ H Q := h
theorem rd_CB {r : List V → Hp → VK → Prop} (h : A σ H fun vs H1 => r vs H1 Q) : tCB r A σ H Q := h
theorem rd_dget (h : td σ H fun x H1 => ty σ H1 fun y H2 => ∃ a v, x = .ref a ∧ DGet H2 a y (some v) ∧ Q v H2) : tDGet td ty σ H Q := h
theorem rd_bm0 {T : String} {r : V → List V → Hp → VK → Prop} (h : to σ H fun x H1 => tyV K T x H1 ∧ r x [] H1 Q) : tBM0 K T r to σ H Q := h
theorem rd_bm {T : String} {r : V → List V → Hp → VK → Prop} (h : to σ H fun x H1 => tyV K T x H1 ∧ A σ H1 fun xs H2 => r x xs H2 Q) : tBM K T r to A σ H Q := h
theorem rd_sl {r : V → Option Int → Option Int → Hp → VK → Prop} {tl th : TO} (h : te σ H fun x H1 => tl σ H1 fun l H2 => th σ H2 fun u H3 => r x l u H3 Q) : tSl r te tl th σ H Q := h
theorem rd_noPart {QO : Option Int → Hp → Prop} (h : QO none H) : tNoPart σ H QO := h
theorem rd_part {QO : Option Int → Hp → Prop} (h : te σ H fun x H1 => ∃ i, x = .int i ∧ QO (some i) H1) : tPart te σ H QO := h
theorem rd_bl {b : Bool} {P : Bool → Prop} (h : P b) : ∃ k, V.bl b = .bl k ∧ P k := ⟨b, rfl, h⟩
theorem rd_int {b : Int} {P : Int → Prop} (h : P b) : ∃ k, V.int b = .int k ∧ P k := ⟨b, rfl, h⟩
theorem rd_tup (h : A σ H fun xs H1 => xs.length ≤ sizeLine ∧ ∀ p, H1 p = none → Q (.ref p) (upd H1 p (.tup xs))) : tTup A σ H Q := h
theorem rd_lst (h : A σ H fun xs H1 => xs.length ≤ sizeLine ∧ ∀ p, H1 p = none → Q (.ref p) (upd H1 p (.lst xs))) : tLst A σ H Q := h
/-- a new tuple, a new list: the heap behind it as a letter -/
theorem rd_newT {xs : List V} (h : ∀ p H', H p = none → H' p = some (.tup xs) → Same H H' → Q (.ref p) H') (hz : Nat.ble xs.length 1000 = true := by rfl) : xs.length ≤ sizeLine ∧ ∀ p, H p = none → Q (.ref p) (upd H p (.tup xs)) :=
  ⟨Nat.le_trans (Nat.le_of_ble_eq_true hz) (by decide), fun p hp => h p _ hp upd_same (.upd hp)⟩
theorem rd_newL {xs : List V} (h : ∀ p H', H p = none → H' p = some (.lst xs) → Same H H' → Q (.ref p) H') (hz : Nat.ble xs.length 1000 = true := by rfl) : xs.length ≤ sizeLine ∧ ∀ p, H p = none → Q (.ref p) (upd H p (.lst xs)) :=
  ⟨Nat.le_trans (Nat.le_of_ble_eq_true hz) (by decide), fun p hp => h p _ hp upd_same (.upd hp)⟩
theorem rd_getS {d : Addr} {kvs : List (Key × V)} {s : Str} (hd : H d = some (.dK kvs)) (hv : valV kvs (.inr s) = some v) (h : Q v H) : ∃ a v, V.ref d = .ref a ∧ DGet H a (.str s) (some v) ∧ Q v H := by
  have := DGet.k (k := Sum.inr s) hd
  rw [hv] at this
  exact ⟨d, v, rfl, this, h⟩
theorem rd_putS {d : Addr} {kvs : List (Key × V)} {s : Str} {M : Hp → Prop} (hd : H d = some (.dK kvs)) (hz : kvs.length < sizeLine) (h : M (upd H d (.dK (putK kvs (.inr s) v)))) : ∃ a H4, V.ref d = .ref a ∧ DPut H a (.str s) v H4 ∧ M H4 :=
  ⟨d, _, rfl, DPut.k (k := Sum.inr s) hd hz, h⟩
theorem rd_seed {d l : Addr} {s n : Int} (hd : H d = some (.dK (dealKvs s n l))) (h : Q (.int s) H) : ∃ a v, V.ref d = .ref a ∧ DGet H a (.str "seed") (some v) ∧ Q v H := rd_getS hd (deal_seed s n l) h
theorem rd_number {d l : Addr} {s n : Int} (hd : H d = some (.dK (dealKvs s n l))) (h : Q (.int n) H) : ∃ a v, V.ref d = .ref a ∧ DGet H a (.str "number") (some v) ∧ Q v H := rd_getS hd (deal_number s n l) h
theorem rd_left {d l : Addr} {s n : Int} (hd : H d = some (.dK (dealKvs s n l))) (h : Q (.ref l) H) : ∃ a v, V.ref d = .ref a ∧ DGet H a (.str "left") (some v) ∧ Q v H := rd_getS hd (deal_left s n l) h
theorem rd_putN {d l : Addr} {s n m : Int} {M : Hp → Prop} (hd : H d = some (.dK (dealKvs s n l))) (h : M (upd H d (.dK (dealKvs s m l)))) : ∃ a H4, V.ref d = .ref a ∧ DPut H a (.str "number") (.int m) H4 ∧ M H4 :=
  rd_putS hd (by show 3 < sizeLine; decide) (by rw [deal_putN]; exact h)
theorem rd_putSd {d l : Addr} {s n m : Int} {M : Hp → Prop} (hd : H d = some (.dK (dealKvs s n l))) (h : M (upd H d (.dK (dealKvs m n l)))) : ∃ a H4, V.ref d = .ref a ∧ DPut H a (.str "seed") (.int m) H4 ∧ M H4 :=
  rd_putS hd (by show 3 < sizeLine; decide) (by rw [deal_putS]; exact h)
theorem rd_ixT {p : Addr} {xs : List V} {n : Int} (h1 : SqT K H p xs) (h2 : atI xs n = some v) (h : Q v H) : rIxT K (.ref p) (.int n) H Q := ⟨p, xs, n, v, rfl, rfl, h1, h2, h⟩
theorem rd_ixL {p : Addr} {xs : List V} {n : Int} (h1 : SqL K H p xs) (h2 : atI xs n = some v) (h : Q v H) : rIxL K (.ref p) (.int n) H Q := ⟨p, xs, n, v, rfl, rfl, h1, h2, h⟩
theorem rd_gtup {p : Addr} {xs : List V} {n : Nat} (h1 : SqT K H p xs) (h2 : xs.length = n) (h : gs xs σ H N) : gTup K n gs (.ref p) σ H N := ⟨p, xs, rfl, h1, h2, h⟩
theorem rd_glst {p : Addr} {xs : List V} {n : Nat} (h1 : SqL K H p xs) (h2 : xs.length = n) (h : gs xs σ H N) : gLst K n gs (.ref p) σ H N := ⟨p, xs, rfl, h1, h2, h⟩
/-- tests -/
theorem rd_ite {p : Prop} [Decidable p] {A B : Prop} (h1 : p → A) (h2 : ¬ p → B) : if decide p = true then A else B := by
  by_cases h : p
  · rw [if_pos (by simpa using h)]; exact h1 h
  · rw [if_neg (by simpa using h)]; exact h2 h
theorem rd_iteI {a b : Int} {A B : Prop} (h1 : a = b → A) (h2 : a ≠ b → B) : if decide (V.int a = V.int b) = true then A else B :=
  rd_ite (fun h => h1 (V.int.inj h)) fun h => h2 fun e => h (by rw [e])
theorem rd_iteB {b : Bool} {A B : Prop} (h1 : b = true → A) (h2 : b = false → B) : if b = true then A else B := by
  cases b
  · rw [if_neg (by decide)]; exact h2 rfl
  · rw [if_pos rfl]; exact h1 rfl
theorem rd_iteBn {b : Bool} {A B : Prop} (h1 : b = false → A) (h2 : b = true → B) : if (!b) = true then A else B := by
  cases b
  · rw [if_pos (show (!false) = true from rfl)]; exact h1 rfl
  · rw [if_neg (show ¬ (!true) = true by decide)]; exact h2 rfl

theorem len_small {xs : List V} (h : Nat.ble xs.length 1000 = true) : xs.length ≤ sizeLine := Nat.le_trans (Nat.le_of_ble_eq_true h) (by decide)

theorem rd_slT {a : Addr} {xs ys : List V} {lo hi : Option Int} (h1 : SqT K H a xs) (h2 : (Nat.beq (HT.sIx xs.length 0 lo) 0 && Nat.beq (HT.sIx xs.length xs.length hi) xs.length) = false) (h3 : cutV xs lo hi = ys)
    (h : ∀ p H', H p = none → H' p = some (.tup ys) → Same H H' → Q (.ref p) H') : rSlT K (.ref a) lo hi H Q := ⟨a, xs, rfl, h1, (fun ⟨z1, z2⟩ => by rw [z1, z2] at h2; simp at h2), fun p hp => by rw [h3]; exact h p _ hp upd_same (.upd hp)⟩
theorem rd_slL {a : Addr} {xs ys : List V} {lo hi : Option Int} (h1 : SqL K H a xs) (h3 : cutV xs lo hi = ys)
    (h : ∀ p H', H p = none → H' p = some (.lst ys) → Same H H' → Q (.ref p) H') : rSlL K (.ref a) lo hi H Q := ⟨a, xs, rfl, h1, fun p hp => by rw [h3]; exact h p _ hp upd_same (.upd hp)⟩
/-- == of tuples of ints -/
def dI (ns : List Int) : List Dv := ns.map Dv.int
theorem den_ints {H : Hp} : ∀ {ns : List Int}, DenL K H (dI ns) (ns.map V.int)
  | [] => rfl
  | n :: ns => ⟨.int n, ns.map V.int, rfl, rfl, den_ints⟩
theorem cmp_ints : ∀ {ns ms : List Int}, cmpL (dI ns) (dI ms) = true
  | [], _ => rfl
  | _ :: _, [] => rfl
  | n :: ns, m :: ms => by show (true && cmpL (dI ns) (dI ms)) = true; rw [cmp_ints]; rfl
theorem dep_ints : ∀ {ns : List Int}, depL (dI ns) ≤ 60
  | [] => Nat.zero_le _
  | n :: ns => by show max 0 (depL (dI ns)) ≤ 60; have := @dep_ints ns; omega
theorem eqv_ints : ∀ {ns ms : List Int}, eqvL (dI ns) (dI ms) = decide (ns = ms)
  | [], [] => rfl
  | [], _ :: _ => rfl
  | _ :: _, [] => rfl
  | n :: ns, m :: ms => by
    show ((n == m) && eqvL (dI ns) (dI ms)) = _
    rw [eqv_ints, Bool.eq_iff_iff]
    simp
theorem rd_eqT {a b : Addr} {ns ms : List Int} (h1 : SqT K H a (ns.map V.int)) (h2 : SqT K H b (ms.map V.int)) (h : Q (.bl (decide (ns = ms))) H) : rEqD K false (.ref a) (.ref b) H Q :=
  .inl ⟨dI ns, dI ms, ⟨a, _, rfl, h1, den_ints⟩, ⟨b, _, rfl, h2, den_ints⟩, cmp_ints, dep_ints, by rw [eqv_ints]; exact h⟩
theorem rd_neT {a b : Addr} {ns ms : List Int} (h1 : SqT K H a (ns.map V.int)) (h2 : SqT K H b (ms.map V.int)) (h : Q (.bl (!decide (ns = ms))) H) : rEqD K true (.ref a) (.ref b) H Q :=
  .inl ⟨dI ns, dI ms, ⟨a, _, rfl, h1, den_ints⟩, ⟨b, _, rfl, h2, den_ints⟩, cmp_ints, dep_ints, by rw [eqv_ints]; exact h⟩

theorem kit_ib (K : PySem.W.Frag) : PySem.W.kitOne K (.type "int") (.type "bool") = some false := by
  show PySem.W.kitCls K (.type "int") (.type "bool") = some false
  unfold PySem.W.kitCls
  simp only
  rw [if_pos (by decide +kernel)]
  unfold PySem.W.subIn
  kernel_rfl
theorem cut_ints (ns : List Int) (lo hi : Option Int) : ∃ zs : List Int, cutV (ns.map V.int) lo hi = zs.map V.int ∧ zs.length ≤ ns.length := by
  refine ⟨(ns.drop (HT.sIx ns.length 0 lo)).take (HT.sIx ns.length ns.length hi - HT.sIx ns.length 0 lo), ?_, ?_⟩
  · simp [cutV, List.map_drop, List.map_take]
  · rw [List.length_take, List.length_drop]; omega

theorem dg_S {d : Addr} {kvs : List (Key × V)} {s : Str} (hd : H d = some (.dK kvs)) (hv : valV kvs (.inr s) = some v) : DGet H d (.str s) (some v) := by
  have := DGet.k (k := Sum.inr s) hd
  rw [hv] at this
  exact this
theorem dg_seed {d l : Addr} {s n : Int} (hd : H d = some (.dK (dealKvs s n l))) : DGet H d (.str "seed") (some (.int s)) := dg_S hd (deal_seed s n l)
theorem dg_number {d l : Addr} {s n : Int} (hd : H d = some (.dK (dealKvs s n l))) : DGet H d (.str "number") (some (.int n)) := dg_S hd (deal_number s n l)
theorem dg_left {d l : Addr} {s n : Int} (hd : H d = some (.dK (dealKvs s n l))) : DGet H d (.str "left") (some (.ref l)) := dg_S hd (deal_left s n l)
theorem dp_number {d l : Addr} {s n m : Int} (hd : H d = some (.dK (dealKvs s n l))) : DPut H d (.str "number") (.int m) (upd H d (.dK (dealKvs s m l))) := by
  have := DPut.k (k := Sum.inr "number") (v := .int m) hd (by show 3 < sizeLine; decide)
  rw [deal_putN] at this
  exact this
theorem dp_seed {d l : Addr} {s n m : Int} (hd : H d = some (.dK (dealKvs s n l))) : DPut H d (.str "seed") (.int m) (upd H d (.dK (dealKvs m n l))) := by
  have := DPut.k (k := Sum.inr "seed") (v := .int m) hd (by show 3 < sizeLine; decide)
  rw [deal_putS] at this
  exact this

theorem rd_for {wi : TI} {tbd : TS} (h : wi σ H fun J H1 => ∃ W : Nat → Nat → St → Hp → Prop, (∃ m, W 0 m σ H1) ∧ ∀ i m σ H, W i m σ H →
  (J.stop i H ∧ D.nx σ H) ∨ (J.go i H ∧ ∃ N : St → Hp → Prop, (∀ σ' H', N σ' H' → ∃ m', m' < m ∧ W (i + 1) m' σ' H') ∧ ∀ x H', J.yld i H x H' → g x σ H' fun σ2 H2 => tbd { D with nx := N, ct := N, bk := D.nx } σ2 H2)) : tFor wi g tbd D σ H := h
theorem rd_ilist {R : It → Hp → Prop} (h : tl σ H fun x H1 => ∃ a, x = .ref a ∧ (∃ xs, SqL K H1 a xs) ∧ R (Itl K a) H1) : iList K tl σ H R := h
theorem rd_itup {R : It → Hp → Prop} (h : tl σ H fun x H1 => ∃ a, x = .ref a ∧ (∃ xs, SqT K H1 a xs) ∧ R (Itt K a) H1) : iTup K tl σ H R := h
theorem rd_irng1 {R : It → Hp → Prop} (h : A σ H fun vs H1 => ∃ j : Int, vs = [.int j] ∧ -(2 ^ 62) ≤ j ∧ j < 2 ^ 62 ∧ R (Itr 0 j.toNat) H1) : iRng1 A σ H R := h
theorem rd_irng2 {R : It → Hp → Prop} (h : A σ H fun vs H1 => ∃ i j : Int, vs = [.int i, .int j] ∧ (-(2 ^ 62) ≤ i ∧ i < 2 ^ 62 ∧ -(2 ^ 62) ≤ j ∧ j < 2 ^ 62) ∧ R (Itr i (j - i).toNat) H1) : iRng2 A σ H R := h
theorem rd_comp {own : List Str} {ix : List Nat} {wi : TI} {tt : TT} (h : wi σ H fun J H1 => tCompL J g tt te (compSt own ix σ) H1 fun ys H2 => ∀ D, H2 D = none → Q (.ref D) (upd H2 D (.lst ys))) : tComp own ix wi g tt te σ H Q := h
theorem rd_listrev (h : te σ H fun x H1 => ∃ a xs, x = .ref a ∧ SqL K H1 a xs ∧ ∀ l, H1 l = none → Q (.ref l) (upd H1 l (.lst xs.reverse))) : tListRev K te σ H Q := h
theorem rd_disp {trs : List (TE × TE)} (h : ∀ p, H p = none → tPairs trs σ (upd H p (.dK [])) fun ps H2 => H2 p = some (.dK []) ∧ ∃ kvs : List (Key × V), ps = kvs.map (fun kv => (kV kv.1, kv.2)) ∧ kvs.length ≤ 15 ∧ Q (.ref p) (upd H2 p (.dK (mergeK [] kvs)))) : tDisp trs σ H Q := h
theorem rd_pnil {QP : List (V × V) → Hp → Prop} (h : QP [] H) : tPairs [] σ H QP := h
theorem rd_pcons {trs : List (TE × TE)} {QP : List (V × V) → Hp → Prop} (h : ty σ H fun x H1 => tv σ H1 fun y H2 => tPairs trs σ H2 fun ps H3 => QP ((x, y) :: ps) H3) : tPairs ((ty, tv) :: trs) σ H QP := h

theorem zle {xs : List V} (hz : Nat.ble xs.length 1000 = true) : xs.length ≤ sizeLine := Nat.le_trans (Nat.le_of_ble_eq_true hz) (by decide)
theorem newG {H G : Hp} {p : Addr} {o : HO} (hp : H p = none) (e : L2.upd H p o = G) : G p = some o ∧ Same H G := by
  subst e
  exact ⟨upd_same, .upd hp⟩
end
end L2

set_option Elab.async false
set_option linter.all false
set_option maxRecDepth 100000
namespace L2
open PySem PySem.Spec PyProof.Rows
/-! ### the judgements wrapped, so that derivations are matched by their heads alone -/
structure SE (X : Cx) (e : Expr) (t : TE) : Prop where h : PE X e t
structure ST (X : Cx) (e : Expr) (t : TT) : Prop where h : PT X e t
structure SW (X : Cx) (e : Expr) (t : TT) : Prop where h : PW X e t
structure SA (X : Cx) (es : List Expr) (t : TA) : Prop where h : PA X es t
structure SS (X : Cx) (st : Stmt) (t : TS) : Prop where h : PS X st t
structure SSs (X : Cx) (st : List Stmt) (t : TS) : Prop where h : PSs X st t
structure SG (X : Cx) (e : Expr) (t : TG) : Prop where h : PG X e t
structure SGs (X : Cx) (es : List Expr) (t : TGs) : Prop where h : PGs X es t
structure SI (X : Cx) (tg e : Expr) (t : TI) : Prop where h : PI X tg e t
structure SIfs (X : Cx) (es : List Expr) (t : TT) : Prop where h : PIfs X es t
structure SO (X : Cx) (e : Option Expr) (t : TO) : Prop where h : PO X e t
structure SPs (X : Cx) (pos : Pos) (ks : List (Option Expr)) (vs : List Expr) (t : List (TE × TE)) : Prop where h : PPs X pos ks vs t
section
variable {X : Cx} {e o i a b c : Expr} {es : List Expr} {te ta tb tc to ti tv td ty : TE} {t : TA} {p pos cpos apos : Pos} {tA tB' : TT}
theorem pv' (i : Nat) {x : Str} {pos : Pos} (hN : X.N[i]? = some x := by rfl) (hv : Vis X.env.scope x := by first | exact Or.inl rfl | exact Or.inr (Or.inl rfl) | exact Or.inr (Or.inr rfl)) (hd : (x == ("__debug__" : Str)) = false := by decide)
    (hcd : (x == ("__classdict__" : Str)) = false := by decide) : SE X (.Name x pos) (tVar i) := ⟨pv i hN hv hd hcd⟩
theorem pe_int' {i : Int} {j : Nat} : SE X (.Constant (.int i) j pos) (tC (.int i)) := ⟨pe_int⟩
theorem pe_bl' {b : Bool} {j : Nat} : SE X (.Constant (.bool b) j pos) (tC (.bl b)) := ⟨pe_bl⟩
theorem pe_non' {j : Nat} : SE X (.Constant .none j pos) (tC .non) := ⟨pe_non⟩
theorem pe_str' {x : Str} {j : Nat} : SE X (.Constant (.str x) j pos) (tC (.str x)) := ⟨pe_str⟩
theorem pe_bltn' {x : Str} {v : V} {u : Value} (hg : Gl X x) (hm : X.mg x = none) (hv : bootBuiltins x = some u) (r : RelV v u) (hn : x ≠ "__name__" := by decide) (hd : (x == ("__debug__" : Str)) = false := by decide) : SE X (.Name x pos) (tC v) := ⟨pe_bltn hg hm hv r hn hd⟩
theorem pe_op' {op : Operator} {r : R2} (ho : OpR X (binaryOp op) r) (ha : SE X a ta) (hb : SE X b tb) : SE X (.BinOp a op b pos) (tOp r ta tb) := ⟨pe_op ho ha.h hb.h⟩
theorem pe_un' {op : UnaryOp} {r : V → Hp → VK → Prop} (ho : UnR X (unaryOp op) r) (ha : SE X a ta) : SE X (.UnaryOp op a pos) (tUn r ta) := ⟨pe_un ho ha.h⟩
theorem pe_not' (ha : SE X a ta) : SE X (.UnaryOp .Not a pos) (tNotV ta) := ⟨pe_not ha.h⟩
theorem pe_and' (ha : SE X a ta) (hb : SE X (.BoolOp .And (b :: es) pos) tb) : SE X (.BoolOp .And (a :: b :: es) pos) (tAndV ta tb) := ⟨pe_and ha.h hb.h⟩
theorem pe_or' (ha : SE X a ta) (hb : SE X (.BoolOp .Or (b :: es) pos) tb) : SE X (.BoolOp .Or (a :: b :: es) pos) (tOrV ta tb) := ⟨pe_or ha.h hb.h⟩
theorem pe_one' {op : BoolOp} (ha : SE X a ta) : SE X (.BoolOp op [a] pos) ta := ⟨pe_one ha.h⟩
theorem pe_ifExp' (hc : ST X c tA) (ha : SE X a ta) (hb : SE X b tb) : SE X (.IfExp c a b pos) (tIf tA ta tb) := ⟨pe_ifExp hc.h ha.h hb.h⟩
theorem pe_tup' {k : Nat} (h : SA X es t) : SE X (.Tuple es k pos) (tTup t) := ⟨pe_tup h.h⟩
theorem pe_lst' (h : SA X es t) : SE X (.List es pos) (tLst t) := ⟨pe_lst h.h⟩
theorem pe_dnewK' : SE X (.Dict [] [] pos) tDNewK := ⟨pe_dnewK⟩
theorem pe_dnewT' : SE X (.Dict [] [] pos) tDNewT := ⟨pe_dnewT⟩
theorem pe_disp' {keys : List (Option Expr)} {values : List Expr} {trs : List (TE × TE)} (h : SPs X pos keys values trs) (hall : keys.all (·.isSome) = true) (hl : keys.length = values.length) (h0 : keys ≠ []) (h15 : keys.length ≤ 15) : SE X (.Dict keys values pos) (tDisp trs) := ⟨pe_disp h.h hall hl h0 h15⟩
theorem pps_nil' : SPs X pos [] [] [] := ⟨pps_nil⟩
theorem pps_cons' {k v : Expr} {ks : List (Option Expr)} {vs : List Expr} {tk : TE} {trs : List (TE × TE)} (hk : SE X k tk) (hv : SE X v tv) (hr : SPs X pos ks vs trs) : SPs X pos (some k :: ks) (v :: vs) ((tk, tv) :: trs) := ⟨pps_cons hk.h hv.h hr.h⟩
theorem pe_slice' {r : V → Option Int → Option Int → Hp → VK → Prop} {lo hi : Option Expr} {tl th : TO} {p2 : Pos} (hr : SlR X r) (he : SE X e te) (hl : SO X lo tl) (hu : SO X hi th) : SE X (.Subscript e (.Slice lo hi none p2) pos) (tSl r te tl th) := ⟨pe_slice hr he.h hl.h hu.h⟩
theorem po_none' : SO X none tNoPart := ⟨po_none⟩
theorem po_some' (h : SE X e te) : SO X (some e) (tPart te) := ⟨po_some h.h⟩
theorem pa_nil' : SA X [] tNil := ⟨pa_nil⟩
theorem qa' (ha : SE X e te) (hr : SA X es t) (h : nst e = true := by rfl) : SA X (e :: es) (tCons te t) := ⟨qa ha.h hr.h h⟩
theorem qix' {r : R2} (hr : IxR X r) (ha : SE X a ta) (hb : SE X b tb) (h : nsl b = true := by rfl) : SE X (.Subscript a b pos) (tOp r ta tb) := ⟨qix hr ha.h hb.h h⟩
theorem qdget' (hu : X.A.units + 1 < cLine) (ho : SE X o to) (hi : SE X i ti) (h : nsl i = true := by rfl) : SE X (.Subscript o i pos) (tDGet to ti) := ⟨qdget hu ho.h hi.h h⟩
theorem qcal' {x : Str} {k : Nat} {ps : List Str} {sp : Sp} (C : Cal X.prog X.w X.K X.mg X.base x k ps sp) (hr : Room k X.A) (hg : Gl X x) (ha : SA X (e :: es) t) (hdb : (x == ("__debug__" : Str)) = false := by decide)
    (h : (e :: es).all nst = true := by rfl) : SE X (.Call (.Name x p) (e :: es) [] pos) (tCall sp [] E0 t) := ⟨qcal C hr hg ha.h hdb h⟩
theorem pe_cal0' {x : Str} {k : Nat} {ps : List Str} {sp : Sp} (C : Cal X.prog X.w X.K X.mg X.base x k ps sp) (hr : Room k X.A) (hg : Gl X x) (hdb : (x == ("__debug__" : Str)) = false := by decide) : SE X (.Call (.Name x p) [] [] pos) (tCall sp [] E0 tNil) := ⟨pe_cal0 C hr hg hdb⟩
theorem qcallB' {x : Str} {id : String} {r : List V → Hp → VK → Prop} (hc : CallR X (.builtin id) r) (hg : Gl X x) (hm : X.mg x = none) (hv : bootBuiltins x = some (.builtin id)) (ha : SA X (e :: es) t) (hn : x ≠ "__name__" := by decide) (hdb : (x == ("__debug__" : Str)) = false := by decide)
    (h : (e :: es).all nst = true := by rfl) : SE X (.Call (.Name x p) (e :: es) [] pos) (tCB r t) := ⟨qcallB hc hg hm hv ha.h hn hdb h⟩
theorem qcallT' {x : Str} {T : String} {r : List V → Hp → VK → Prop} (hc : CallR X (.type T) r) (hg : Gl X x) (hm : X.mg x = none) (hv : bootBuiltins x = some (.type T)) (ha : SA X (e :: es) t) (hn : x ≠ "__name__" := by decide) (hdb : (x == ("__debug__" : Str)) = false := by decide)
    (h : (e :: es).all nst = true := by rfl) : SE X (.Call (.Name x p) (e :: es) [] pos) (tCB r t) := ⟨qcallT hc hg hm hv ha.h hn hdb h⟩
theorem qlistrev' {p2 pos2 : Pos} (hc : X.calm = true) (he : SE X e te) (hgl : Gl X "list") (hml : X.mg "list" = none) (hgr : Gl X "reversed") (hmr : X.mg "reversed" = none) (h : nst e = true := by rfl) :
    SE X (.Call (.Name "list" p) [.Call (.Name "reversed" p2) [e] [] pos2] [] pos) (tListRev X.K te) := ⟨qlistrev hc he.h hgl hml hgr hmr h⟩
theorem qbm0' {T name id : _} {r : V → List V → Hp → VK → Prop} (pa : PlainAttrs T) (slot : Slot T name id) (hty : typeOf (.builtin id) = pure (.type "method_descriptor")) (hm : MtR X id r) (ho : SE X o to) (h : nba o = true := by rfl) (hline : (apos.endLine == cpos.line) = true := by rfl) :
    SE X (.Call (.Attribute o name apos) [] [] cpos) (tBM0 X.K T r to) := ⟨qbm0 pa slot hty hm ho.h h hline⟩
theorem back_all {env : Env} {pos : Pos} : ∀ {es : List Expr}, es.all nst = true → (backTo pos (starEach es env)).all (fun x => !x.1) = true
  | [], _ => rfl
  | e :: es, h => by
    simp only [List.all_cons, Bool.and_eq_true] at h
    rw [star_of h.1]
    show (true && (backTo pos (starEach es env)).all (fun x => !x.1)) = true
    rw [back_all h.2]; rfl
theorem pe_bm' {T name id : _} {r : V → List V → Hp → VK → Prop} (pa : PlainAttrs T) (slot : Slot T name id) (hty : typeOf (.builtin id) = pure (.type "method_descriptor")) (hm : MtR X id r) (ho : SE X o to) (ha : SA X (e :: es) t) (h : nba o = true := by rfl) (hs : (e :: es).all nst = true := by rfl)
    (hlen : decide ((e :: es).length + 0 + 0 < 30) = true := by rfl) (hline : (apos.endLine == cpos.line) = true := by rfl) : SE X (.Call (.Attribute o name apos) (e :: es) [] cpos) (tBM X.K T r to t) := by
  have hs' := hs
  simp only [List.all_cons, Bool.and_eq_true] at hs'
  refine ⟨pe_bm pa slot hty hm ho.h ha.h (base_of h) ?_ hline (star_of hs'.1) (back_of hs'.2)⟩
  rw [back_all hs]
  exact hlen
theorem pe_cmpR' {op : CmpOp} {r : R2} (ho : OpR X (compareOp op) r) (ha : SE X a ta) (hb : SE X b tb) (hm : behindInMarks op b = false) : SE X (.Compare a [op] [b] pos) (tOp r ta tb) := ⟨pe_cmpR ho ha.h hb.h hm⟩
theorem pt_cmpR' {op : CmpOp} {r : R2} (ho : OpR X (compareOp op) r) (ha : SE X a ta) (hb : SE X b tb) (hm : behindInMarks op b = false) : ST X (.Compare a [op] [b] pos) (tTest (tOp r ta tb)) := ⟨pt_cmpR ho ha.h hb.h hm⟩
theorem pe_din' (hu : X.A.units + 1 < cLine) (hi : SE X i ty) (ho : SE X o td) (h1 : behindInMarks .In o = false := by with_unfolding_all rfl) : SE X (.Compare i [.In] [o] pos) (tDIn ty td) := ⟨pe_cmp (pc_din hu hi.h ho.h) h1⟩
theorem pt_din' (hu : X.A.units + 1 < cLine) (hi : SE X i ty) (ho : SE X o td) (h1 : behindInMarks .In o = false := by with_unfolding_all rfl) : ST X (.Compare i [.In] [o] pos) (tB (tDIn ty td)) := ⟨pt_cmp (pc_din hu hi.h ho.h) h1⟩
theorem pe_dnotin' (hu : X.A.units + 1 < cLine) (hi : SE X i ty) (ho : SE X o td) (h1 : behindInMarks .NotIn o = false := by with_unfolding_all rfl) : SE X (.Compare i [.NotIn] [o] pos) (tDNotIn ty td) := ⟨pe_cmp (pc_dnotin hu hi.h ho.h) h1⟩
theorem pt_dnotin' (hu : X.A.units + 1 < cLine) (hi : SE X i ty) (ho : SE X o td) (h1 : behindInMarks .NotIn o = false := by with_unfolding_all rfl) : ST X (.Compare i [.NotIn] [o] pos) (tB (tDNotIn ty td)) := ⟨pt_cmp (pc_dnotin hu hi.h ho.h) h1⟩
theorem pt_chain' {op op' : CmpOp} {r r' : R2} (ho : OpR X (compareOp op) r) (ho' : OpR X (compareOp op') r') (ha : SE X a ta) (hb : SE X b tb) (hc : SE X c tc) (hm : lastMarks [op, op'] [b, c] = false := by with_unfolding_all rfl) : ST X (.Compare a [op, op'] [b, c] pos) (tTest (tChain r r' ta tb tc)) := ⟨pt_chain ho ho' ha.h hb.h hc.h hm⟩
theorem pe_chain' {op op' : CmpOp} {r r' : R2} (ho : OpR X (compareOp op) r) (ho' : OpR X (compareOp op') r') (ha : SE X a ta) (hb : SE X b tb) (hc : SE X c tc) (hm : lastMarks [op, op'] [b, c] = false := by with_unfolding_all rfl) : SE X (.Compare a [op, op'] [b, c] pos) (tChain r r' ta tb tc) := ⟨pe_chain ho ho' ha.h hb.h hc.h hm⟩
theorem pt_not' (ha : ST X a tA) : ST X (.UnaryOp .Not a pos) (tNot tA) := ⟨pt_not ha.h⟩
theorem pw_and1' (ha : ST X a tA) : SW X (.BoolOp .And [a] pos) tA := ⟨pw_and1 ha.h⟩
theorem pw_or1' (ha : ST X a tA) : SW X (.BoolOp .Or [a] pos) tA := ⟨pw_or1 ha.h⟩
theorem pw_and' (ha : ST X a tA) (hb : SW X (.BoolOp .And (b :: es) pos) tB') : SW X (.BoolOp .And (a :: b :: es) pos) (tAnd tA tB') := ⟨pw_and ha.h hb.h⟩
theorem pw_or' (ha : ST X a tA) (hb : SW X (.BoolOp .Or (b :: es) pos) tB') : SW X (.BoolOp .Or (a :: b :: es) pos) (tOr tA tB') := ⟨pw_or ha.h hb.h⟩
theorem pw_pt' (h : SW X e tA) : ST X e tA := ⟨h.h.pt⟩
theorem qval' (ha : SE X e te) (h : ntt e = true := by rfl) : ST X e (tB te) := ⟨qval ha.h h⟩
def tTru (K : PySem.W.Frag) (te : TE) : TT := fun σ H Q => te σ H fun x H1 => ∃ k, TruV K x H1 k ∧ Q k H1
theorem qtruth' (ha : SE X e te) (h : ntt e = true := by rfl) : ST X e (tTru X.K te) := ⟨qtruth ha.h h⟩
theorem rd_tru {K : PySem.W.Frag} {σ : St} {H : Hp} {QB : Bool → Hp → Prop} (h : te σ H fun x H1 => ∃ k, TruV K x H1 k ∧ QB k H1) : tTru K te σ H QB := h
theorem rd_chain {r r' : R2} {σ : St} {H : Hp} {Q : VK} (h : ta σ H fun x H1 => tb σ H1 fun y H2 => r x y H2 fun z H3 => ∃ k, z = .bl k ∧ if k = true then tc σ H3 fun w H4 => r' y w H4 Q else Q (.bl false) H3) : tChain r r' ta tb tc σ H Q := h
theorem qrange1' {tg : Expr} {ta : TA} (hg : Gl X "range") (hm : X.mg "range" = none) (ha : SA X [a] ta) (h : nst a = true := by rfl) : SI X tg (.Call (.Name "range" p) [a] [] pos) (iRng1 ta) := ⟨qrange1 hg hm ha.h h⟩
theorem qrange2' {tg : Expr} {ta : TA} (hg : Gl X "range") (hm : X.mg "range" = none) (ha : SA X [a, b] ta) (h : nst a = true := by rfl) (h2 : nst b = true := by rfl) : SI X tg (.Call (.Name "range" p) [a, b] [] pos) (iRng2 ta) := ⟨qrange2 hg hm ha.h h h2⟩
theorem pi_tup' {tg : Expr} (hl : SE X a ta) : SI X tg a (iTup X.K ta) := ⟨pi_tup hl.h⟩
theorem pi_list' {tg : Expr} (hl : SE X a ta) : SI X tg a (iList X.K ta) := ⟨pi_list hl.h⟩
theorem pg_name' {j : Nat} {x : Str} (hN : X.N.Nodup) (hi : X.N[j]? = some x) (hx : Loc X.env.scope x) (hf : X.fn x = true ∨ X.env.scope.names.lookup x = some .local := by first | exact .inl rfl | exact .inr rfl | assumption) : SG X (.Name x pos) (gName j) := ⟨pg_name hN hi hx hf⟩
theorem pgs_nil' : SGs X [] gNil := ⟨pgs_nil⟩
theorem qgs' {tg : Expr} {ts : List Expr} {g : TG} {gs : TGs} (h1 : SG X tg g) (h2 : SGs X ts gs) (h : nst tg = true := by rfl) : SGs X (tg :: ts) (gCons g gs) := ⟨qgs h1.h h2.h h⟩
theorem qtup' {ts : List Expr} {k n : Nat} {gs : TGs} (hc : X.calm = true) (h : SGs X ts gs) (hn : ts.length = n := by rfl) (h1 : ts.all nst = true := by rfl) : SG X (.Tuple ts k pos) (gTup X.K n gs) := ⟨qtup hc h.h hn h1⟩
theorem qunl' {ts : List Expr} {k n : Nat} {gs : TGs} (hc : X.calm = true) (h : SGs X ts gs) (hn : ts.length = n := by rfl) (h1 : ts.all nst = true := by rfl) : SG X (.Tuple ts k pos) (gLst X.K n gs) := ⟨qunl hc h.h hn h1⟩
theorem pg_sub' {ts : TSet} (ho : SE X o to) (hi : SE X i ti) (hs : PSet X ts) (h : nsl i = true := by rfl) : SG X (.Subscript o i pos) (gSub to ti ts) := by
  refine ⟨pg_sub ho.h hi.h hs fun v => ?_⟩
  cases i <;> first | rfl | cases h
theorem pifs_nil' : SIfs X [] tYes := ⟨pifs_nil⟩
theorem pifs_one' (hc : ST X c tA) : SIfs X [c] tA := ⟨pifs_one hc.h⟩
theorem qlcomp' {own fre : List Str} {ix : List Nat} {scope : Scope} {tg elt iter : Expr} {ifs : List Expr} {wi : TI} {g : TG} {tt : TT} (hc : X.calm = true) (S : CompScope X own fre ix scope) (hi : SI X tg iter wi)
    (hg : ∀ cl C s H fp, SG (compCx X (own ++ fre) scope cl C s H fp) tg g) (ht : ∀ cl C s H fp, SIfs (compCx X (own ++ fre) scope cl C s H fp) ifs tt) (he : ∀ cl C s H fp, SE (compCx X (own ++ fre) scope cl C s H fp) elt te)
    (h : nse iter = true := by rfl) : SE X (.ListComp elt [⟨tg, iter, ifs, 0⟩] scope pos) (tComp own ix wi g tt te) := ⟨qlcomp hc S hi.h (fun _ _ _ _ _ => (hg _ _ _ _ _).h) (fun _ _ _ _ _ => (ht _ _ _ _ _).h) (fun _ _ _ _ _ => (he _ _ _ _ _).h) h⟩
theorem qsetc' {own fre : List Str} {ix : List Nat} {scope : Scope} {j : Nat} {x : Str} {pos' : Pos} {tg elt iter : Expr} {ifs : List Expr} {wi : TI} {g : TG} {tt : TT} (hN : X.N.Nodup) (hix : X.N[j]? = some x) (hx : Loc X.env.scope x)
    (hc : X.calm = true) (S : CompScope X own fre ix scope) (hi : SI X tg iter wi)
    (hg : ∀ cl C s H fp, SG (compCx X (own ++ fre) scope cl C s H fp) tg g) (ht : ∀ cl C s H fp, SIfs (compCx X (own ++ fre) scope cl C s H fp) ifs tt) (he : ∀ cl C s H fp, SE (compCx X (own ++ fre) scope cl C s H fp) elt te)
    (hsw : swapsWith (.ListComp elt [⟨tg, iter, ifs, 0⟩] scope cpos) (some (.Name x pos')) pos.line X.env = pure true := by rfl) (h : nse iter = true := by rfl) (hf : X.fn x = true ∨ X.env.scope.names.lookup x = some .local := by first | exact .inl rfl | exact .inr rfl | assumption) :
    SS X (.Assign [.Name x pos'] (.ListComp elt [⟨tg, iter, ifs, 0⟩] scope cpos) pos) (tAsg (tComp own ix wi g tt te) (gName j)) := ⟨qsetc hN hix hx hc S hi.h (fun _ _ _ _ _ => (hg _ _ _ _ _).h) (fun _ _ _ _ _ => (ht _ _ _ _ _).h) (fun _ _ _ _ _ => (he _ _ _ _ _).h) hsw h hf⟩
theorem qset' {j : Nat} {x : Str} {pos' : Pos} (hN : X.N.Nodup) (hi : X.N[j]? = some x) (hx : Loc X.env.scope x) (he : SE X e te) (hf : X.fn x = true ∨ X.env.scope.names.lookup x = some .local := by first | exact .inl rfl | exact .inr rfl | assumption) (h : nco e = true := by rfl) :
    SS X (.Assign [.Name x pos'] e pos) (tAsg te (gName j)) := ⟨qset hN hi hx he.h hf h⟩
theorem qsetk' {j : Nat} {x : Str} {pos' : Pos} (hN : X.N.Nodup) (hi : X.N[j]? = some x) (hx : Loc X.env.scope x) (he : SE X e te) (hsw : swapsWith e (some (.Name x pos')) pos.line X.env = pure false := by rfl) (hf : X.fn x = true ∨ X.env.scope.names.lookup x = some .local := by first | exact .inl rfl | exact .inr rfl | assumption) :
    SS X (.Assign [.Name x pos'] e pos) (tAsg te (gName j)) := ⟨ps_set hN hi hx he.h hsw hf⟩
theorem qasg' {tg : Expr} {g : TG} (he : SE X e te) (hg : SG X tg g) (h1 : ntu e = true := by rfl) (h2 : nco e = true := by rfl) (h3 : nst tg = true := by rfl) : SS X (.Assign [tg] e pos) (tAsg te g) := ⟨qasg he.h hg.h h1 h2 h3⟩
theorem qasgt' {ts : List Expr} {k : Nat} {tp : Pos} {g : TG} (he : SE X e te) (hg : SG X (.Tuple ts k tp) g) (h1 : ntu e = true := by rfl) : SS X (.Assign [.Tuple ts k tp] e pos) (tAsg te g) := ⟨qasgt he.h hg.h h1⟩
theorem qasgn' {ts : List Expr} {k : Nat} {tp : Pos} {g : TG} (he : SE X e te) (hg : SG X (.Tuple ts k tp) g) (hw : swappedStores [.Tuple ts k tp] e X.env = pure none := by rfl) : SS X (.Assign [.Tuple ts k tp] e pos) (tAsg te g) := ⟨ps_asg he.h hg.h sole_tup hw rfl⟩
theorem qasgs' {g : TG} {sp2 : Pos} (he : SE X e te) (hg : SG X (.Subscript o i sp2) g) (h2 : nco e = true := by rfl) : SS X (.Assign [.Subscript o i sp2] e pos) (tAsg te g) := ⟨ps_asg he.h hg.h (sole_of h2) (by cases e <;> rfl) rfl⟩
theorem qdput' {value : Expr} {pos' : Pos} (hu : X.A.units + 1 < cLine) (ho : SE X o to) (hi : SE X i ti) (hv : SE X value tv) (h : nco value = true := by rfl) : SS X (.Assign [.Subscript o i pos'] value pos) (sDPut to ti tv) := ⟨qdput hu ho.h hi.h hv.h h⟩
theorem qpar' {x y : Str} {px py pt pt2 : Pos} {kt k2 i j : Nat} {ta : TA} (hc : X.calm = true) (hN : X.N.Nodup) (hi : X.N[i]? = some x) (hj : X.N[j]? = some y) (hij : i ≠ j)
    (hx : X.env.scope.names.lookup x = some .local) (hy : X.env.scope.names.lookup y = some .local) (ha : SA X [a, b] ta)
    (hw : swappedStores [.Tuple [.Name x px, .Name y py] kt pt] (.Tuple [a, b] k2 pt2) X.env = pure (some [x, y])) :
    SS X (.Assign [.Tuple [.Name x px, .Name y py] kt pt] (.Tuple [a, b] k2 pt2) pos) (tPar i j ta) := ⟨qpar hc hN hi hj hij hx hy ha.h hw⟩
theorem ps_ret' (he : SE X e te) : SS X (.Return (some e) pos) (tRet te) := ⟨ps_ret he.h⟩
theorem ps_retN' : SS X (.Return none pos) tRetN := ⟨ps_retN⟩
theorem ps_pass' : SS X (.Pass pos) tNext := ⟨ps_pass⟩
theorem ps_break' : SS X (.Break pos) tBreak := ⟨ps_break⟩
theorem ps_if' {ba bb : List Stmt} {t u : TS} (hc : ST X c tA) (ha : SSs X ba t) (hb : SSs X bb u) : SS X (.If c ba bb pos) (tIfS tA t u) := ⟨ps_if hc.h ha.h hb.h⟩
theorem ps_while' {body : List Stmt} {t : TS} (hp : PassesOwn (model X.prog X.w) X.A X.env X.xe) (hc : ST X c tA) (hb : SSs X body t) : SS X (.While c body [] pos) (tWhile tA t) := ⟨ps_while hp hc.h hb.h⟩
theorem qfor' {tg iter : Expr} {body : List Stmt} {wi : TI} {g : TG} {t : TS} (hp : PassesOwn (model X.prog X.w) X.A X.env X.xe) (hc : X.calm = true) (hi : SI X tg iter wi) (hg : SG X tg g) (hb : SSs X body t) (h : nse iter = true := by rfl) :
    SS X (.For tg iter body [] pos) (tFor wi g t) := ⟨qfor hp hc hi.h hg.h hb.h h⟩
theorem qexpr' (he : SE X e te) (h : nco e = true := by rfl) : SS X (.Expr e pos) (tDrop te) := ⟨qexpr he.h h⟩
theorem pss_nil' : SSs X [] tNext := ⟨pss_nil⟩
theorem pss_one' {st : Stmt} {t : TS} (h : SS X st t) : SSs X [st] t := ⟨pss_one h.h⟩
theorem pss_cons' {st : Stmt} {r : List Stmt} {t u : TS} (h1 : SS X st t) (h2 : SSs X r u) : SSs X (st :: r) (tSeq t u) := ⟨pss_cons h1.h h2.h⟩
end
end L2

set_option Elab.async false
set_option linter.all false
set_option maxRecDepth 100000
namespace L2
open PySem PySem.Spec PyProof.Rows
/-! ### sizes -/
def BN (n : Nat) (x : Int) : Prop := x.natAbs < 2 ^ n
theorem BN.mono {m n : Nat} {x : Int} (h : BN m x) (hn : m ≤ n) : BN n x := Nat.lt_of_lt_of_le h (Nat.pow_le_pow_right (by decide) hn)
theorem BN.mul {m n : Nat} {x y : Int} (h : BN m x) (h' : BN n y) : BN (m + n) (x * y) := by
  unfold BN at *
  rw [Int.natAbs_mul, Nat.pow_add]
  exact Nat.mul_lt_mul'' h h'
theorem BN.add {m n : Nat} {x y : Int} (h : BN m x) (h' : BN n y) : BN (max m n + 1) (x + y) := by
  have h1 := h.mono (Nat.le_max_left m n)
  have h2 := h'.mono (Nat.le_max_right m n)
  unfold BN at *
  rw [Nat.pow_succ]
  omega
theorem BN.sub {m n : Nat} {x y : Int} (h : BN m x) (h' : BN n y) : BN (max m n + 1) (x - y) := by
  have h1 := h.mono (Nat.le_max_left m n)
  have h2 := h'.mono (Nat.le_max_right m n)
  unfold BN at *
  rw [Nat.pow_succ]
  omega
theorem BN.neg {n : Nat} {x : Int} (h : BN n x) : BN n (-x) := by unfold BN at *; omega
theorem BN.lit {x : Int} (h : Nat.ble (x.natAbs + 1) (2 ^ 64) = true) : BN 64 x := Nat.le_of_ble_eq_true h
theorem BN.of {n : Nat} {x : Int} (h : -(2 ^ n) < x) (h' : x < 2 ^ n) : BN n x := by
  unfold BN
  have e : ((2 : Int) ^ n) = ((2 ^ n : Nat) : Int) := by norm_cast
  rw [e] at h h'
  omega
theorem BN.bits {x : Int} (h : BN 5000 x) : Builtin.Int.intBits x ≤ 2 ^ 20 := by
  unfold Builtin.Int.intBits
  split
  · exact Nat.zero_le _
  · rename_i hx
    have h0 : x.natAbs ≠ 0 := by
      intro z
      apply hx
      have : x = 0 := by omega
      rw [this]; rfl
    have := (Nat.log2_lt h0).mpr h
    omega
theorem BN.log {x : Int} (h : BN 5000 x) : x.natAbs.log2 < 9000 := by
  by_cases h0 : x.natAbs = 0
  · rw [h0]; decide +kernel
  · have := (Nat.log2_lt h0).mpr h
    omega
section
variable {X : Cx}
/-- products of two numbers of up to 5000 bits -/
theorem op_mulL : OpR X (binaryOp .Mult) (rI (fun i j => BN 5000 i ∧ BN 5000 j) fun i j => .int (i * j)) := opI fun _ _ _ _ _ _ _ hc q => mul_int q (IntMulOk.of_bits hc.1.bits hc.2.bits)
/-- // by any divisor of up to 5000 bits -/
theorem op_fdivM : OpR X (binaryOp .FloorDiv) (rI (fun _ j => j ≠ 0 ∧ BN 5000 j) fun i j => .int (i.fdiv j)) := opI fun _ _ _ _ _ _ _ hc q => floordiv_int hc.1 q (.inl (PyProof.noPylong_of_log2 hc.2.log))
end

/-! ### fractions -/
theorem gcd_step (p q : Int) : Int.gcd q (p % q) = Int.gcd p q := by
  apply Nat.dvd_antisymm
  · apply Int.dvd_gcd
    · have h1 : (Int.gcd q (p % q) : Int) ∣ q := Int.gcd_dvd_left ..
      have h2 : (Int.gcd q (p % q) : Int) ∣ p % q := Int.gcd_dvd_right ..
      have e : q * (p / q) + p % q = p := Int.mul_ediv_add_emod p q
      have h3 := Int.dvd_add (Int.dvd_trans h1 (Int.dvd_mul_right q (p / q))) h2
      rw [e] at h3
      exact h3
    · exact Int.gcd_dvd_left ..
  · apply Int.dvd_gcd
    · exact Int.gcd_dvd_right ..
    · have h1 : (Int.gcd p q : Int) ∣ p := Int.gcd_dvd_left ..
      have h2 : (Int.gcd p q : Int) ∣ q := Int.gcd_dvd_right ..
      have e : p % q = p - q * (p / q) := by have := Int.mul_ediv_add_emod p q; omega
      rw [e]
      exact Int.dvd_sub h1 (Int.dvd_trans h2 (Int.dvd_mul_right ..))
/-- the divisor, with the lower number's sign -/
def dv (u l : Int) : Int := if l < 0 then -(Int.gcd u l : Int) else (Int.gcd u l : Int)
def fN (u l : Int) : Int := u.fdiv (dv u l)
def fD (u l : Int) : Int := l.fdiv (dv u l)
theorem gcd_pos' {u l : Int} (h : l ≠ 0) : 0 < Int.gcd u l := Int.gcd_pos_of_ne_zero_right u h
theorem dv_ne {u l : Int} (h : l ≠ 0) : dv u l ≠ 0 := by
  have := gcd_pos' (u := u) h
  unfold dv
  split <;> omega
theorem dv_dvd (u l : Int) : dv u l ∣ u ∧ dv u l ∣ l := by
  have h1 : (Int.gcd u l : Int) ∣ u := Int.gcd_dvd_left ..
  have h2 : (Int.gcd u l : Int) ∣ l := Int.gcd_dvd_right ..
  unfold dv
  split
  · exact ⟨Int.neg_dvd.mpr h1, Int.neg_dvd.mpr h2⟩
  · exact ⟨h1, h2⟩
theorem fN_mul (u l : Int) : fN u l * dv u l = u := by unfold fN; rw [Int.fdiv_eq_ediv_of_dvd (dv_dvd u l).1]; exact Int.ediv_mul_cancel (dv_dvd u l).1
theorem fD_mul (u l : Int) : fD u l * dv u l = l := by unfold fD; rw [Int.fdiv_eq_ediv_of_dvd (dv_dvd u l).2]; exact Int.ediv_mul_cancel (dv_dvd u l).2
theorem fD_pos {u l : Int} (h : l ≠ 0) : 0 < fD u l := by
  have e := fD_mul u l
  have g := gcd_pos' (u := u) h
  unfold dv at e
  split at e
  · rename_i hl
    rcases Int.lt_trichotomy (fD u l) 0 with z | z | z
    · have : 0 ≤ fD u l * -(Int.gcd u l : Int) := by
        have := Int.mul_nonneg (a := -fD u l) (b := (Int.gcd u l : Int)) (by omega) (by omega)
        rw [Int.neg_mul] at this
        rw [Int.mul_neg]; exact this
      omega
    · rw [z] at e; omega
    · exact z
  · rename_i hl
    rcases Int.lt_trichotomy (fD u l) 0 with z | z | z
    · have : 0 ≤ -fD u l * (Int.gcd u l : Int) := Int.mul_nonneg (by omega) (by omega)
      rw [Int.neg_mul] at this
      omega
    · rw [z] at e; omega
    · exact z
theorem fgcd {u l : Int} (h : l ≠ 0) : Int.gcd (fN u l) (fD u l) = 1 := by
  have g := gcd_pos' (u := u) h
  have k := Int.gcd_ediv_gcd_ediv_gcd g
  unfold fN fD
  rw [Int.fdiv_eq_ediv_of_dvd (dv_dvd u l).1, Int.fdiv_eq_ediv_of_dvd (dv_dvd u l).2]
  unfold dv
  split
  · rw [Int.ediv_neg, Int.ediv_neg, Int.gcd_neg, Int.neg_gcd]; exact k
  · exact k
theorem f_cross (u l : Int) : fN u l * l = fD u l * u := by
  have h1 := fN_mul u l
  have h2 := fD_mul u l
  calc fN u l * l = fN u l * (fD u l * dv u l) := by rw [h2]
    _ = fD u l * (fN u l * dv u l) := by grind
    _ = fD u l * u := by rw [h1]
theorem dvd_of_gcd {a b c : Int} (h : a ∣ b * c) (hg : Int.gcd a b = 1) : a ∣ c := by
  have h1 : a.natAbs ∣ b.natAbs * c.natAbs := by rw [← Int.natAbs_mul]; exact Int.natAbs_dvd_natAbs.mpr h
  have h2 : Nat.Coprime a.natAbs b.natAbs := hg
  exact Int.natAbs_dvd_natAbs.mp (h2.dvd_of_dvd_mul_left h1)
/-- lowest terms are one -/
theorem f_unique {n d n' d' : Int} (hd : 0 < d) (hd' : 0 < d') (hg : Int.gcd n d = 1) (hg' : Int.gcd n' d' = 1) (e : n * d' = n' * d) : n = n' ∧ d = d' := by
  have h1 : d ∣ d' := dvd_of_gcd (b := n) (c := d') (by rw [e]; exact Int.dvd_mul_left ..) (by rw [Int.gcd_comm]; exact hg)
  have h2 : d' ∣ d := dvd_of_gcd (b := n') (c := d) (by rw [← e]; exact Int.dvd_mul_left ..) (by rw [Int.gcd_comm]; exact hg')
  have e2 : d = d' := Int.le_antisymm (Int.le_of_dvd hd' h1) (Int.le_of_dvd hd h2)
  subst e2
  exact ⟨Int.eq_of_mul_eq_mul_right (Int.ne_of_gt hd) e, rfl⟩
theorem f_eq {u l u' l' : Int} (h : l ≠ 0) (h' : l' ≠ 0) (e : u * l' = u' * l) : fN u l = fN u' l' ∧ fD u l = fD u' l' := by
  refine f_unique (fD_pos h) (fD_pos h') (fgcd h) (fgcd h') ?_
  have a1 := fN_mul u l
  have a2 := fD_mul u l
  have b1 := fN_mul u' l'
  have b2 := fD_mul u' l'
  have n1 := dv_ne (u := u) h
  have n2 := dv_ne (u := u') h'
  have key : fN u l * fD u' l' * (dv u l * dv u' l') = fN u' l' * fD u l * (dv u l * dv u' l') := by
    calc fN u l * fD u' l' * (dv u l * dv u' l') = (fN u l * dv u l) * (fD u' l' * dv u' l') := by grind
      _ = u * l' := by rw [a1, b2]
      _ = u' * l := e
      _ = (fN u' l' * dv u' l') * (fD u l * dv u l) := by rw [b1, a2]
      _ = fN u' l' * fD u l * (dv u l * dv u' l') := by grind
  exact Int.eq_of_mul_eq_mul_right (Int.mul_ne_zero n1 n2) key
theorem f_BN {n : Nat} {u l : Int} (h : l ≠ 0) (hu : BN n u) (hl : BN n l) : BN n (fN u l) ∧ BN n (fD u l) := by
  have n1 := dv_ne (u := u) h
  have p1 : 1 ≤ (dv u l).natAbs := by omega
  constructor
  · unfold BN at *
    have e : (fN u l).natAbs * (dv u l).natAbs = u.natAbs := by rw [← Int.natAbs_mul, fN_mul]
    have := Nat.le_mul_of_pos_right (fN u l).natAbs p1
    omega
  · unfold BN at *
    have e : (fD u l).natAbs * (dv u l).natAbs = l.natAbs := by rw [← Int.natAbs_mul, fD_mul]
    have := Nat.le_mul_of_pos_right (fD u l).natAbs p1
    omega
theorem dv_BN {n : Nat} {u l : Int} (h : l ≠ 0) (hl : BN n l) : BN n (dv u l) := by
  have hd := fD_pos (u := u) h
  have e : (fD u l).natAbs * (dv u l).natAbs = l.natAbs := by rw [← Int.natAbs_mul, fD_mul]
  unfold BN at *
  have := Nat.le_mul_of_pos_left (dv u l).natAbs (n := (fD u l).natAbs) (by omega)
  omega
/-- signs -/
def sg (z : Int) : Int := if 0 < z then 1 else if z < 0 then -1 else 0
theorem sg_mul {k z : Int} (h : 0 < k) : sg (k * z) = sg z := by
  unfold sg
  rcases Int.lt_trichotomy z 0 with c | c | c
  · have : k * z < 0 := Int.mul_neg_of_pos_of_neg h c
    rw [if_neg (by omega), if_pos this, if_neg (by omega), if_pos c]
  · subst c; simp
  · have : 0 < k * z := Int.mul_pos h c
    rw [if_pos this, if_pos c]
theorem sg_neg (z : Int) : sg (-z) = 0 - sg z := by
  unfold sg
  split <;> split <;> (try split) <;> (try split) <;> omega
def spGcd : Sp := fun vs H Q _ => ∃ a b : Int, vs = [.int a, .int b] ∧ Q (.int (Int.gcd a b)) H
def spFrac : Sp := fun vs H Q _ => ∃ u l : Int, vs = [.int u, .int l] ∧ l ≠ 0 ∧ BN 5000 l ∧ ∀ (p : Addr) (H' : Hp), H p = none → H' p = some (.tup [.int (fN u l), .int (fD u l)]) → Same H H' → Q (.ref p) H'
end L2

set_option Elab.async false
set_option linter.all false
set_option maxRecDepth 100000
namespace L2
open PySem PySem.Spec PyProof.Rows
/-! ### the rules with the text's part as a letter -/
section
variable {X : Cx} {K : PySem.W.Frag} {e o a : Expr} {es : List Expr} {te ta to : TE} {t : TA} {p pos cpos apos : Pos}
theorem ix_tupK (h : X.K = K := by rfl) : IxR X (rIxT K) := by subst h; exact ix_tup
theorem ix_listK (h : X.K = K := by rfl) : IxR X (rIxL K) := by subst h; exact ix_list
theorem sl_tupK (h : X.K = K := by rfl) : SlR X (rSlT K) := by subst h; exact sl_tup
theorem sl_listK (h : X.K = K := by rfl) : SlR X (rSlL K) := by subst h; exact sl_list
theorem op_eqDK (hu : X.A.units + 64 < cLine) (h : X.K = K := by rfl) : OpR X (compareOp .Eq) (rEqD K false) := by subst h; exact op_eqD hu
theorem op_neDK (hu : X.A.units + 64 < cLine) (h : X.K = K := by rfl) : OpR X (compareOp .NotEq) (rEqD K true) := by subst h; exact op_neD hu
theorem op_ltTK (hu : X.A.units < cLine) (h : X.K = K := by rfl) : OpR X (compareOp .Lt) (rLtT K) := by subst h; exact op_ltT hu
theorem op_catTK (h : X.K = K := by rfl) : OpR X (binaryOp .Add) (rCatT K) := by subst h; exact op_catT
def rLenQ (K : PySem.W.Frag) : List V → Hp → VK → Prop := fun xs H Q => ∃ p ys, xs = [.ref p] ∧ (SqL K H p ys ∨ SqT K H p ys) ∧ Q (.int ys.length) H
theorem call_lenK (h : X.K = K := by rfl) : CallR X (.builtin "len") (rLenQ K) := by subst h; exact call_len_seq
def rListQ (K : PySem.W.Frag) : List V → Hp → VK → Prop := fun xs H Q => ∃ p ys, xs = [.ref p] ∧ (SqL K H p ys ∨ SqT K H p ys) ∧ ∀ l, H l = none → Q (.ref l) (upd H l (.lst ys))
theorem call_listK (h : X.K = K := by rfl) : CallR X (.type "list") (rListQ K) := by subst h; exact call_list_of
def rTupleQ (K : PySem.W.Frag) : List V → Hp → VK → Prop := fun xs H Q => ∃ p ys, xs = [.ref p] ∧ ((SqL K H p ys ∧ ∀ l, H l = none → Q (.ref l) (upd H l (.tup ys))) ∨ (SqT K H p ys ∧ Q (.ref p) H))
theorem call_tupleK (h : X.K = K := by rfl) : CallR X (.type "tuple") (rTupleQ K) := by subst h; exact call_tuple_of
def rIsi (K : PySem.W.Frag) (T : String) (b : Bool) : List V → Hp → VK → Prop := fun xs H Q => ∃ x t, xs = [x, .ty T] ∧ TyOf K H x t ∧ PySem.W.kitOne K t (.type T) = some b ∧ Q (.bl b) H
theorem call_isiK {T : String} (b : Bool) (h : X.K = K := by rfl) : CallR X (.builtin "isinstance") (rIsi K T b) := by subst h; exact call_isi b
def rAll (K : PySem.W.Frag) : List V → Hp → VK → Prop := fun xs H Q => ∃ (p : Addr) (bs : List Bool), xs = [.ref p] ∧ SqL K H p (bs.map V.bl) ∧ Q (.bl (bs.all id)) H
def rAny (K : PySem.W.Frag) : List V → Hp → VK → Prop := fun xs H Q => ∃ (p : Addr) (bs : List Bool), xs = [.ref p] ∧ SqL K H p (bs.map V.bl) ∧ Q (.bl (bs.any id)) H
theorem call_allK (hc : X.calm = true) (h : X.K = K := by rfl) : CallR X (.builtin "all") (rAll K) := by subst h; exact call_allB hc
theorem call_anyK (hc : X.calm = true) (h : X.K = K := by rfl) : CallR X (.builtin "any") (rAny K) := by subst h; exact call_anyB hc
theorem qlistrevK {p2 pos2 : Pos} (hc : X.calm = true) (he : SE X e te) (hgl : Gl X "list") (hml : X.mg "list" = none) (hgr : Gl X "reversed") (hmr : X.mg "reversed" = none) (h : nst e = true := by rfl) (hK : X.K = K := by rfl) :
    SE X (.Call (.Name "list" p) [.Call (.Name "reversed" p2) [e] [] pos2] [] pos) (tListRev K te) := by subst hK; exact qlistrev' hc he hgl hml hgr hmr h
theorem qbm0K {T name id : _} {r : V → List V → Hp → VK → Prop} (pa : PlainAttrs T) (slot : Slot T name id) (hty : typeOf (.builtin id) = pure (.type "method_descriptor")) (hm : MtR X id r) (ho : SE X o to) (h : nba o = true := by rfl) (hline : (apos.endLine == cpos.line) = true := by rfl) (hK : X.K = K := by rfl) :
    SE X (.Call (.Attribute o name apos) [] [] cpos) (tBM0 K T r to) := by subst hK; exact qbm0' pa slot hty hm ho h hline
theorem pe_bmK {T name id : _} {r : V → List V → Hp → VK → Prop} (pa : PlainAttrs T) (slot : Slot T name id) (hty : typeOf (.builtin id) = pure (.type "method_descriptor")) (hm : MtR X id r) (ho : SE X o to) (ha : SA X (e :: es) t) (h : nba o = true := by rfl) (hs : (e :: es).all nst = true := by rfl)
    (hlen : decide ((e :: es).length + 0 + 0 < 30) = true := by rfl) (hline : (apos.endLine == cpos.line) = true := by rfl) (hK : X.K = K := by rfl) : SE X (.Call (.Attribute o name apos) (e :: es) [] cpos) (tBM K T r to t) := by subst hK; exact pe_bm' pa slot hty hm ho ha h hs hlen hline
theorem qtruthK (ha : SE X e te) (h : ntt e = true := by rfl) (hK : X.K = K := by rfl) : ST X e (tTru K te) := by subst hK; exact qtruth' ha h
theorem pi_tupK {tg : Expr} (hl : SE X a ta) (hK : X.K = K := by rfl) : SI X tg a (iTup K ta) := by subst hK; exact pi_tup' hl
theorem pi_listK {tg : Expr} (hl : SE X a ta) (hK : X.K = K := by rfl) : SI X tg a (iList K ta) := by subst hK; exact pi_list' hl
theorem qtupK {ts : List Expr} {k n : Nat} {gs : TGs} (hc : X.calm = true) (h : SGs X ts gs) (hn : ts.length = n := by rfl) (h1 : ts.all nst = true := by rfl) (hK : X.K = K := by rfl) : SG X (.Tuple ts k pos) (gTup K n gs) := by subst hK; exact qtup' hc h hn h1
theorem qunlK {ts : List Expr} {k n : Nat} {gs : TGs} (hc : X.calm = true) (h : SGs X ts gs) (hn : ts.length = n := by rfl) (h1 : ts.all nst = true := by rfl) (hK : X.K = K := by rfl) : SG X (.Tuple ts k pos) (gLst K n gs) := by subst hK; exact qunl' hc h hn h1
end
section
variable {σ : St} {H : Hp} {Q : VK} {K : PySem.W.Frag} {v : V}
theorem rd_lenT {p : Addr} {ys : List V} (h1 : SqT K H p ys) (h : Q (.int ys.length) H) : rLenQ K [.ref p] H Q := ⟨p, ys, rfl, .inr h1, h⟩
theorem rd_lenL {p : Addr} {ys : List V} (h1 : SqL K H p ys) (h : Q (.int ys.length) H) : rLenQ K [.ref p] H Q := ⟨p, ys, rfl, .inl h1, h⟩
theorem rd_isiI {n : Int} (h : Q (.bl true) H) : rIsi K "int" true [.int n, .ty "int"] H Q := ⟨_, _, rfl, .int n, rfl, h⟩
theorem rd_isiB {n : Int} (h : Q (.bl false) H) : rIsi K "bool" false [.int n, .ty "bool"] H Q := ⟨_, _, rfl, .int n, kit_ib _, h⟩
theorem rd_isiT {p : Addr} {xs : List V} (h1 : H p = some (.tup xs)) (h : Q (.bl true) H) : rIsi K "tuple" true [.ref p, .ty "tuple"] H Q := ⟨_, _, rfl, .tup h1, rfl, h⟩
end
end L2

set_option Elab.async false
set_option linter.all false
set_option maxRecDepth 100000
namespace L2
open PySem PySem.Spec PyProof.Rows
/-- a statement, and what holds behind it, in one's own words -/
def tCut (t u : TS) : TS := fun D σ H => ∃ P : St → Hp → Prop, t { D with nx := P } σ H ∧ ∀ σ' H', P σ' H' → u D σ' H'
theorem pss_cut' {X : Cx} {st : Stmt} {r : List Stmt} {t u : TS} (h1 : SS X st t) (h2 : SSs X r u) : SSs X (st :: r) (tCut t u) := by
  refine ⟨fun pins s σ H D I h => ?_⟩
  obtain ⟨P, q, k⟩ := h
  refine wpAny_execs_cons (thn (h1.h pins s σ H { D with nx := P } I q) fun f s1 q => ?_)
  cases f with
  | next =>
    obtain ⟨σ', H', I', q⟩ := q
    exact h2.h pins s1 σ' H' D I' (k σ' H' q)
  | ret v => exact q
  | brk => exact q
  | cont => exact q
theorem iteNT {A B : Prop} (h : B) : if (!true) = true then A else B := by
  rw [if_neg (show ¬ (!true) = true by decide)]; exact h
theorem iteNF {A B : Prop} (h : A) : if (!false) = true then A else B := by
  rw [if_pos (show (!false) = true from rfl)]; exact h
theorem BN.lit' {x : Int} (h : Nat.ble (x.natAbs + 1) (2 ^ 128) = true) : BN 128 x := Nat.le_of_ble_eq_true h
theorem dv_pos {u l : Int} (h : 0 < l) : dv u l = (Int.gcd u l : Int) := by unfold dv; rw [if_neg (by omega)]
theorem sg_eq {z w k u : Int} (hk : 0 < k) (hu : 0 < u) (e : z * u = k * w) : sg z = sg w := by
  rw [← sg_mul (k := u) (z := z) hu, ← sg_mul (k := k) (z := w) hk, ← e, Int.mul_comm]
/-- != of two points -/
theorem rd_nePt {H : Hp} {Q : VK} {K : PySem.W.Frag} {a p q a' p' q' : Addr} {n d m e n' d' m' e' : Int} (h1 : H a = some (.tup [.ref p, .ref q])) (h2 : H p = some (.tup [.int n, .int d])) (h3 : H q = some (.tup [.int m, .int e]))
    (g1 : H a' = some (.tup [.ref p', .ref q'])) (g2 : H p' = some (.tup [.int n', .int d'])) (g3 : H q' = some (.tup [.int m', .int e'])) (h : Q (.bl (!decide ([n, d, m, e] = [n', d', m', e']))) H) : rEqD K true (.ref a) (.ref a') H Q := by
  refine .inl ⟨[.tup (dI [n, d]), .tup (dI [m, e])], [.tup (dI [n', d']), .tup (dI [m', e'])], ⟨a, _, rfl, .of h1, .ref p, [.ref q], rfl, ⟨p, _, rfl, .of h2, den_ints (ns := [n, d])⟩, .ref q, [], rfl, ⟨q, _, rfl, .of h3, den_ints (ns := [m, e])⟩, rfl⟩,
    ⟨a', _, rfl, .of g1, .ref p', [.ref q'], rfl, ⟨p', _, rfl, .of g2, den_ints (ns := [n', d'])⟩, .ref q', [], rfl, ⟨q', _, rfl, .of g3, den_ints (ns := [m', e'])⟩, rfl⟩, rfl, Nat.le_of_ble_eq_true (by rfl), ?_⟩
  have e1 : eqvL [.tup (dI [n, d]), .tup (dI [m, e])] [.tup (dI [n', d']), .tup (dI [m', e'])] = decide ([n, d, m, e] = [n', d', m', e']) := by
    show (eqvL (dI [n, d]) (dI [n', d']) && (eqvL (dI [m, e]) (dI [m', e']) && true)) = _
    rw [eqv_ints, eqv_ints, Bool.eq_iff_iff]
    simp [and_assoc]
  rw [e1]
  exact h
end L2

set_option Elab.async false
set_option linter.all false
set_option maxRecDepth 100000
namespace L2
open PySem PySem.Spec PyProof.Rows
/-! ### two lists walked beside one another -/
section
variable {X : Cx} {pins : List (Addr × Obj)} {σ : St} {H : Hp} {s : Shared} {h' : Heap}
/-- records of ours have turned, a new object is laid and tracked -/
theorem Inv.turnedT {t' : Nat} {fp : List Addr} {T : Addr} {o : HO} (I : Inv X pins σ H s) (hf : ∀ b ∈ fp, FpOk X pins H b) (k : ∀ b o, b ∉ fp → s.heap.get? b = some o → h'.get? b = some o) (hT : s.heap.objs.size ≤ T)
    (new : ObjOk X.prog X.w (upd H T o) h' T o) : Inv X pins σ (upd H T o) { s with heap := h', toks := t' } := by
  have hn : H T = none := I.hok.fresh hT
  have nit : ∀ b u, H b = some u → b ∉ fp := fun b u e z => by rw [(hf b z).1] at e; cases e
  refine I.step (g' := s.gens) (d' := s.drawn) (ch := fp) (fun b hb => ⟨(hf b hb).2.2.2.1, (hf b hb).2.1, (hf b hb).2.2.2.2.1, (hf b hb).2.2.2.2.2⟩) (fun b o _ _ hc e _ => k b o hc e) (fun b o _ _ hc e _ => ⟨o.slots, k b o hc e⟩)
    (fun b u _ q n => by rw [upd_ne (Nat.ne_of_lt (Nat.lt_of_lt_of_le (Heap.lt_size q) hT))]; exact n)
    (fun b o hc e => ⟨o, k b o hc e⟩) (fun b xs q => by rw [upd_ne (ne_of_none q hn)]; exact q) (fun b u xs q => by rw [upd_ne (ne_of_none q hn)]; exact q) (fun b ps q => ⟨#[], by rw [upd_ne (ne_of_none q hn), q]; simp⟩) (fun m hm => ?_) (fun b u e => ?_) I.bare
  · obtain ⟨o, es, ep, ho, r⟩ := hm
    exact ⟨o, es, ep, k _ o (fun z => (hf _ z).2.1 rfl) ho, r⟩
  · by_cases hb : b = T
    · subst hb; rw [upd_same] at e; cases e; exact new
    · rw [upd_ne hb] at e
      refine (I.hok b u e).stay (fun c v hc q => k c v ?_ q) (fun c q => by rw [upd_ne (ne_of_none q hn)]; exact q) fun c xs q => by rw [upd_ne (ne_of_none q hn)]; exact q
      rcases hc with z | z
      · rw [z]; exact nit b u e
      · exact nit c _ z
theorem Inv.turnedL {t' : Nat} {fp : List Addr} (I : Inv X pins σ H s) (hf : ∀ b ∈ fp, FpOk X pins H b) (k : ∀ b o, b ∉ fp → s.heap.get? b = some o → h'.get? b = some o) : Inv X pins σ H { s with heap := h', toks := t' } := by
  have nit : ∀ b u, H b = some u → b ∉ fp := fun b u e z => by rw [(hf b z).1] at e; cases e
  refine I.step (g' := s.gens) (d' := s.drawn) (ch := fp) (fun b hb => ⟨(hf b hb).2.2.2.1, (hf b hb).2.1, (hf b hb).2.2.2.2.1, (hf b hb).2.2.2.2.2⟩) (fun b o _ _ hc e _ => k b o hc e) (fun b o _ _ hc e _ => ⟨o.slots, k b o hc e⟩)
    (fun _ _ _ _ n => n) (fun b o hc e => ⟨o, k b o hc e⟩) (fun _ _ e => e) (fun _ _ _ e => e) (fun b ps e => ⟨#[], by rw [e]; simp⟩) (fun m hm => ?_) (fun b u e => ?_) I.bare
  · obtain ⟨o, es, ep, ho, r⟩ := hm
    exact ⟨o, es, ep, k _ o (fun z => (hf _ z).2.1 rfl) ho, r⟩
  · refine (I.hok b u e).stay (fun c v hc q => k c v ?_ q) (fun _ q => q) fun _ _ q => q
    rcases hc with z | z
    · rw [z]; exact nit b u e
    · exact nit c _ z
end
def Itz (a b : Addr) : It :=
  ⟨fun i H => ∃ xs ys x y, H a = some (.lst xs) ∧ H b = some (.lst ys) ∧ xs[i]? = some x ∧ ys[i]? = some y,
   fun i H v H' => ∃ T xs ys x y, v = .ref T ∧ H T = none ∧ H a = some (.lst xs) ∧ H b = some (.lst ys) ∧ xs[i]? = some x ∧ ys[i]? = some y ∧ H' = upd H T (.tup [x, y]),
   fun i H => ∃ xs ys, H a = some (.lst xs) ∧ H b = some (.lst ys) ∧ (xs.length ≤ i ∨ ys.length ≤ i)⟩
structure ZipOwn (z TI TO i1 i2 : Addr) : Prop where
  TIz : TI ≠ z
  TOz : TO ≠ z
  i1z : i1 ≠ z
  i2z : i2 ≠ z
  TITO : TI ≠ TO
  TIi1 : TI ≠ i1
  TIi2 : TI ≠ i2
  TOi1 : TO ≠ i1
  TOi2 : TO ≠ i2
  i12 : i1 ≠ i2
theorem ZipOwn.apart {z TI TO i1 i2 a b : Addr} (D : ZipOwn z TI TO i1 i2) (ha : a ∉ [z, TI, TO, i1, i2]) (hb : b ∉ [z, TI, TO, i1, i2]) : ZipApart z TI TO i1 i2 a b := by
  simp only [List.mem_cons, List.not_mem_nil, or_false, not_or] at ha hb
  obtain ⟨a1, a2, a3, a4, a5⟩ := ha
  obtain ⟨b1, b2, b3, b4, b5⟩ := hb
  exact ⟨D.TIz, D.TOz, D.i1z, D.i2z, D.TITO, D.TIi1, D.TIi2, D.TOi1, D.TOi2, D.i12, a1, a3, a4, a5, b1, b3, b4, b5⟩
theorem turn_zip {P : Program} {w : World} {K : PySem.W.Frag} {es : List Expr} {k : Nat} {pos : Pos} (a b z TI TO i1 i2 : Addr) (D : ZipOwn z TI TO i1 i2) :
    Turn P w K (.Tuple es k pos) (Itz a b) [z, TI, TO, i1, i2] z (fun i h => IsZip h z TI TO .none ∧ IsPair h TI (.ref i1) (.ref i2) ∧ (∃ p q, IsPair h TO p q) ∧ h.IsListIter i1 a i ∧ h.IsListIter i2 b i) where
  mem := by simp
  obj := fun i h st c hc => by
    obtain ⟨hz, hTI, ⟨p, q, hTO⟩, ⟨o1, e1, c1, d1⟩, ⟨o2, e2, c2, d2⟩⟩ := st
    simp only [List.mem_cons, List.not_mem_nil, or_false] at hc
    rcases hc with rfl | rfl | rfl | rfl | rfl
    · exact ⟨_, hz, fun v z => by cases z⟩
    · exact ⟨_, hTI, fun v z => by cases z⟩
    · exact ⟨_, hTO, fun v z => by cases z⟩
    · exact ⟨_, e1, fun v z => by rw [d1] at z; cases z⟩
    · exact ⟨_, e2, fun v z => by rw [d2] at z; cases z⟩
  keep := fun i h h' st kk => by
    obtain ⟨hz, hTI, ⟨p, q, hTO⟩, h1, h2⟩ := st
    exact ⟨kk z (by simp) _ hz, kk TI (by simp) _ hTI, ⟨p, q, kk TO (by simp) _ hTO⟩, h1.at fun o e => kk i1 (by simp) o e, h2.at fun o e => kk i2 (by simp) o e⟩
  item := by
    intro X hP hw hK hc i pins s σ H E I hf st hg
    subst hP hw hK
    obtain ⟨xs, ys, x, y, ha, hb, hx, hy⟩ := hg
    obtain ⟨hz, hTI, ⟨p, q, hTO⟩, h1, h2⟩ := st
    obtain ⟨its, rv, p1, z1⟩ := I.list (SqL.of ha)
    obtain ⟨jts, rw', p2, z2⟩ := I.list (SqL.of hb)
    obtain ⟨u, hu, ru⟩ := rv.get hx
    obtain ⟨v, hv, rv'⟩ := rw'.get hy
    have na : a ∉ [z, TI, TO, i1, i2] := fun m => by rw [(hf a m).1] at ha; cases ha
    have nb : b ∉ [z, TI, TO, i1, i2] := fun m => by rw [(hf b m).1] at hb; cases hb
    have hfr : H s.heap.objs.size = none := I.hok.fresh (Nat.le_refl _)
    have zlt : z < s.heap.objs.size := Heap.lt_size hz
    refine wpAny_pyNext_zip_item (D.apart na nb) hz hTI hTO h1 h2 p1.isList p2.isList (x := u) (y := v) (by simpa using hu) (by simpa using hv) fun h' a1 a2 a3 a4 a5 a6 hk => ?_
    refine ⟨_, rfl, wpAny_letOwnedTupleGo_zip (s := { s with heap := h' }) a1 fun h2' hz' hs' => ?_⟩
    have hT : IsPair h2' s.heap.objs.size u v := hs'.extBut _ _ (Nat.ne_of_gt zlt) a5
    refine ⟨.ref s.heap.objs.size, upd H s.heap.objs.size (.tup [x, y]), I.turnedT (t' := s.toks) hf (fun c o hc e => ?_) (Nat.le_refl _) ⟨by show 2 ≤ sizeLine; decide, [u, v], .cons ru (.cons rv' .nil), ⟨_, hT, rfl, _, rfl⟩⟩, rfl,
      ⟨_, xs, ys, x, y, rfl, hfr, ha, hb, hx, hy, rfl⟩, ⟨hz', hs'.extBut _ _ D.TIz (hk _ _ D.TIz D.TITO D.TIi1 D.TIi2 hTI), ⟨_, _, hs'.extBut _ _ D.TOz a2⟩, a3.extBut hs'.extBut D.i1z, a4.extBut hs'.extBut D.i2z⟩, fun c hc => ?_⟩
    · simp only [List.mem_cons, List.not_mem_nil, or_false, not_or] at hc
      exact hs'.extBut _ _ hc.1 (hk _ _ hc.1 hc.2.2.1 hc.2.2.2.1 hc.2.2.2.2 e)
    · have hn := (hf c hc).1
      have ne : c ≠ s.heap.objs.size := by
        obtain ⟨o1, e1, _⟩ := h1
        obtain ⟨o2, e2, _⟩ := h2
        simp only [List.mem_cons, List.not_mem_nil, or_false] at hc
        rcases hc with rfl | rfl | rfl | rfl | rfl
        · exact Nat.ne_of_lt (Heap.lt_size hz)
        · exact Nat.ne_of_lt (Heap.lt_size hTI)
        · exact Nat.ne_of_lt (Heap.lt_size hTO)
        · exact Nat.ne_of_lt (Heap.lt_size e1)
        · exact Nat.ne_of_lt (Heap.lt_size e2)
      rw [upd_ne ne]; exact hn
  done := by
    intro X hP hw hK hc i pins s σ H E I hf st hg
    subst hP hw hK
    obtain ⟨xs, ys, ha, hb, hx⟩ := hg
    obtain ⟨hz, hTI, ⟨p, q, hTO⟩, h1, h2⟩ := st
    obtain ⟨its, rv, p1, z1⟩ := I.list (SqL.of ha)
    obtain ⟨jts, rw', p2, z2⟩ := I.list (SqL.of hb)
    have na : a ∉ [z, TI, TO, i1, i2] := fun m => by rw [(hf a m).1] at ha; cases ha
    have nb : b ∉ [z, TI, TO, i1, i2] := fun m => by rw [(hf b m).1] at hb; cases hb
    have l1 := rv.length
    have l2 := rw'.length
    refine wpAny_pyNext_zip_end (I.ok.hd hc) (D.apart na nb) hz hTI hTO h1 h2 p1.isList p2.isList ?_ fun h' hk => ⟨rfl, I.turnedL (t' := s.toks) hf fun c o hc e => ?_⟩
    · rcases hx with hx | hx
      · exact .inl (by simp; omega)
      · exact .inr (by simp; omega)
    · simp only [List.mem_cons, List.not_mem_nil, or_false, not_or] at hc
      exact hk _ _ hc.1 hc.2.2.1 hc.2.2.2.1 hc.2.2.2.2 e
  self := fun _ _ _ _ _ st h => wpAny_pyIter_zip st.1 h
section
variable {X : Cx} {tg : Expr}
def iZip (ta : TA) : TI := fun σ H R => ta σ H fun vs H1 => ∃ a b, vs = [.ref a, .ref b] ∧ (∃ xs, H1 a = some (.lst xs)) ∧ (∃ ys, H1 b = some (.lst ys)) ∧ R (Itz a b) H1
theorem pi_zip {a b : Expr} {es : List Expr} {k : Nat} {tpos : Pos} {ta : TA} {p pos : Pos} (hg : Gl X "zip") (hm : X.mg "zip" = none) (ha : PA X [a, b] ta) (hs : starEach [a, b] X.env = [(false, eval a X.env), (false, eval b X.env)] := by rfl) (hs2 : starEach [b] X.env = [(false, eval b X.env)] := by rfl) :
    PI X (.Tuple es k tpos) (.Call (.Name "zip" p) [a, b] [] pos) (iZip ta) := by
  intro pins s σ H R I h
  refine Call_ (ld_blt I hg hm PyProof.Rows.boot_zip (PyProof.Rows.callWith_type1 (thn (ha pos pins s σ H _ I h) fun us s1 ⟨vs, H1, I1, r1, q1⟩ => ?_) (by rw [hs, hs2]) (by rw [hs2]; rfl)))
  obtain ⟨l1, l2, e, ⟨xs, ha1⟩, ⟨ys, hb1⟩, q⟩ := q1
  subst e
  cases r1 with
  | cons r rr =>
    cases rr with
    | cons r' rr =>
      cases rr
      cases r
      cases r'
      obtain ⟨its, rv, p1, z1⟩ := I1.list (SqL.of ha1)
      obtain ⟨jts, rw', p2, z2⟩ := I1.list (SqL.of hb1)
      refine call_zip_2 p1.isList p2.isList fun h' b1 b2 b3 b4 b5 b6 hk => ?_
      refine wpAny_pyIter_zip b1 ?_
      have DZ : ∀ n : Nat, ZipOwn (n + 4) (n + 2) (n + 3) n (n + 1) := fun n => ⟨fun e => absurd (show n + 2 = n + 4 from e) (by omega), fun e => absurd (show n + 3 = n + 4 from e) (by omega), fun e => absurd (show n = n + 4 from e) (by omega), fun e => absurd (show n + 1 = n + 4 from e) (by omega), fun e => absurd (show n + 2 = n + 3 from e) (by omega), fun e => absurd (show n + 2 = n from e) (by omega), fun e => absurd (show n + 2 = n + 1 from e) (by omega), fun e => absurd (show n + 3 = n from e) (by omega), fun e => absurd (show n + 3 = n + 1 from e) (by omega), fun e => absurd (show n = n + 1 from e) (by omega)⟩
      refine ⟨_, [s1.heap.objs.size + 4, s1.heap.objs.size + 2, s1.heap.objs.size + 3, s1.heap.objs.size, s1.heap.objs.size + 1], _, _, H1, rfl, I1.kept (t' := s1.toks) hk, turn_zip l1 l2 _ _ _ _ _ (DZ _), ⟨b1, b2, ⟨_, _, b3⟩, b4, b5⟩, fun c hc => ?_, q⟩
      have hle : s1.heap.objs.size ≤ c := by
        simp only [List.mem_cons, List.not_mem_nil, or_false] at hc
        rcases hc with rfl | rfl | rfl | rfl | rfl
        · exact Nat.le_add_right _ _
        · exact Nat.le_add_right _ _
        · exact Nat.le_add_right _ _
        · exact Nat.le_refl _
        · exact Nat.le_add_right _ _
      exact I1.fpOk hle (I1.hok.fresh hle)
end
section
variable {X : Cx} {a b : Expr} {p pos : Pos}
theorem qzip' {es : List Expr} {k : Nat} {tpos : Pos} {ta : TA} (hg : Gl X "zip") (hm : X.mg "zip" = none) (ha : SA X [a, b] ta) (hs : starEach [a, b] X.env = [(false, eval a X.env), (false, eval b X.env)] := by rfl) (hs2 : starEach [b] X.env = [(false, eval b X.env)] := by rfl) :
    SI X (.Tuple es k tpos) (.Call (.Name "zip" p) [a, b] [] pos) (iZip ta) := ⟨pi_zip hg hm ha.h hs hs2⟩
end
section
variable {A : TA} {σ σc : St} {H : Hp} {g : TG} {tt : TT} {te : TE} {Qd : List V → Hp → Prop}
theorem rd_izip {R : It → Hp → Prop} (h : A σ H fun vs H1 => ∃ a b, vs = [.ref a, .ref b] ∧ (∃ xs, H1 a = some (.lst xs)) ∧ (∃ ys, H1 b = some (.lst ys)) ∧ R (Itz a b) H1) : iZip A σ H R := h
theorem comp_zip {a b : Addr} {xs ys : List V} (Pv : Nat → List V → St → Hp → Prop) (hz : xs.length = ys.length) (h0 : Pv 0 [] σc H)
    (hl : ∀ i zs σ H, i ≤ xs.length → Pv i zs σ H → H a = some (.lst xs) ∧ H b = some (.lst ys) ∧ (i < xs.length → zs.length < sizeLine))
    (hs : ∀ i x y zs σ H T, xs[i]? = some x → ys[i]? = some y → Pv i zs σ H → H T = none → g (.ref T) σ (upd H T (.tup [x, y])) fun σ2 H2 => tt σ2 H2 fun c H3 => if c = true then te σ2 H3 fun y H4 => Pv (i + 1) (zs ++ [y]) σ2 H4 else Pv (i + 1) zs σ2 H3)
    (hd : ∀ zs σ H, Pv xs.length zs σ H → Qd zs H) : tCompL (Itz a b) g tt te σc H Qd := by
  refine ⟨fun i m zs σ H => m = xs.length - i ∧ i ≤ xs.length ∧ Pv i zs σ H, ⟨xs.length, by simp, Nat.zero_le _, h0⟩, ?_⟩
  rintro i m zs σ H ⟨rfl, hi, p⟩
  obtain ⟨qa, qb, hzs⟩ := hl i zs σ H hi p
  by_cases hlt : i < xs.length
  · have hlt' : i < ys.length := by omega
    refine .inr ⟨⟨xs, ys, xs[i], ys[i], qa, qb, by simp [hlt], by simp [hlt']⟩, hzs hlt, Pv (i + 1), fun zs σ' H' p' => ⟨xs.length - (i + 1), by omega, rfl, hlt, p'⟩, fun v H' y => ?_⟩
    obtain ⟨T, xs', ys', x, y, rfl, hT, ha, hb, hx, hy, rfl⟩ := y
    rw [qa] at ha; cases ha
    rw [qb] at hb; cases hb
    exact hs i x y zs σ _ T hx hy p hT
  · have e : i = xs.length := by omega
    subst e
    exact .inl ⟨⟨xs, ys, qa, qb, .inl (Nat.le_refl _)⟩, hd zs σ H p⟩
end
end L2

set_option Elab.async false
set_option linter.all false
set_option maxRecDepth 100000
namespace TB
open PySem
/-- l rises -/
abbrev Up (l : List Nat) : Prop := l.Pairwise (· < ·)
theorem up_get {l : List Nat} (h : Up l) {i j : Nat} (hij : i < j) (hj : j < l.length) : l[i]'(Nat.lt_trans hij hj) < l[j] := List.pairwise_iff_getElem.mp h i j _ hj hij
theorem up_room : ∀ (l : List Nat) (a b : Nat), Up l → (∀ e, a ≤ e → e < b → e ∈ l) → b - a ≤ l.length
  | [], a, b, _, h => by
    by_cases c : a < b
    · exact absurd (h a (Nat.le_refl _) c) (by simp)
    · simp; omega
  | x :: xs, a, b, u, h => by
    have ux := List.pairwise_cons.mp u
    by_cases c : a < b
    · have ha := h a (Nat.le_refl _) c
      rcases Nat.lt_trichotomy a x with q | q | q
      · rcases List.mem_cons.mp ha with z | z
        · omega
        · exact absurd (ux.1 a z) (by omega)
      · subst q
        have r := up_room xs (a + 1) b ux.2 fun e h1 h2 => by
          rcases List.mem_cons.mp (h e (by omega) h2) with z | z
          · omega
          · exact z
        simp only [List.length_cons]; omega
      · have r := up_room xs a b ux.2 fun e h1 h2 => by
          rcases List.mem_cons.mp (h e h1 h2) with z | z
          · omega
          · exact z
        simp only [List.length_cons]; omega
    · omega
theorem up_gap {l : List Nat} {m : Nat} (u : Up l) (h : l.length ≤ m) : ∃ e, e ≤ m ∧ e ∉ l := by
  refine Classical.byContradiction fun n => ?_
  have r := up_room l 0 (m + 1) u fun e _ h2 => Classical.byContradiction fun q => n ⟨e, by omega, q⟩
  omega
/-- what the search by halves tells -/
theorem below_go {xs : Array Nat} {j : Nat} (u : Up xs.toList) : ∀ (f lo hi : Nat), hi - lo ≤ f → lo ≤ hi → hi ≤ xs.size → (∀ i (q : i < xs.size), i < lo → xs[i] < j) → (∀ i (q : i < xs.size), hi ≤ i → j ≤ xs[i]) →
    (SetTable.below.go xs j f lo hi ≤ xs.size ∧ (∀ i (q : i < xs.size), i < SetTable.below.go xs j f lo hi → xs[i] < j) ∧ (∀ i (q : i < xs.size), SetTable.below.go xs j f lo hi ≤ i → j ≤ xs[i]))
  | 0, lo, hi, h1, h2, h3, h4, h5 => by
    have e : lo = hi := by omega
    subst e
    exact ⟨h3, h4, h5⟩
  | f + 1, lo, hi, h1, h2, h3, h4, h5 => by
    unfold SetTable.below.go
    by_cases c : lo < hi
    · rw [if_pos c]
      have hm : (lo + hi) / 2 < hi := by omega
      have hl : lo ≤ (lo + hi) / 2 := by omega
      have hz : (lo + hi) / 2 < xs.size := by omega
      have eg : xs.getD ((lo + hi) / 2) j = xs[(lo + hi) / 2] := by simp [Array.getD, hz]
      dsimp only
      rw [eg]
      have rise : ∀ i k (q : i < xs.size) (r : k < xs.size), i < k → xs[i] < xs[k] := fun i k q r hik => by
        have := up_get u hik (by simpa using r)
        simpa using this
      by_cases d : xs[(lo + hi) / 2] < j
      · rw [if_pos d]
        refine below_go u f _ hi (by omega) (by omega) h3 (fun i q hi' => ?_) h5
        rcases Nat.lt_or_ge i ((lo + hi) / 2) with z | z
        · exact Nat.lt_trans (rise _ _ q hz z) d
        · have : i = (lo + hi) / 2 := by omega
          subst this; exact d
      · rw [if_neg d]
        refine below_go u f lo _ (by omega) hl (by omega) h4 (fun i q hi' => ?_)
        rcases Nat.lt_or_ge ((lo + hi) / 2) i with z | z
        · have := rise _ _ hz q z; omega
        · have : i = (lo + hi) / 2 := by omega
          subst this; omega
    · rw [if_neg c]
      have e : lo = hi := by omega
      subst e
      exact ⟨h3, h4, h5⟩
theorem below_is {xs : Array Nat} (j : Nat) (u : Up xs.toList) : SetTable.below xs j ≤ xs.size ∧ (∀ i (q : i < xs.size), i < SetTable.below xs j → xs[i] < j) ∧ (∀ i (q : i < xs.size), SetTable.below xs j ≤ i → j ≤ xs[i]) :=
  below_go u xs.size 0 xs.size (by omega) (by omega) (Nat.le_refl _) (fun i q h => by omega) (fun i q h => by omega)
theorem below_eq {xs : Array Nat} {j k : Nat} (u : Up xs.toList) (hk : k ≤ xs.size) (h1 : ∀ i (q : i < xs.size), i < k → xs[i] < j) (h2 : ∀ i (q : i < xs.size), k ≤ i → j ≤ xs[i]) : SetTable.below xs j = k := by
  obtain ⟨a, b, c⟩ := below_is j u
  rcases Nat.lt_trichotomy (SetTable.below xs j) k with z | z | z
  · have p := h1 _ (by omega) z; have q := c _ (by omega) (Nat.le_refl _); omega
  · exact z
  · have p := h2 k (by omega) (Nat.le_refl _); have q := b k (by omega) z; omega
/-- the slot from which the k-th is looked for -/
def slotAt (xs : Array Nat) (k : Nat) : Nat := if k = 0 then 0 else xs.getD (k - 1) 0 + 1
theorem below_slotAt {xs : Array Nat} {k : Nat} (u : Up xs.toList) (hk : k ≤ xs.size) : SetTable.below xs (slotAt xs k) = k := by
  have rise : ∀ i k (q : i < xs.size) (r : k < xs.size), i < k → xs[i] < xs[k] := fun i k q r hik => by
    have := up_get u hik (by simpa using r)
    simpa using this
  refine below_eq u hk (fun i q h => ?_) (fun i q h => ?_)
  · unfold slotAt
    rw [if_neg (by omega)]
    have hz : k - 1 < xs.size := by omega
    have : xs.getD (k - 1) 0 = xs[k - 1] := by simp [Array.getD, hz]
    rw [this]
    rcases Nat.lt_or_ge i (k - 1) with z | z
    · have := rise _ _ q hz z; omega
    · have : i = k - 1 := by omega
      subst this; omega
  · unfold slotAt
    by_cases c : k = 0
    · rw [if_pos c]; omega
    · rw [if_neg c]
      have hz : k - 1 < xs.size := by omega
      have : xs.getD (k - 1) 0 = xs[k - 1] := by simp [Array.getD, hz]
      rw [this]
      have := rise _ _ hz q (by omega); omega
theorem ins_list {α : Type} (xs : Array α) (p : Nat) (x : α) : (SetTable.insertAt xs p x).toList = xs.toList.take p ++ x :: xs.toList.drop p := by
  unfold SetTable.insertAt
  simp [Array.toList_extract]
  exact List.take_of_length_le (by simp)
theorem ins_perm {α : Type} (xs : Array α) (p : Nat) (x : α) : (SetTable.insertAt xs p x).toList.Perm (x :: xs.toList) := by
  rw [ins_list]
  exact List.perm_middle.trans (by rw [List.take_append_drop])
theorem ins_size {α : Type} (xs : Array α) (p : Nat) (x : α) : (SetTable.insertAt xs p x).size = xs.size + 1 := by
  have := (ins_perm xs p x).length_eq
  simpa using this
theorem ins_up {xs : Array Nat} {j : Nat} (u : Up xs.toList) (h : xs[SetTable.below xs j]? ≠ some j) : Up (SetTable.insertAt xs (SetTable.below xs j) j).toList := by
  obtain ⟨a, b, c⟩ := below_is j u
  rw [ins_list]
  have h1 : ∀ v ∈ xs.toList.take (SetTable.below xs j), v < j := fun v hv => by
    obtain ⟨i, hi, rfl⟩ := List.mem_iff_getElem.mp hv
    rw [List.length_take] at hi
    rw [List.getElem_take]
    have := b i (by simp at hi; omega) (by omega)
    simpa using this
  have h2 : ∀ v ∈ xs.toList.drop (SetTable.below xs j), j < v := fun v hv => by
    obtain ⟨i, hi, rfl⟩ := List.mem_iff_getElem.mp hv
    rw [List.length_drop] at hi
    rw [List.getElem_drop]
    have hz : SetTable.below xs j + i < xs.size := by simp at hi; omega
    have h3 := c _ hz (by omega)
    have h4 : xs[SetTable.below xs j]'(by omega) ≠ j := fun e => h (by rw [Array.getElem?_eq_getElem (by omega), e])
    have h5 := c (SetTable.below xs j) (by omega) (Nat.le_refl _)
    have h6 : xs[SetTable.below xs j]'(by omega) ≤ xs[SetTable.below xs j + i] := by
      rcases Nat.eq_zero_or_pos i with z | z
      · subst z; exact Nat.le_refl _
      · have := up_get u (i := SetTable.below xs j) (j := SetTable.below xs j + i) (by omega) (by simpa using hz)
        exact Nat.le_of_lt (by simpa using this)
    simp only [Array.getElem_toList]
    omega
  refine List.pairwise_append.mpr ⟨u.sublist (List.take_sublist _ _), List.pairwise_cons.mpr ⟨fun v hv => h2 v hv, u.sublist (List.drop_sublist _ _)⟩, fun p hp q hq => ?_⟩
  rcases List.mem_cons.mp hq with rfl | hq
  · exact h1 p hp
  · exact Nat.lt_trans (h1 p hp) (h2 q hq)
/-- leaps, so many -/
def orb (m : Nat) : Nat → Nat × Nat → Nat × Nat
  | 0, x => x
  | L + 1, x => orb m L (SetTable.leap m x.1 x.2)
def gs (m : Nat) : Nat → Nat → Nat
  | 0, i => i
  | k + 1, i => gs m k ((i * 5 + 1) % (m + 1))
theorem gs_add (m : Nat) : ∀ (a b i : Nat), gs m (a + b) i = gs m b (gs m a i)
  | 0, b, i => by rw [Nat.zero_add]; rfl
  | a + 1, b, i => by rw [show a + 1 + b = (a + b) + 1 by omega]; exact gs_add m a b _
def Msk (m : Nat) : Prop := m = 7 ∨ m = 31 ∨ m = 127 ∨ m = 511
theorem gs_all {m : Nat} (h : Msk m) : gs m (m + 1) 0 = 0 ∧ ∀ e, e < m + 1 → ∃ k, k < m + 1 ∧ gs m k 0 = e := by
  have t : ∀ (M : Nat) (f : Nat → Nat), (gs M (M + 1) 0 == 0 && (List.range (M + 1)).all fun e => decide (f e < M + 1) && gs M (f e) 0 == e) = true → gs M (M + 1) 0 = 0 ∧ ∀ e, e < M + 1 → ∃ k, k < M + 1 ∧ gs M k 0 = e := fun M f hh => by
    rw [Bool.and_eq_true, List.all_eq_true] at hh
    refine ⟨by simpa using hh.1, fun e he => ⟨f e, ?_⟩⟩
    have := hh.2 e (List.mem_range.mpr he)
    simpa using this
  rcases h with rfl | rfl | rfl | rfl
  · exact t 7 (fun e => ((List.range 8).find? fun k => gs 7 k 0 == e).getD 0) (by decide +kernel)
  · exact t 31 (fun e => ((List.range 32).find? fun k => gs 31 k 0 == e).getD 0) (by decide +kernel)
  · exact t 127 (fun e => ((List.range 128).find? fun k => gs 127 k 0 == e).getD 0) (by decide +kernel)
  · exact t 511 (fun e => ((List.range 512).find? fun k => gs 511 k 0 == e).getD 0) (by decide +kernel)
theorem gs_hit {m i e : Nat} (h : Msk m) (hi : i < m + 1) (he : e < m + 1) : ∃ k, k ≤ m ∧ gs m k i = e := by
  obtain ⟨z, al⟩ := gs_all h
  obtain ⟨a, ha, rfl⟩ := al i hi
  obtain ⟨b, hb, rfl⟩ := al e he
  rcases Nat.lt_or_ge b a with c | c
  · refine ⟨m + 1 - a + b, by omega, ?_⟩
    rw [← gs_add, show a + (m + 1 - a + b) = (m + 1) + b by omega, gs_add, z]
  · exact ⟨b - a, by omega, by rw [← gs_add, show a + (b - a) = b by omega]⟩
theorem orb_add (m : Nat) : ∀ (a b : Nat) (x : Nat × Nat), orb m (a + b) x = orb m b (orb m a x)
  | 0, b, x => by rw [Nat.zero_add]; rfl
  | a + 1, b, x => by rw [show a + 1 + b = (a + b) + 1 by omega]; exact orb_add m a b _
theorem orb_snd (m : Nat) : ∀ (L : Nat) (x : Nat × Nat), (orb m L x).2 = x.2 / 32 ^ L
  | 0, x => by simp [orb]
  | L + 1, x => by
    show (orb m L _).2 = _
    rw [orb_snd m L]
    show x.2 / 32 / 32 ^ L = _
    rw [Nat.div_div_eq_div_mul, Nat.pow_succ, Nat.mul_comm]
theorem orb_lt {m : Nat} : ∀ (L : Nat) (x : Nat × Nat), x.1 < m + 1 → (orb m L x).1 < m + 1
  | 0, x, h => h
  | L + 1, x, h => orb_lt L _ (Nat.mod_lt _ (by omega))
theorem orb_gs (m : Nat) : ∀ (k : Nat) (x : Nat × Nat), x.2 = 0 → (orb m k x).1 = gs m k x.1
  | 0, x, h => rfl
  | k + 1, x, h => by
    show (orb m k (SetTable.leap m x.1 x.2)).1 = gs m k _
    rw [orb_gs m k _ (by show x.2 / 32 = 0; rw [h])]
    show gs m k ((x.1 * 5 + 1 + x.2 / 32) % (m + 1)) = _
    rw [h]
theorem orb_hit {m i p e : Nat} (h : Msk m) (hi : i < m + 1) (hp : p < 2 ^ 64) (he : e < m + 1) : ∃ L, L ≤ 13 + m ∧ (orb m L (i, p)).1 = e := by
  obtain ⟨k, hk, ek⟩ := gs_hit h (orb_lt 13 (i, p) hi) he
  have h0 : (orb m 13 (i, p)).2 = 0 := by rw [orb_snd]; exact Nat.div_eq_of_lt (Nat.lt_trans hp (by decide))
  exact ⟨13 + k, by omega, by rw [orb_add, orb_gs m k _ h0, ek]⟩
end TB

set_option Elab.async false
set_option linter.all false
set_option maxRecDepth 100000
namespace TB
open PySem
/-- so many steps of the search -/
def adv (t : SetTable) : Nat → SetTable.Probe → SetTable.Probe
  | 0, p => p
  | m + 1, p => adv t m (t.advance p)
theorem adv_add (t : SetTable) : ∀ (a b : Nat) (p : SetTable.Probe), adv t (a + b) p = adv t b (adv t a p)
  | 0, b, p => by rw [Nat.zero_add]; rfl
  | a + 1, b, p => by rw [show a + 1 + b = (a + b) + 1 by omega]; exact adv_add t a b _
theorem adv_dummy (t : SetTable) : ∀ (m : Nat) (p : SetTable.Probe), (adv t m p).dummy = p.dummy
  | 0, p => rfl
  | m + 1, p => by
    show (adv t m (t.advance p)).dummy = _
    rw [adv_dummy t m]
    unfold SetTable.advance
    split <;> rfl
/-- a run's beginning -/
def beg (t : SetTable) (x : Nat × Nat) (d : Option Nat) : SetTable.Probe := { j := x.1, more := SetTable.runEnd t.mask x.1 - x.1, i := x.1, perturb := x.2, dummy := d }
theorem adv_run (t : SetTable) : ∀ (c : Nat) (p : SetTable.Probe), p.more = c → adv t (c + 1) p = beg t (SetTable.leap t.mask p.i p.perturb) p.dummy
  | 0, p, h => by
    show t.advance p = _
    unfold SetTable.advance
    rw [if_neg (by omega)]
    rfl
  | c + 1, p, h => by
    show adv t (c + 1) (t.advance p) = _
    have e : t.advance p = { p with j := p.j + 1, more := p.more - 1 } := by
      unfold SetTable.advance
      rw [if_pos (by omega)]
    rw [e]
    exact adv_run t c _ (by show p.more - 1 = c; omega)
theorem adv_beg (t : SetTable) (x : Nat × Nat) (d : Option Nat) : ∃ c, 1 ≤ c ∧ c ≤ 10 ∧ adv t c (beg t x d) = beg t (SetTable.leap t.mask x.1 x.2) d := by
  refine ⟨SetTable.runEnd t.mask x.1 - x.1 + 1, by omega, ?_, adv_run t _ (beg t x d) rfl⟩
  unfold SetTable.runEnd
  split <;> omega
theorem adv_orb (t : SetTable) (d : Option Nat) : ∀ (L : Nat) (x : Nat × Nat), ∃ c, c ≤ 10 * L ∧ adv t c (beg t x d) = beg t (orb t.mask L x) d
  | 0, x => ⟨0, by omega, rfl⟩
  | L + 1, x => by
    obtain ⟨c, _, h1, e1⟩ := adv_beg t x d
    obtain ⟨c', h2, e2⟩ := adv_orb t d L (SetTable.leap t.mask x.1 x.2)
    refine ⟨c + c', by omega, ?_⟩
    rw [adv_add, e1, e2]
    rfl
theorem bits_lt (h : Int) : SetTable.bits h < 2 ^ 64 := by
  unfold SetTable.bits
  have := Int.emod_lt_of_pos h (show (0 : Int) < 2 ^ 64 by decide)
  have := Int.emod_nonneg h (show (2 ^ 64 : Int) ≠ 0 by decide)
  omega
theorem start_hit {t : SetTable} {h : Int} {e : Nat} (hm : Msk t.mask) (he : e ≤ t.mask) : ∃ c, c < 10 * SetTable.turns t.mask ∧ (adv t c (t.probeStart h)).j = e := by
  obtain ⟨L, hL, eL⟩ := orb_hit (p := SetTable.bits h) (i := SetTable.bits h % (t.mask + 1)) hm (Nat.mod_lt _ (by omega)) (bits_lt h) (show e < t.mask + 1 by omega)
  obtain ⟨c, hc, ec⟩ := adv_orb t none L (SetTable.bits h % (t.mask + 1), SetTable.bits h)
  refine ⟨c, by unfold SetTable.turns; omega, ?_⟩
  have e0 : t.probeStart h = beg t (SetTable.bits h % (t.mask + 1), SetTable.bits h) none := rfl
  rw [e0, ec]
  exact eL
/-- an empty slot lies m steps ahead -/
def Far (t : SetTable) (p : SetTable.Probe) (m : Nat) : Prop := t.slot (adv t m p).j = .empty ∧ p.dummy = none
theorem slot_nodummy {t : SetTable} (hd : t.dummies = #[]) (j : Nat) : t.slot j = (if t.place[SetTable.below t.place j]? == some j then .live (SetTable.below t.place j) else .empty) := by
  have e : SetTable.has t.dummies j = false := by rw [hd]; rfl
  unfold SetTable.slot
  simp only [e]
  simp
theorem slot_empty {t : SetTable} (hd : t.dummies = #[]) {j : Nat} : t.slot j = .empty ↔ t.place[SetTable.below t.place j]? ≠ some j := by
  rw [slot_nodummy hd]
  by_cases c : t.place[SetTable.below t.place j]? = some j
  · simp [c]
  · simp [c]
theorem probe_go {t : SetTable} {hashAt : Nat → Int} {h : Int} (hd : t.dummies = #[]) : ∀ (f m : Nat) (p : SetTable.Probe), m < f → Far t p m →
    (∃ j, SetTable.probe.go t hashAt h f p = some (.empty j none) ∧ t.slot j = .empty) ∨
    (∃ j i q m', SetTable.probe.go t hashAt h f p = some (.candidate j i q) ∧ t.slot j = .live i ∧ m' < m ∧ Far t q m')
  | 0, m, p, hf, _ => by omega
  | f + 1, m, p, hf, ⟨hm, hp⟩ => by
    unfold SetTable.probe.go
    have nd := slot_nodummy hd p.j
    cases hs : t.slot p.j with
    | empty => exact .inl ⟨p.j, by rw [hp], hs⟩
    | dummy => rw [hs] at nd; split at nd <;> cases nd
    | live i =>
      obtain ⟨m', rfl⟩ : ∃ m', m = m' + 1 := by
        cases m with
        | zero =>
          have : t.slot p.j = .empty := hm
          rw [hs] at this; cases this
        | succ k => exact ⟨k, rfl⟩
      have fr : Far t (t.advance p) m' := ⟨hm, (adv_dummy t 1 p).trans hp⟩
      dsimp only
      by_cases c : (hashAt i == h) = true
      · rw [if_pos c]
        exact .inr ⟨p.j, i, _, m', rfl, hs, by omega, fr⟩
      · rw [if_neg c]
        rcases probe_go hd f m' _ (by omega) fr with z | ⟨j, i', q, m'', a, b, c', d⟩
        · exact .inl z
        · exact .inr ⟨j, i', q, m'', a, b, by omega, d⟩
/-- a table of n elements, nothing taken away -/
structure Tab (t : SetTable) (n : Nat) (led : Bool) : Prop where
  hm : Msk t.mask
  size : t.place.size = n
  nod : t.dummies = #[]
  up : Up t.place.toList
  room : n * 5 < t.mask * 3
  plain : t.plain = true
  led : t.led = led
theorem Tab.fill {t : SetTable} {n : Nat} {b : Bool} (T : Tab t n b) : t.fill = n := by unfold SetTable.fill; rw [T.size, T.nod]; rfl
theorem Tab.fits {t : SetTable} {n : Nat} {b : Bool} (T : Tab t n b) : (t.place.size != n || decide (t.fill > t.mask)) = false := by
  have := T.room
  rw [T.fill, T.size]
  simp; omega
theorem Tab.way {t : SetTable} {n : Nat} {b : Bool} (T : Tab t n b) : t.gaveWay = false := by
  unfold SetTable.gaveWay
  rcases T.hm with e | e | e | e <;> rw [e] <;> rfl
theorem Tab.start {t : SetTable} {n : Nat} {b : Bool} (T : Tab t n b) (h : Int) : ∃ m, m < 10 * SetTable.turns t.mask ∧ Far t (t.probeStart h) m := by
  have hn : t.place.toList.length ≤ t.mask := by have := T.room; have := T.size; simp; omega
  obtain ⟨e, he, hne⟩ := up_gap T.up hn
  obtain ⟨c, hc, ec⟩ := start_hit (t := t) (h := h) T.hm he
  refine ⟨c, hc, ?_, rfl⟩
  rw [ec, slot_empty T.nod]
  intro q
  exact hne (by
    obtain ⟨hz, e'⟩ := Array.getElem?_eq_some_iff.mp q
    rw [← e']
    simp)
theorem Tab.turns {t : SetTable} {n : Nat} {b : Bool} (T : Tab t n b) : 10 * SetTable.turns t.mask < 100000 := by
  rcases T.hm with e | e | e | e <;> rw [e] <;> decide
theorem fresh_tab (b : Bool) : Tab (SetTable.fresh 0 0 b) 0 b := ⟨.inl rfl, rfl, rfl, .nil, (show 0 * 5 < 7 * 3 by decide), rfl, rfl⟩
/-- put at an empty slot: all but the room -/
structure TabP (t : SetTable) (n : Nat) (led : Bool) : Prop where
  hm : Msk t.mask
  size : t.place.size = n
  nod : t.dummies = #[]
  up : Up t.place.toList
  most : (n - 1) * 5 < t.mask * 3
  plain : t.plain = true
  led : t.led = led
theorem Tab.put {t : SetTable} {n j : Nat} {b : Bool} (T : Tab t n b) (hj : t.slot j = .empty) : TabP (t.put j).1 (n + 1) b := by
  have e : SetTable.has t.dummies j = false := by rw [T.nod]; rfl
  have e2 : (t.put j).1 = { t with place := SetTable.insertAt t.place (SetTable.below t.place j) j } := by
    unfold SetTable.put
    simp [e]
  rw [e2]
  exact ⟨T.hm, by show (SetTable.insertAt _ _ _).size = _; rw [ins_size, T.size], T.nod, ins_up T.up ((slot_empty T.nod).mp hj), by show (n + 1 - 1) * 5 < t.mask * 3; have := T.room; simpa using this, T.plain, T.led⟩
theorem TabP.fill {t : SetTable} {n : Nat} {b : Bool} (T : TabP t n b) : t.fill = n := by unfold SetTable.fill; rw [T.size, T.nod]; rfl
theorem TabP.tab {t : SetTable} {n : Nat} {b : Bool} (T : TabP t n b) (h : t.tooFull = false) : Tab t n b := by
  refine ⟨T.hm, T.size, T.nod, T.up, ?_, T.plain, T.led⟩
  unfold SetTable.tooFull at h
  rw [T.fill] at h
  simpa using h
theorem TabP.fits {t : SetTable} {n : Nat} {b : Bool} (T : TabP t n b) : (t.place.size != n || decide (t.fill > t.mask)) = false := by
  have h := T.most
  have hm : 7 ≤ t.mask := by rcases T.hm with e | e | e | e <;> rw [e] <;> decide
  rw [T.fill, T.size]
  simp; omega
theorem free_hit {m : Nat} {owner : Array (Option Nat)} {e : Nat} (ho : owner.getD e (some 0) = none) : ∀ (L f : Nat) (x : Nat × Nat), L < f → (orb m L x).1 = e → ∃ j, SetTable.layClean.free m owner f x.1 x.2 = some j ∧ owner.getD j (some 0) = none
  | L, 0, x, h, _ => by omega
  | L, f + 1, x, h, he => by
    unfold SetTable.layClean.free
    cases hf : (List.range (SetTable.runEnd m x.1 + 1 - x.1)).find? fun k => (owner.getD (x.1 + k) (some 0)).isNone with
    | some k =>
      have := List.find?_some hf
      exact ⟨x.1 + k, rfl, by simpa using this⟩
    | none =>
      cases L with
      | zero =>
        have hx : x.1 = e := he
        have := List.find?_eq_none.mp hf 0 (List.mem_range.mpr (by unfold SetTable.runEnd; split <;> omega))
        rw [Nat.add_zero, hx, ho] at this
        exact absurd rfl this
      | succ L => exact free_hit ho L f (SetTable.leap m x.1 x.2) (by omega) he
theorem none_at : ∀ (l : List (Option Nat)), (l.filterMap id).length < l.length → ∃ e, e < l.length ∧ l[e]? = some none
  | [], h => by simp at h
  | none :: l, _ => ⟨0, by simp, rfl⟩
  | some v :: l, h => by
    obtain ⟨e, h1, h2⟩ := none_at l (by simpa using h)
    exact ⟨e + 1, by simp; omega, by simpa using h2⟩
theorem set_perm : ∀ (l : List (Option Nat)) (j k : Nat), l[j]? = some none → ((l.set j (some k)).filterMap id).Perm (k :: l.filterMap id)
  | [], j, k, h => by simp at h
  | x :: l, 0, k, h => by
    have : x = none := by simpa using h
    subst this
    simp
  | x :: l, j + 1, k, h => by
    have ih := set_perm l j k (by simpa using h)
    cases x with
    | none => simpa using ih
    | some v =>
      simp only [List.set_cons_succ, List.filterMap_cons, id]
      exact (List.Perm.cons v ih).trans (List.Perm.swap _ _ _)
/-- the state in which hashes are laid -/
def Laid (m : Nat) (acc : Option (Array (Option Nat) × Nat)) (k : Nat) : Prop := ∃ owner, acc = some (owner, k) ∧ owner.size = m + 1 ∧ (owner.toList.filterMap id).Perm (List.range k)
theorem laid_step {m k : Nat} (hm : Msk m) (hk : k ≤ m) {owner : Array (Option Nat)} (hs : owner.size = m + 1) (hp : (owner.toList.filterMap id).Perm (List.range k)) (h : Int) :
    ∃ j, SetTable.layClean.free m owner (SetTable.turns m) (SetTable.bits h % (m + 1)) (SetTable.bits h) = some j ∧ Laid m (some (owner.setIfInBounds j (some k), k + 1)) (k + 1) := by
  obtain ⟨e, h1, h2⟩ := none_at owner.toList (by rw [hp.length_eq, List.length_range]; simp [hs]; omega)
  have h1' : e < owner.size := by simpa using h1
  have ho : owner.getD e (some 0) = none := by
    have : owner[e]? = some none := by simpa using h2
    simp [Array.getD_eq_getD_getElem?, this]
  obtain ⟨L, hL, eL⟩ := orb_hit (p := SetTable.bits h) (i := SetTable.bits h % (m + 1)) hm (Nat.mod_lt _ (by omega)) (bits_lt h) (show e < m + 1 by omega)
  obtain ⟨j, ej, hj⟩ := free_hit ho L (SetTable.turns m) (SetTable.bits h % (m + 1), SetTable.bits h) (by unfold SetTable.turns; omega) eL
  refine ⟨j, ej, _, rfl, by simpa using hs, ?_⟩
  have hj2 : owner.toList[j]? = some none := by
    rw [Array.getD_eq_getD_getElem?] at hj
    cases hq : owner[j]? with
    | none => rw [hq] at hj; cases hj
    | some v => rw [hq] at hj; have : v = none := hj; subst this; simpa using hq
  rw [Array.toList_setIfInBounds]
  refine (set_perm _ j k hj2).trans ((List.Perm.cons k hp).trans ?_)
  rw [List.range_succ]
  exact (List.perm_append_singleton k (List.range k)).symm
theorem laid_all {m : Nat} (hm : Msk m) : ∀ (hs : List Int) (k : Nat) (acc : Option (Array (Option Nat) × Nat)), k + hs.length ≤ m + 1 → Laid m acc k →
    Laid m (hs.foldl (fun acc h => do
      let (owner, k) ← acc
      let j ← SetTable.layClean.free m owner (SetTable.turns m) (SetTable.bits h % (m + 1)) (SetTable.bits h)
      pure (owner.setIfInBounds j (some k), k + 1)) acc) (k + hs.length)
  | [], k, acc, _, L => L
  | h :: hs, k, acc, hl, ⟨owner, ea, h1, h2⟩ => by
    subst ea
    obtain ⟨j, ej, L⟩ := laid_step hm (by simp at hl; omega) h1 h2 h
    have := laid_all hm hs (k + 1) _ (by simp at hl; omega) L
    rw [List.foldl_cons]
    have e2 : (do
      let (owner, k) ← some (owner, k)
      let j ← SetTable.layClean.free m owner (SetTable.turns m) (SetTable.bits h % (m + 1)) (SetTable.bits h)
      pure (owner.setIfInBounds j (some k), k + 1)) = some (owner.setIfInBounds j (some k), k + 1) := by
      show (SetTable.layClean.free m owner (SetTable.turns m) (SetTable.bits h % (m + 1)) (SetTable.bits h) >>= fun j => pure (owner.setIfInBounds j (some k), k + 1)) = _
      rw [ej]; rfl
    rw [e2, List.length_cons, show k + (hs.length + 1) = k + 1 + hs.length by omega]
    exact this
theorem live_snd : ∀ (l : List (Option Nat)) (g : Nat → Nat), ((List.range l.length).filterMap fun j => ((l[j]?).getD none).map fun v => (g j, v)).map (·.2) = l.filterMap id
  | [], g => rfl
  | x :: l, g => by
    have ih := live_snd l (fun j => g (j + 1))
    rw [List.length_cons, List.range_succ_eq_map, List.filterMap_cons]
    have e : ((List.map Nat.succ (List.range l.length)).filterMap fun j => (((x :: l)[j]?).getD none).map fun v => (g j, v)) = (List.range l.length).filterMap fun j => ((l[j]?).getD none).map fun v => (g (j + 1), v) := by
      rw [List.filterMap_map]; rfl
    cases x with
    | none => simp only [List.getElem?_cons_zero, Option.getD_some, Option.map_none]; rw [e, ih]; rfl
    | some v => simp only [List.getElem?_cons_zero, Option.getD_some, Option.map_some, List.map_cons]; rw [e, ih]; rfl
theorem live_up (f : Nat → Option Nat) : ∀ (l : List Nat), Up l → Up ((l.filterMap fun j => (f j).map fun v => (j, v)).map (·.1))
  | [], _ => .nil
  | x :: l, u => by
    have ux := List.pairwise_cons.mp u
    rw [List.filterMap_cons]
    cases hx : f x with
    | none => exact live_up f l ux.2
    | some v =>
      simp only [Option.map_some, List.map_cons]
      refine List.pairwise_cons.mpr ⟨fun y hy => ?_, live_up f l ux.2⟩
      obtain ⟨q, hq, rfl⟩ := List.mem_map.mp hy
      obtain ⟨z, hz, ez⟩ := List.mem_filterMap.mp hq
      cases hf : f z with
      | none => rw [hf] at ez; cases ez
      | some w => rw [hf] at ez; cases ez; exact ux.1 _ hz
theorem laid_is {m : Nat} (hm : Msk m) {hs : Array Int} (hl : hs.size ≤ m) (hr : hs.size * 5 < m * 3) (fing moves : Nat) (led : Bool) : ∃ t order, SetTable.laid m fing moves led true hs = some (t, order) ∧ Tab t hs.size led ∧ order.toList.Perm (List.range hs.size) := by
  obtain ⟨owner, e, h1, h2⟩ := laid_all hm hs.toList 0 (some (Array.replicate (m + 1) none, 0)) (by simp; omega) ⟨_, rfl, by simp, by simp⟩
  have ec : SetTable.layClean m hs = some owner := by
    unfold SetTable.layClean
    rw [← Array.foldl_toList, e]
    rfl
  have es := live_snd owner.toList id
  have eg : ∀ j, (owner.getD j none).map (j, ·) = ((owner.toList[j]?).getD none).map fun v => (id j, v) := fun j => by
    rw [Array.getD_eq_getD_getElem?]; simp
  refine ⟨_, _, by unfold SetTable.laid; rw [ec]; rfl, ⟨hm, ?_, rfl, ?_, hr, rfl, rfl⟩, ?_⟩
  · show (List.map _ _).toArray.size = _
    rw [List.size_toArray, List.length_map, ← List.length_map (f := (·.2))]
    rw [← h1] 
    rw [show owner.size = owner.toList.length by simp]
    simp only [eg]
    rw [es, h2.length_eq]
    simp
  · show Up (List.map _ _).toArray.toList
    exact live_up _ _ (List.pairwise_lt_range)
  · show (List.map _ _).toArray.toList.Perm _
    rw [← h1, show owner.size = owner.toList.length by simp]
    simp only [eg]
    rw [List.toList_toArray, es]
    simpa using h2
theorem relay_is {t : SetTable} {n : Nat} {b : Bool} (T : TabP t n b) (hf : t.tooFull = true) (hn : n ≤ 300) (hs : Array Int) (hz : hs.size = n) :
    (decide (SetTable.sizeAbove (SetTable.grown n) > sizeLine) = false) ∧ ∃ t' order, t.relaid hs (SetTable.grown n) = some (t', order) ∧ Tab t' n b ∧ order.toList.Perm (List.range n) := by
  have h1 := T.most
  unfold SetTable.tooFull at hf
  rw [T.fill] at hf
  have hf : t.mask * 3 ≤ n * 5 := by simpa using hf
  have c : n = 5 ∨ n = 19 ∨ n = 77 := by
    rcases T.hm with e | e | e | e <;> rw [e] at h1 hf <;> omega
  have key : ∀ M, Msk M → SetTable.sizeAbove (SetTable.grown n) = M + 1 → n ≤ M → n * 5 < M * 3 → ∃ t' order, t.relaid hs (SetTable.grown n) = some (t', order) ∧ Tab t' n b ∧ order.toList.Perm (List.range n) := fun M hM e1 e2 e3 => by
    obtain ⟨t', order, a, T', p⟩ := laid_is hM (hs := hs) (by omega) (by omega) t.finger (t.movedTo M) b
    rw [hz] at T' p
    refine ⟨t', order, ?_, T', p⟩
    unfold SetTable.relaid
    rw [e1, T.plain, T.led]
    exact a
  rcases c with rfl | rfl | rfl
  · exact ⟨by decide +kernel, key 31 (by simp [Msk]) (by decide +kernel) (by decide) (by decide)⟩
  · exact ⟨by decide +kernel, key 127 (by simp [Msk]) (by decide +kernel) (by decide) (by decide)⟩
  · exact ⟨by decide +kernel, key 511 (by simp [Msk]) (by decide +kernel) (by decide) (by decide)⟩
end TB

set_option Elab.async false
set_option linter.all false
set_option maxRecDepth 100000
namespace TB
open PySem
theorem adv_mask {t t' : SetTable} (h : t.mask = t'.mask) : ∀ (m : Nat) (p : SetTable.Probe), adv t m p = adv t' m p
  | 0, _ => rfl
  | m + 1, p => by
    show adv t m (t.advance p) = adv t' m (t'.advance p)
    have e : t.advance p = t'.advance p := by unfold SetTable.advance; rw [h]
    rw [e]; exact adv_mask h m _
theorem start_mask {t t' : SetTable} (h : t.mask = t'.mask) (x : Int) : t.probeStart x = t'.probeStart x := by unfold SetTable.probeStart; rw [h]
theorem mem_slot {xs : Array Nat} {j : Nat} (u : Up xs.toList) : xs[SetTable.below xs j]? = some j ↔ j ∈ xs.toList := by
  constructor
  · intro h
    obtain ⟨z, e⟩ := Array.getElem?_eq_some_iff.mp h
    rw [← e]; simp
  · intro h
    obtain ⟨i, hi, e⟩ := List.mem_iff_getElem.mp h
    have hi' : i < xs.size := by simpa using hi
    have e' : xs[i] = j := by simpa using e
    obtain ⟨a, b, c⟩ := below_is j u
    have h1 : ¬ i < SetTable.below xs j := fun q => by have := b i hi' q; omega
    have h2 : ¬ SetTable.below xs j < i := fun q => by
      have h3 := c _ (by omega) (Nat.le_refl _)
      have := up_get u q (by simpa using hi')
      have : xs[SetTable.below xs j]'(by omega) < xs[i] := by simpa using this
      omega
    have h3 : SetTable.below xs j = i := by omega
    rw [h3, Array.getElem?_eq_getElem hi', e']
theorem empty_iff {t : SetTable} {n : Nat} {b : Bool} (T : Tab t n b) (j : Nat) : t.slot j = .empty ↔ j ∉ t.place.toList := by
  rw [slot_empty T.nod, ne_eq, mem_slot T.up]
/-- the slot is met before any empty one -/
def Chn (t : SetTable) (h : Int) (j : Nat) : Prop := ∃ m, (adv t m (t.probeStart h)).j = j ∧ ∀ m', m' < m → (adv t m' (t.probeStart h)).j ∈ t.place.toList
def Chs (t : SetTable) (hs : List Int) : Prop := ∀ q ∈ t.place.toList.zip hs, Chn t q.2 q.1
theorem Chn.grow {t t' : SetTable} {h : Int} {j : Nat} (c : Chn t h j) (hm : t.mask = t'.mask) (hp : ∀ j ∈ t.place.toList, j ∈ t'.place.toList) : Chn t' h j := by
  obtain ⟨m, e, al⟩ := c
  refine ⟨m, by rw [← start_mask hm, ← adv_mask hm]; exact e, fun m' hm' => ?_⟩
  rw [← start_mask hm, ← adv_mask hm]
  exact hp _ (al m' hm')
theorem zip_ins {α β : Type} : ∀ (p : Nat) (a : List α) (b : List β) (x : α) (y : β), a.length = b.length → ∀ q ∈ (a.take p ++ x :: a.drop p).zip (b.take p ++ y :: b.drop p), q = (x, y) ∨ q ∈ a.zip b
  | 0, a, b, x, y, h, q, hq => by
    simp only [List.take_zero, List.nil_append, List.drop_zero, List.zip_cons_cons] at hq
    exact List.mem_cons.mp hq
  | p + 1, [], [], x, y, h, q, hq => by
    simp at hq
    exact .inl hq
  | p + 1, c :: a, d :: b, x, y, h, q, hq => by
    simp only [List.take_succ_cons, List.drop_succ_cons, List.cons_append, List.zip_cons_cons] at hq
    rcases List.mem_cons.mp hq with rfl | hq
    · exact .inr (List.mem_cons_self)
    · rcases zip_ins p a b x y (by simpa using h) q hq with z | z
      · exact .inl z
      · exact .inr (List.mem_cons_of_mem _ z)
  | p + 1, [], _ :: _, x, y, h, q, hq => by simp at h
  | p + 1, _ :: _, [], x, y, h, q, hq => by simp at h
theorem put_chs {t : SetTable} {n j M : Nat} {b : Bool} {hs : List Int} {h : Int} (T : Tab t n b) (hn : hs.length = n) (C : Chs t hs) (hj : t.slot j = .empty) (hM : (adv t M (t.probeStart h)).j = j) (al : ∀ m', m' < M → (adv t m' (t.probeStart h)).j ∈ t.place.toList) :
    Chs (t.put j).1 (hs.take (t.put j).2 ++ h :: hs.drop (t.put j).2) ∧ (t.put j).2 = SetTable.below t.place j := by
  have e : SetTable.has t.dummies j = false := by rw [T.nod]; rfl
  have e2 : t.put j = ({ t with place := SetTable.insertAt t.place (SetTable.below t.place j) j }, SetTable.below t.place j) := by
    unfold SetTable.put
    simp [e]
  rw [e2]
  have pl : ({ t with place := SetTable.insertAt t.place (SetTable.below t.place j) j } : SetTable).place.toList = t.place.toList.take (SetTable.below t.place j) ++ j :: t.place.toList.drop (SetTable.below t.place j) := ins_list _ _ _
  have sub : ∀ i ∈ t.place.toList, i ∈ ({ t with place := SetTable.insertAt t.place (SetTable.below t.place j) j } : SetTable).place.toList := fun i hi => (ins_perm t.place _ j).mem_iff.mpr (List.mem_cons_of_mem _ hi)
  refine ⟨fun q hq => ?_, rfl⟩
  rw [pl] at hq
  rcases zip_ins _ _ _ _ _ (by simp [T.size, hn]) q hq with rfl | z
  · exact Chn.grow (t := t) ⟨M, hM, al⟩ rfl sub
  · exact (C q z).grow rfl sub
/-- in a run -/
theorem adv_in (t : SetTable) : ∀ (c : Nat) (p : SetTable.Probe), c ≤ p.more → (adv t c p).j = p.j + c
  | 0, p, _ => rfl
  | c + 1, p, h => by
    show (adv t c (t.advance p)).j = _
    have e : t.advance p = { p with j := p.j + 1, more := p.more - 1 } := by
      unfold SetTable.advance
      rw [if_pos (by omega)]
    rw [e, adv_in t c _ (by show c ≤ p.more - 1; omega)]
    show p.j + 1 + c = p.j + (c + 1)
    omega
theorem free_chn {t : SetTable} {owner : Array (Option Nat)} : ∀ (f : Nat) (x : Nat × Nat) (j : Nat), SetTable.layClean.free t.mask owner f x.1 x.2 = some j →
    ∃ m, (adv t m (beg t x none)).j = j ∧ ∀ m', m' < m → owner.getD (adv t m' (beg t x none)).j (some 0) ≠ none
  | 0, x, j, h => by cases h
  | f + 1, x, j, h => by
    unfold SetTable.layClean.free at h
    have rl : SetTable.runEnd t.mask x.1 + 1 - x.1 = (beg t x none).more + 1 := by
      show _ = SetTable.runEnd t.mask x.1 - x.1 + 1
      unfold SetTable.runEnd; split <;> omega
    rw [rl] at h
    cases hf : (List.range ((beg t x none).more + 1)).find? fun k => (owner.getD (x.1 + k) (some 0)).isNone with
    | some k =>
      rw [hf] at h
      have ej : x.1 + k = j := Option.some.inj h
      obtain ⟨h1, h2, h3⟩ := List.find?_range_eq_some.mp hf
      have hk : k < (beg t x none).more + 1 := List.mem_range.mp h2
      refine ⟨k, by rw [adv_in t k _ (by omega)]; exact ej, fun m' hm' => ?_⟩
      rw [adv_in t m' _ (by omega)]
      have := h3 m' hm'
      intro z
      have z' : owner.getD (x.1 + m') (some 0) = none := z
      rw [z'] at this
      simp at this
    | none =>
      rw [hf] at h
      obtain ⟨m, e, al⟩ := free_chn f (SetTable.leap t.mask x.1 x.2) j h
      refine ⟨(beg t x none).more + 1 + m, by rw [adv_add, adv_run t _ _ rfl]; exact e, fun m' hm' => ?_⟩
      rcases Nat.lt_or_ge m' ((beg t x none).more + 1) with z | z
      · rw [adv_in t m' _ (by omega)]
        have := List.find?_eq_none.mp hf m' (List.mem_range.mpr z)
        intro w
        have w' : owner.getD (x.1 + m') (some 0) = none := w
        rw [w'] at this
        simp at this
      · obtain ⟨c, rfl⟩ : ∃ c, m' = (beg t x none).more + 1 + c := ⟨m' - ((beg t x none).more + 1), by omega⟩
        rw [adv_add, adv_run t _ _ rfl]
        exact al c (by omega)
end TB

set_option Elab.async false
set_option linter.all false
set_option maxRecDepth 100000
namespace TB
open PySem
theorem run_le (m i : Nat) (h : i ≤ m) : SetTable.runEnd m i ≤ m := by unfold SetTable.runEnd; split <;> omega
theorem run_ge (m i : Nat) : i ≤ SetTable.runEnd m i := by unfold SetTable.runEnd; split <;> omega
theorem adv_le (t : SetTable) : ∀ (m : Nat) (p : SetTable.Probe), p.j + p.more ≤ t.mask → (adv t m p).j ≤ t.mask
  | 0, p, h => by show p.j ≤ _; omega
  | m + 1, p, h => by
    refine adv_le t m (t.advance p) ?_
    unfold SetTable.advance
    by_cases c : p.more > 0
    · rw [if_pos c]; show p.j + 1 + (p.more - 1) ≤ _; omega
    · rw [if_neg c]
      have : (p.i * 5 + 1 + p.perturb / 32) % (t.mask + 1) < t.mask + 1 := Nat.mod_lt _ (by omega)
      show (p.i * 5 + 1 + p.perturb / 32) % (t.mask + 1) + (SetTable.runEnd t.mask ((p.i * 5 + 1 + p.perturb / 32) % (t.mask + 1)) - (p.i * 5 + 1 + p.perturb / 32) % (t.mask + 1)) ≤ t.mask
      have a := run_le t.mask ((p.i * 5 + 1 + p.perturb / 32) % (t.mask + 1)) (by omega)
      have b := run_ge t.mask ((p.i * 5 + 1 + p.perturb / 32) % (t.mask + 1))
      omega
theorem start_le (t : SetTable) (h : Int) (m : Nat) : (adv t m (t.probeStart h)).j ≤ t.mask := by
  refine adv_le t m _ ?_
  have : SetTable.bits h % (t.mask + 1) < t.mask + 1 := Nat.mod_lt _ (by omega)
  show SetTable.bits h % (t.mask + 1) + (SetTable.runEnd t.mask (SetTable.bits h % (t.mask + 1)) - SetTable.bits h % (t.mask + 1)) ≤ t.mask
  have a := run_le t.mask (SetTable.bits h % (t.mask + 1)) (by omega)
  have b := run_ge t.mask (SetTable.bits h % (t.mask + 1))
  omega
/-- each that is laid is met before any free slot -/
def OwnC (t : SetTable) (hs : List Int) (owner : Array (Option Nat)) : Prop := ∀ j v, owner[j]? = some (some v) → ∃ m, (adv t m (t.probeStart (hs.getD v 0))).j = j ∧ ∀ m', m' < m → owner.getD (adv t m' (t.probeStart (hs.getD v 0))).j (some 0) ≠ none
def LaidC (t : SetTable) (hs : List Int) (acc : Option (Array (Option Nat) × Nat)) (k : Nat) : Prop := ∃ owner, acc = some (owner, k) ∧ owner.size = t.mask + 1 ∧ (owner.toList.filterMap id).Perm (List.range k) ∧ OwnC t hs owner
theorem laidC_step {t : SetTable} {hs : List Int} {k : Nat} (hm : Msk t.mask) (hk : k ≤ t.mask) {owner : Array (Option Nat)} (hz : owner.size = t.mask + 1) (hp : (owner.toList.filterMap id).Perm (List.range k)) (C : OwnC t hs owner) {h : Int} (eh : hs.getD k 0 = h) :
    ∃ j, SetTable.layClean.free t.mask owner (SetTable.turns t.mask) (SetTable.bits h % (t.mask + 1)) (SetTable.bits h) = some j ∧ LaidC t hs (some (owner.setIfInBounds j (some k), k + 1)) (k + 1) := by
  obtain ⟨e, h1, h2⟩ := none_at owner.toList (by rw [hp.length_eq, List.length_range]; simp [hz]; omega)
  have h1' : e < owner.size := by simpa using h1
  have ho : owner.getD e (some 0) = none := by
    have : owner[e]? = some none := by simpa using h2
    simp [Array.getD_eq_getD_getElem?, this]
  obtain ⟨L, hL, eL⟩ := orb_hit (p := SetTable.bits h) (i := SetTable.bits h % (t.mask + 1)) hm (Nat.mod_lt _ (by omega)) (bits_lt h) (show e < t.mask + 1 by omega)
  obtain ⟨j, ej, hj⟩ := free_hit ho L (SetTable.turns t.mask) (SetTable.bits h % (t.mask + 1), SetTable.bits h) (by unfold SetTable.turns; omega) eL
  have hj1 : owner[j]? = some none := by
    rw [Array.getD_eq_getD_getElem?] at hj
    cases hq : owner[j]? with
    | none => rw [hq] at hj; cases hj
    | some v => rw [hq] at hj; have : v = none := hj; subst this; rfl
  have hj2 : owner.toList[j]? = some none := by simpa using hj1
  have hjz : j < owner.size := (Array.getElem?_eq_some_iff.mp hj1).1
  have gd : ∀ i, owner.getD i (some 0) ≠ none → (owner.setIfInBounds j (some k)).getD i (some 0) ≠ none := fun i hi => by
    rw [Array.getD_eq_getD_getElem?] at hi ⊢
    rw [Array.getElem?_setIfInBounds]
    by_cases c : j = i
    · rw [if_pos c]; split <;> simp
    · rw [if_neg c]; exact hi
  refine ⟨j, ej, _, rfl, by simpa using hz, ?_, fun i v hv => ?_⟩
  · rw [Array.toList_setIfInBounds]
    refine (set_perm _ j k hj2).trans ((List.Perm.cons k hp).trans ?_)
    rw [List.range_succ]
    exact (List.perm_append_singleton k (List.range k)).symm
  · rw [Array.getElem?_setIfInBounds] at hv
    by_cases c : j = i
    · rw [if_pos c, if_pos hjz] at hv
      have ev : k = v := by simpa using hv
      subst ev c
      obtain ⟨m, em, al⟩ := free_chn _ (SetTable.bits h % (t.mask + 1), SetTable.bits h) j ej
      rw [eh]
      exact ⟨m, em, fun m' hm' => gd _ (al m' hm')⟩
    · rw [if_neg c] at hv
      obtain ⟨m, em, al⟩ := C i v hv
      exact ⟨m, em, fun m' hm' => gd _ (al m' hm')⟩
theorem laidC_all {t : SetTable} (hm : Msk t.mask) (hs0 : List Int) : ∀ (hs : List Int) (k : Nat) (acc : Option (Array (Option Nat) × Nat)), k + hs.length ≤ t.mask + 1 → (∀ i, hs.getD i 0 = hs0.getD (k + i) 0) → LaidC t hs0 acc k →
    LaidC t hs0 (hs.foldl (fun acc h => do
      let (owner, k) ← acc
      let j ← SetTable.layClean.free t.mask owner (SetTable.turns t.mask) (SetTable.bits h % (t.mask + 1)) (SetTable.bits h)
      pure (owner.setIfInBounds j (some k), k + 1)) acc) (k + hs.length)
  | [], k, acc, _, _, L => L
  | h :: hs, k, acc, hl, he, ⟨owner, ea, h1, h2, h3⟩ => by
    subst ea
    obtain ⟨j, ej, L⟩ := laidC_step hm (by simp at hl; omega) h1 h2 h3 (h := h) (by have := he 0; simpa using this.symm)
    have := laidC_all hm hs0 hs (k + 1) _ (by simp at hl; omega) (fun i => by have := he (i + 1); rw [show k + 1 + i = k + (i + 1) by omega]; simpa using this) L
    rw [List.foldl_cons]
    have e2 : (do
      let (owner, k) ← some (owner, k)
      let j ← SetTable.layClean.free t.mask owner (SetTable.turns t.mask) (SetTable.bits h % (t.mask + 1)) (SetTable.bits h)
      pure (owner.setIfInBounds j (some k), k + 1)) = some (owner.setIfInBounds j (some k), k + 1) := by
      show (SetTable.layClean.free t.mask owner (SetTable.turns t.mask) (SetTable.bits h % (t.mask + 1)) (SetTable.bits h) >>= fun j => pure (owner.setIfInBounds j (some k), k + 1)) = _
      rw [ej]; rfl
    rw [e2, List.length_cons, show k + (hs.length + 1) = k + 1 + hs.length by omega]
    exact this
theorem laidC_is {m : Nat} (hm : Msk m) {hs : Array Int} (hl : hs.size ≤ m) (hr : hs.size * 5 < m * 3) (fing moves : Nat) (led : Bool) : ∃ t order, SetTable.laid m fing moves led true hs = some (t, order) ∧ Tab t hs.size led ∧ order.toList.Perm (List.range hs.size) ∧ Chs t (order.toList.map fun k => hs.toList.getD k 0) := by
  let t0 : SetTable := { mask := m, place := #[], dummies := #[], finger := fing, led := led, moves := moves, plain := true }
  obtain ⟨owner, e, h1, h2, h3⟩ := laidC_all (t := t0) hm hs.toList hs.toList 0 (some (Array.replicate (m + 1) none, 0)) (by show 0 + hs.toList.length ≤ m + 1; simp; omega) (fun i => by rw [Nat.zero_add]) ⟨_, rfl, by show _ = m + 1; simp, by show ((Array.replicate (m + 1) (none : Option Nat)).toList.filterMap id).Perm (List.range 0); simp, fun j v hv => by rw [Array.getElem?_replicate] at hv; split at hv <;> cases hv⟩
  have h1 : owner.size = m + 1 := h1
  have ec : SetTable.layClean m hs = some owner := by
    unfold SetTable.layClean
    rw [← Array.foldl_toList]
    have e' : (hs.toList.foldl (fun acc h => do
      let (owner, k) ← acc
      let j ← SetTable.layClean.free m owner (SetTable.turns m) (SetTable.bits h % (m + 1)) (SetTable.bits h)
      pure (owner.setIfInBounds j (some k), k + 1)) (some (Array.replicate (m + 1) none, 0))) = some (owner, 0 + hs.toList.length) := e
    rw [e']
    rfl
  obtain ⟨t, order, a, T, p⟩ := laid_is hm hl hr fing moves led
  refine ⟨t, order, a, T, p, ?_⟩
  unfold SetTable.laid at a
  rw [ec] at a
  have a' : ((({ mask := m, place := (((List.range (m + 1)).filterMap fun j => (owner.getD j none).map (j, ·)).map (·.1)).toArray, dummies := #[], finger := fing, led := led, moves := moves, plain := true } : SetTable), (((List.range (m + 1)).filterMap fun j => (owner.getD j none).map (j, ·)).map (·.2)).toArray) : SetTable × Array Nat) = (t, order) := Option.some.inj a
  obtain ⟨e1, e2⟩ := Prod.mk.inj a'
  have mem : ∀ j, j ≤ m → owner.getD j (some 0) ≠ none → j ∈ t.place.toList := fun j hj hn => by
    rw [← e1]
    show j ∈ (List.map (fun r : Nat × Nat => r.1) _).toArray.toList
    have hz : j < owner.size := by omega
    have hg : owner[j]? = some owner[j] := Array.getElem?_eq_getElem hz
    rw [Array.getD_eq_getD_getElem?, hg] at hn
    cases hv : owner[j] with
    | none => rw [hv] at hn; exact absurd rfl hn
    | some v => exact List.mem_map.mpr ⟨(j, v), List.mem_filterMap.mpr ⟨j, List.mem_range.mpr (by omega), by rw [Array.getD_eq_getD_getElem?, hg, hv]; rfl⟩, rfl⟩
  have tm : t.mask = t0.mask := by rw [← e1]
  intro q hq
  have zq : ∃ r ∈ ((List.range (m + 1)).filterMap fun j => (owner.getD j none).map (j, ·)), q = (r.1, hs.toList.getD r.2 0) := by
    rw [← e1, ← e2] at hq
    simp only [List.map_map] at hq
    generalize ((List.range (m + 1)).filterMap fun j => (owner.getD j none).map (j, ·)) = live at hq
    clear a a' e1 e2 T p mem
    induction live with
    | nil => simp at hq
    | cons r live ih =>
      simp only [List.map_cons, List.zip_cons_cons] at hq
      rcases List.mem_cons.mp hq with rfl | hq
      · exact ⟨r, .head _, rfl⟩
      · obtain ⟨r', hr', e'⟩ := ih hq
        exact ⟨r', .tail _ hr', e'⟩
  obtain ⟨⟨j, v⟩, hr, rfl⟩ := zq
  obtain ⟨j', hj', ej⟩ := List.mem_filterMap.mp hr
  have hov : owner[j']? = some (some v) ∧ j' = j := by
    rw [Array.getD_eq_getD_getElem?] at ej
    cases ho : owner[j']? with
    | none => rw [ho] at ej; cases ej
    | some w =>
      rw [ho] at ej
      cases w with
      | none => cases ej
      | some u => cases ej; exact ⟨rfl, rfl⟩
  obtain ⟨hov, rfl⟩ := hov
  obtain ⟨mm, em, al⟩ := h3 j' v hov
  refine ⟨mm, by rw [start_mask tm, adv_mask tm]; exact em, fun m' hm' => ?_⟩
  rw [start_mask tm, adv_mask tm]
  exact mem _ (start_le t0 _ m') (al m' hm')
end TB

set_option Elab.async false
set_option linter.all false
set_option maxRecDepth 100000
namespace TB
open PySem
theorem probe_seen {t : SetTable} {hashAt : Nat → Int} {h : Int} (hd : t.dummies = #[]) : ∀ (f m : Nat) (p : SetTable.Probe), m < f → Far t p m →
    (∃ d, d ≤ m ∧ SetTable.probe.go t hashAt h f p = some (.empty (adv t d p).j none) ∧ t.slot (adv t d p).j = .empty ∧ ∀ d', d' < d → ∃ i, t.slot (adv t d' p).j = .live i ∧ (hashAt i == h) = false) ∨
    (∃ d i, d < m ∧ SetTable.probe.go t hashAt h f p = some (.candidate (adv t d p).j i (adv t (d + 1) p)) ∧ t.slot (adv t d p).j = .live i ∧ (∀ d', d' < d → ∃ i, t.slot (adv t d' p).j = .live i ∧ (hashAt i == h) = false) ∧ Far t (adv t (d + 1) p) (m - (d + 1)))
  | 0, m, p, hf, _ => by omega
  | f + 1, m, p, hf, ⟨hm, hp⟩ => by
    unfold SetTable.probe.go
    have nd := slot_nodummy hd p.j
    cases hs : t.slot p.j with
    | empty => exact .inl ⟨0, Nat.zero_le _, by rw [hp]; rfl, hs, fun d' h => by omega⟩
    | dummy => rw [hs] at nd; split at nd <;> cases nd
    | live i =>
      obtain ⟨m', rfl⟩ : ∃ m', m = m' + 1 := by
        cases m with
        | zero =>
          have : t.slot p.j = .empty := hm
          rw [hs] at this; cases this
        | succ k => exact ⟨k, rfl⟩
      have fr : Far t (t.advance p) m' := ⟨hm, (adv_dummy t 1 p).trans hp⟩
      dsimp only
      by_cases c : (hashAt i == h) = true
      · rw [if_pos c]
        exact .inr ⟨0, i, by omega, rfl, hs, fun d' h => by omega, by rw [show m' + 1 - (0 + 1) = m' by omega]; exact fr⟩
      · rw [if_neg c]
        have c' : (hashAt i == h) = false := by simpa using c
        rcases probe_seen hd f m' _ (by omega) fr with ⟨d, h1, h2, h3, h4⟩ | ⟨d, i', h1, h2, h3, h4, h5⟩
        · refine .inl ⟨d + 1, by omega, h2, h3, fun d' hd' => ?_⟩
          cases d' with
          | zero => exact ⟨i, hs, c'⟩
          | succ d' => exact h4 d' (by omega)
        · refine .inr ⟨d + 1, i', by omega, h2, h3, fun d' hd' => ?_, by rw [show m' + 1 - (d + 1 + 1) = m' - (d + 1) by omega]; exact h5⟩
          cases d' with
          | zero => exact ⟨i, hs, c'⟩
          | succ d' => exact h4 d' (by omega)
theorem live_at {t : SetTable} {n j i : Nat} {b : Bool} (T : Tab t n b) (h : t.slot j = .live i) : t.place[i]? = some j := by
  rw [slot_nodummy T.nod] at h
  split at h
  · rename_i c
    cases h
    exact eq_of_beq c
  · cases h
theorem live_in {t : SetTable} {n j i : Nat} {b : Bool} (T : Tab t n b) (h : t.slot j = .live i) : j ∈ t.place.toList := by
  obtain ⟨z, e⟩ := Array.getElem?_eq_some_iff.mp (live_at T h)
  rw [← e]; simp
theorem up_inj {l : List Nat} (u : Up l) {i j : Nat} (hi : i < l.length) (hj : j < l.length) (e : l[i] = l[j]) : i = j := by
  rcases Nat.lt_trichotomy i j with z | z | z
  · have := up_get u z hj; omega
  · exact z
  · have := up_get u z hi; omega
theorem relayC_is {t : SetTable} {n : Nat} {b : Bool} (T : TabP t n b) (hf : t.tooFull = true) (hn : n ≤ 300) (hs : Array Int) (hz : hs.size = n) :
    (decide (SetTable.sizeAbove (SetTable.grown n) > sizeLine) = false) ∧ ∃ t' order, t.relaid hs (SetTable.grown n) = some (t', order) ∧ Tab t' n b ∧ order.toList.Perm (List.range n) ∧ Chs t' (order.toList.map fun k => hs.toList.getD k 0) := by
  have h1 := T.most
  unfold SetTable.tooFull at hf
  rw [T.fill] at hf
  have hf : t.mask * 3 ≤ n * 5 := by simpa using hf
  have c : n = 5 ∨ n = 19 ∨ n = 77 := by
    rcases T.hm with e | e | e | e <;> rw [e] at h1 hf <;> omega
  have key : ∀ M, Msk M → SetTable.sizeAbove (SetTable.grown n) = M + 1 → n ≤ M → n * 5 < M * 3 → ∃ t' order, t.relaid hs (SetTable.grown n) = some (t', order) ∧ Tab t' n b ∧ order.toList.Perm (List.range n) ∧ Chs t' (order.toList.map fun k => hs.toList.getD k 0) := fun M hM e1 e2 e3 => by
    obtain ⟨t', order, a, T', p, C⟩ := laidC_is hM (hs := hs) (by omega) (by omega) t.finger (t.movedTo M) b
    rw [hz] at T' p
    refine ⟨t', order, ?_, T', p, C⟩
    unfold SetTable.relaid
    rw [e1, T.plain, T.led]
    exact a
  rcases c with rfl | rfl | rfl
  · exact ⟨by decide +kernel, key 31 (by simp [Msk]) (by decide +kernel) (by decide) (by decide)⟩
  · exact ⟨by decide +kernel, key 127 (by simp [Msk]) (by decide +kernel) (by decide) (by decide)⟩
  · exact ⟨by decide +kernel, key 511 (by simp [Msk]) (by decide +kernel) (by decide) (by decide)⟩
end TB

set_option Elab.async false
set_option linter.all false
set_option maxRecDepth 100000
namespace SR
open PySem PySem.W PyProof.Rows
/-- a tree of questions, each answered by its keys -/
def TW {α : Type} (key : Nat → Nat) (n : Nat) : KasT α → (α → Prop) → Prop
  | .ret a, Q => Q a
  | .ask i j k, Q => i < n ∧ j < n ∧ TW key n (k (decide (key i < key j))) Q
theorem TW.bind {α β : Type} {key : Nat → Nat} {n : Nat} {f : α → KasT β} {Q : β → Prop} : ∀ {t : KasT α}, TW key n t (fun a => TW key n (f a) Q) → TW key n (t.bind f) Q
  | .ret _, h => h
  | .ask i j k, ⟨h1, h2, h3⟩ => ⟨h1, h2, TW.bind h3⟩
theorem TW.wp {α : Type} {key : Nat → Nat} {n : Nat} {cmp : Nat → Nat → (Bool → Shared → Prop) → Shared → Prop} {G : α → Shared → Prop} {s : Shared}
    (hc : ∀ i j (C : Bool → Shared → Prop), i < n → j < n → C (decide (key i < key j)) s → cmp i j C s) : ∀ (t : KasT α), TW key n t (fun a => G a s) → t.kasWp cmp G s
  | .ret _, h => h
  | .ask i j k, ⟨h1, h2, h3⟩ => hc i j _ h1 h2 (TW.wp hc _ h3)
def Pm (n : Nat) (p : Array Nat) : Prop := p.Perm (List.range n).toArray
theorem Pm.size {n : Nat} {p : Array Nat} (h : Pm n p) : p.size = n := by have := h.size_eq; simpa using this
theorem Pm.lt {n : Nat} {p : Array Nat} (h : Pm n p) {i : Nat} (hi : i < n) : p.getD i 0 < n := by
  have hz : i < p.size := by rw [h.size]; exact hi
  have e : p.getD i 0 = p[i] := by simp [Array.getD, hz]
  rw [e]
  have : p[i] ∈ p := Array.getElem_mem hz
  have := h.mem_iff.mp this
  simpa using this
section
variable {key : Nat → Nat} {n : Nat}
def Ky (key : Nat → Nat) (p : Array Nat) (i : Nat) : Nat := key (p.getD i 0)
def Inc (key : Nat → Nat) (p : Array Nat) (m : Nat) : Prop := ∀ i j, i ≤ j → j < m → Ky key p i ≤ Ky key p j
def Dec (key : Nat → Nat) (p : Array Nat) (m : Nat) : Prop := ∀ i j, i ≤ j → j < m → Ky key p j ≤ Ky key p i
theorem Ky_get {p r : Array Nat} {i j : Nat} (h : p[i]? = r[j]?) : Ky key p i = Ky key r j := by
  unfold Ky
  rw [Array.getD_eq_getD_getElem?, Array.getD_eq_getD_getElem?, h]
theorem Ky_rev {p : Array Nat} {i j : Nat} (hj : j ≤ p.size) (k : Nat) : Ky key (kas_rev p i j) k = if i ≤ k ∧ k < j then Ky key p (i + j - 1 - k) else Ky key p k := by
  have e := getElem?_mirror_all (i := i) hj k
  by_cases c : i ≤ k ∧ k < j
  · rw [if_pos c] at e ⊢; exact Ky_get e
  · rw [if_neg c] at e ⊢; exact Ky_get e
theorem Ky_bub {p : Array Nat} {k d : Nat} (hk : k < p.size) (hd : d ≤ k) (j : Nat) : Ky key (bubble p k d) j = if j = k - d then Ky key p k else if k - d < j ∧ j ≤ k then Ky key p (j - 1) else Ky key p j := by
  have e := getElem?_bubble hk d hd j
  by_cases c : j = k - d
  · rw [if_pos c] at e ⊢; exact Ky_get e
  · rw [if_neg c] at e ⊢
    by_cases c' : k - d < j ∧ j ≤ k
    · rw [if_pos c'] at e ⊢; exact Ky_get e
    · rw [if_neg c'] at e ⊢; exact Ky_get e
theorem Pm.rev {p : Array Nat} (h : Pm n p) (i j : Nat) : Pm n (kas_rev p i j) := (mirror_perm p i j _).trans h
theorem ask_ {α : Type} {i j : Nat} {k : Bool → KasT α} {Q : α → Prop} (hi : i < n) (hj : j < n) (h1 : key i < key j → TW key n (k true) Q) (h2 : ¬ key i < key j → TW key n (k false) Q) : TW key n (.ask i j k) Q := by
  refine ⟨hi, hj, ?_⟩
  by_cases c : key i < key j
  · rw [decide_eq_true c]; exact h1 c
  · rw [decide_eq_false c]; exact h2 c
theorem asc_ {p : Array Nat} (hp : Pm n p) {nrem : Nat} (hn : nrem ≤ n) {Q : Nat → Prop} : ∀ (f m : Nat), 1 ≤ m → m + f = nrem → Inc key p m →
    (∀ m', m ≤ m' → m' ≤ nrem → Inc key p m' → (m' < nrem → Ky key p m' < Ky key p (m' - 1)) → Q m') → TW key n (kas_asc p f m) Q
  | 0, m, h1, h2, h3, h => h m (Nat.le_refl _) (by omega) h3 (by omega)
  | f + 1, m, h1, h2, h3, h => by
    refine ask_ (hp.lt (by omega)) (hp.lt (by omega)) (fun c => ?_) (fun c => ?_)
    · exact h m (Nat.le_refl _) (by omega) h3 fun _ => c
    · refine asc_ hp hn f (m + 1) (by omega) (by omega) (fun i j hij hj => ?_) fun m' a b c d => h m' (by omega) b c d
      have c' : Ky key p (m - 1) ≤ Ky key p m := Nat.le_of_not_lt c
      rcases Nat.lt_or_ge j m with z | z
      · exact h3 i j hij z
      · have ej : j = m := by omega
        subst ej
        rcases Nat.lt_or_ge i j with y | y
        · exact Nat.le_trans (h3 i (j - 1) (by omega) (by omega)) c'
        · have : i = j := by omega
          subst this; exact Nat.le_refl _
/-- what a falling run keeps -/
structure Fall (key : Nat → Nat) (n : Nat) (p : Array Nat) (m q : Nat) : Prop where
  pm : Pm n p
  dec : Dec key p m
  le : q + 1 ≤ m
  eq : ∀ i, m - (q + 1) ≤ i → i < m → Ky key p i = Ky key p (m - 1)
theorem Fall.turned {p : Array Nat} {m q : Nat} (h : Fall key n p m q) (hm : m ≤ n) : ∀ k, Ky key (kas_rev p (m - (q + 1)) m) k = Ky key p k := fun k => by
  have := h.le
  rw [Ky_rev (by rw [h.pm.size]; exact hm)]
  split
  · rw [h.eq _ (by omega) (by omega), h.eq k (by omega) (by omega)]
  · rfl
theorem Dec.more {p r : Array Nat} {m : Nat} (h : Dec key p m) (hm : 1 ≤ m) (e : ∀ k, Ky key r k = Ky key p k) (c : Ky key p m ≤ Ky key p (m - 1)) : Dec key r (m + 1) := fun i j hij hj => by
  rw [e, e]
  rcases Nat.lt_or_ge j m with z | z
  · exact h i j hij z
  · have ej : j = m := by omega
    subst ej
    rcases Nat.lt_or_ge i j with y | y
    · exact Nat.le_trans c (h i (j - 1) (by omega) (by omega))
    · have : i = j := by omega
      subst this; exact Nat.le_refl _
theorem desc_ {nrem : Nat} (hn : nrem ≤ n) {Q : Array Nat × Nat × Nat → Prop} : ∀ (f : Nat) (p : Array Nat) (m q : Nat), m + f = nrem → Fall key n p m q →
    (∀ p' m' q', m' ≤ nrem → Fall key n p' m' q' → Q (p', m', q')) → TW key n (kas_desc f p m q) Q
  | 0, p, m, q, h1, h2, h => h p m q (by omega) h2
  | f + 1, p, m, q, h1, h2, h => by
    have hl := h2.le
    refine ask_ (h2.pm.lt (by omega)) (h2.pm.lt (by omega)) (fun c => ?_) (fun c => ?_)
    · rw [if_pos rfl]
      have c' : Ky key p m ≤ Ky key p (m - 1) := Nat.le_of_lt c
      have one : ∀ r : Array Nat, ∀ i, m + 1 - (0 + 1) ≤ i → i < m + 1 → Ky key r i = Ky key r (m + 1 - 1) := fun r i a b => by
        have : i = m + 1 - 1 := by omega
        rw [this]
      by_cases hq : q > 0
      · rw [if_pos hq]
        exact desc_ hn f _ (m + 1) 0 (by omega) ⟨h2.pm.rev _ _, h2.dec.more (by omega) (h2.turned (by omega)) c', by omega, one _⟩ h
      · rw [if_neg hq]
        exact desc_ hn f _ (m + 1) 0 (by omega) ⟨h2.pm, h2.dec.more (by omega) (fun _ => rfl) c', by omega, one _⟩ h
    · rw [if_neg (by decide)]
      refine ask_ (h2.pm.lt (by omega)) (h2.pm.lt (by omega)) (fun d => ?_) (fun d => ?_)
      · rw [if_pos rfl]; exact h p m q (by omega) h2
      · rw [if_neg (by decide)]
        have e1 : Ky key p (m - 1) ≤ Ky key p m := Nat.le_of_not_lt c
        have e2 : Ky key p m ≤ Ky key p (m - 1) := Nat.le_of_not_lt d
        refine desc_ hn f _ (m + 1) (q + 1) (by omega) ⟨h2.pm, h2.dec.more (by omega) (fun _ => rfl) e2, by omega, fun i a b => ?_⟩ h
        show Ky key p i = Ky key p m
        rcases Nat.lt_or_ge i m with z | z
        · rw [h2.eq i (by omega) z]; omega
        · have : i = m := by omega
          rw [this]
theorem tail3_ {nrem m : Nat} (hn : nrem ≤ n) {p : Array Nat} (hp : Pm n p) (h1 : 1 ≤ m) (hm : m ≤ nrem) (hd : Dec key p m) {Q : Nat × Array Nat → Prop}
    (h : ∀ m' p', 1 ≤ m' → m' ≤ nrem → Pm n p' → Inc key p' m' → Q (m', p')) : TW key n (kas_tail3 m nrem p) Q := by
  unfold kas_tail3
  refine TW.bind (asc_ (hp.rev 0 m) hn (nrem - m) m h1 (by omega) (fun i j hij hj => ?_) fun m' a b c _ => h m' _ (by omega) b (hp.rev 0 m) c)
  rw [Ky_rev (by rw [hp.size]; omega), Ky_rev (by rw [hp.size]; omega), if_pos ⟨by omega, by omega⟩, if_pos ⟨by omega, by omega⟩]
  exact hd _ _ (by omega) (by omega)
theorem descPart_ {nrem m : Nat} (hn : nrem ≤ n) {p : Array Nat} (hp : Pm n p) (h1 : 1 ≤ m) (hm : m + 1 ≤ nrem) (heq : ∀ i, i < m → Ky key p i = Ky key p 0) (hl : Ky key p m < Ky key p (m - 1)) {Q : Nat × Array Nat → Prop}
    (h : ∀ m' p', 1 ≤ m' → m' ≤ nrem → Pm n p' → Inc key p' m' → Q (m', p')) : TW key n (kas_descPart m nrem p) Q := by
  unfold kas_descPart
  have hd : Dec key p (m + 1) := Dec.more (p := p) (fun i j hij hj => by rw [heq i (by omega), heq j hj]; exact Nat.le_refl _) h1 (fun _ => rfl) (Nat.le_of_lt hl)
  refine TW.bind (desc_ hn _ p (m + 1) 0 (by omega) ⟨hp, hd, by omega, fun i a b => congrArg (Ky key p) (by omega)⟩ fun p' m' q' hm' F => ?_)
  have := F.le
  dsimp only
  by_cases c : q' > 0
  · rw [if_pos c]
    exact tail3_ hn (F.pm.rev _ _) (by omega) hm' (fun i j hij hj => by rw [F.turned (by omega), F.turned (by omega)]; exact F.dec i j hij hj) h
  · rw [if_neg c]
    exact tail3_ hn F.pm (by omega) hm' F.dec h
theorem count_ {nrem : Nat} (h1 : 1 ≤ nrem) (hn : nrem ≤ n) {p : Array Nat} (hp : Pm n p) {Q : Nat × Array Nat → Prop}
    (h : ∀ m' p', 1 ≤ m' → m' ≤ nrem → Pm n p' → Inc key p' m' → Q (m', p')) : TW key n (kas_count nrem p) Q := by
  unfold kas_count
  refine TW.bind (asc_ hp hn (nrem - 1) 1 (by omega) (by omega) (fun i j hij hj => Nat.le_of_eq (congrArg (Ky key p) (by omega))) fun m a b c d => ?_)
  by_cases e : (m == nrem) = true
  · rw [if_pos e]
    exact h m p a b hp c
  · rw [if_neg e]
    have hlt : m < nrem := by
      have : m ≠ nrem := by simpa using e
      omega
    by_cases g : m > 1
    · rw [if_pos g]
      refine ask_ (hp.lt (by omega)) (hp.lt (by omega)) (fun _ => ?_) (fun z => ?_)
      · rw [if_pos rfl]; exact h m p a b hp c
      · rw [if_neg (by decide)]
        have z' : Ky key p (m - 1) ≤ Ky key p 0 := Nat.le_of_not_lt z
        have al : ∀ i, i < m → Ky key p i = Ky key p 0 := fun i hi => by
          have := c 0 i (by omega) hi
          have := c i (m - 1) (by omega) (by omega)
          omega
        have rv : ∀ i, i < m → Ky key (kas_rev p 0 m) i = Ky key p 0 := fun i hi => by
          rw [Ky_rev (by rw [hp.size]; omega), if_pos ⟨by omega, hi⟩]; exact al _ (by omega)
        refine descPart_ hn (hp.rev 0 m) a (by omega) (fun i hi => ?_) ?_ h
        · rw [rv i hi, rv 0 (by omega)]
        · rw [rv (m - 1) (by omega), Ky_rev (by rw [hp.size]; omega), if_neg (by omega)]
          have := d hlt
          rw [al (m - 1) (by omega)] at this
          exact this
    · rw [if_neg g]
      have em : m = 1 := by omega
      subst em
      exact descPart_ hn hp (by omega) (by omega) (fun i hi => by rw [show i = 0 by omega]) (d hlt) h
theorem place_ {p : Array Nat} (hp : Pm n p) {k : Nat} (hk : k < n) {Q : Nat → Prop} (hI : Inc key p k) : ∀ (f l r : Nat), r - l ≤ f → l ≤ r → r ≤ k → (∀ i, i < l → Ky key p i ≤ Ky key p k) → (∀ i, r ≤ i → i < k → Ky key p k < Ky key p i) →
    (∀ l, l ≤ k → (∀ i, i < l → Ky key p i ≤ Ky key p k) → (∀ i, l ≤ i → i < k → Ky key p k < Ky key p i) → Q l) → TW key n (kas_place p k f l r) Q
  | 0, l, r, h1, h2, h3, h4, h5, h => by
    have : l = r := by omega
    subst this
    exact h l h3 h4 h5
  | f + 1, l, r, h1, h2, h3, h4, h5, h => by
    unfold kas_place
    by_cases c : l ≥ r
    · rw [if_pos c]
      have : l = r := by omega
      subst this
      exact h l h3 h4 h5
    · rw [if_neg c]
      refine ask_ (hp.lt hk) (hp.lt (by omega)) (fun z => ?_) (fun z => ?_)
      · rw [if_pos rfl]
        have z' : Ky key p k < Ky key p ((l + r) / 2) := z
        exact place_ hp hk hI f l _ (by omega) (by omega) (by omega) h4 (fun i a b => Nat.lt_of_lt_of_le z' (hI _ _ a b)) h
      · rw [if_neg (by decide)]
        have z' : Ky key p ((l + r) / 2) ≤ Ky key p k := Nat.le_of_not_lt z
        exact place_ hp hk hI f _ r (by omega) (by omega) h3 (fun i a => Nat.le_trans (hI i ((l + r) / 2) (by omega) (by omega)) z') h5 h
theorem bin_ {Q : Array Nat → Prop} : ∀ (f : Nat) (p : Array Nat) (k : Nat), k + f = n → Pm n p → Inc key p k → (∀ p', Pm n p' → Inc key p' n → Q p') → TW key n (kas_bin f p k) Q
  | 0, p, k, h1, hp, hI, h => h p hp ((show k = n by omega) ▸ hI)
  | f + 1, p, k, h1, hp, hI, h => by
    refine TW.bind (place_ hp (by omega) hI k 0 k (by omega) (by omega) (Nat.le_refl _) (fun i a => by omega) (fun i a b => by omega) fun l hl a b => ?_)
    refine bin_ f _ (k + 1) (by omega) ((bubble_perm p k (k - l)).trans hp) (fun i j hij hj => ?_) h
    have hs : k < p.size := by rw [hp.size]; omega
    rw [Ky_bub hs (by omega), Ky_bub hs (by omega)]
    have el : k - (k - l) = l := by omega
    rw [el]
    by_cases c1 : i = l
    · rw [if_pos c1]
      by_cases c2 : j = l
      · rw [if_pos c2]; exact Nat.le_refl _
      · rw [if_neg c2, if_pos ⟨by omega, by omega⟩]; exact Nat.le_of_lt (b _ (by omega) (by omega))
    · rw [if_neg c1]
      by_cases c2 : l < i ∧ i ≤ k
      · rw [if_pos c2, if_neg (by omega), if_pos ⟨by omega, by omega⟩]
        exact hI _ _ (by omega) (by omega)
      · rw [if_neg c2]
        by_cases c3 : j = l
        · rw [if_pos c3]; exact a i (by omega)
        · rw [if_neg c3]
          by_cases c4 : l < j ∧ j ≤ k
          · rw [if_pos c4]; exact hI _ _ (by omega) (by omega)
          · rw [if_neg c4]; exact hI _ _ hij (by omega)
theorem sort_ (hn : 1 ≤ n) {Q : Array Nat → Prop} (h : ∀ p, Pm n p → Inc key p n → Q p) : TW key n (kas_sort n) Q := by
  unfold kas_sort
  refine TW.bind (count_ hn (Nat.le_refl _) (Array.Perm.refl _) fun m p h1 h2 hp hI => ?_)
  dsimp only
  by_cases c : m < n
  · rw [if_pos c, show max m 1 = m by omega]
    exact bin_ _ p m (by omega) hp hI h
  · rw [if_neg c]
    exact h p hp ((show m = n by omega) ▸ hI)
end
/-- how many are less -/
def rank (lt : Nat → Nat → Bool) (n i : Nat) : Nat := ((List.range n).filter fun j => lt j i).length
theorem fl_le {α : Type} {p q : α → Bool} : ∀ (l : List α), (∀ x, p x = true → q x = true) → (l.filter p).length ≤ (l.filter q).length
  | [], _ => Nat.le_refl _
  | x :: l, h => by
    have ih := fl_le l h
    rw [List.filter_cons, List.filter_cons]
    cases hp : p x <;> cases hq : q x <;> simp
    · exact ih
    · omega
    · rw [h x hp] at hq; cases hq
    · exact ih
theorem fl_lt {α : Type} {p q : α → Bool} {y : α} (hy : p y = false) (hy' : q y = true) : ∀ (l : List α), y ∈ l → (∀ x, p x = true → q x = true) → (l.filter p).length < (l.filter q).length
  | [], hm, _ => by cases hm
  | x :: l, hm, h => by
    have le := fl_le l h
    rw [List.filter_cons, List.filter_cons]
    rcases List.mem_cons.mp hm with rfl | hm
    · rw [hy, hy']; simp; omega
    · have ih := fl_lt hy hy' l hm h
      cases hp : p x <;> cases hq : q x <;> simp
      · exact ih
      · omega
      · rw [h x hp] at hq; cases hq
      · exact ih
theorem rank_lt {lt : Nat → Nat → Bool} {n : Nat} (ir : ∀ i, lt i i = false) (tr : ∀ i j k, lt i j = true → lt j k = true → lt i k = true) (nt : ∀ i j k, lt i k = true → lt i j = true ∨ lt j k = true) {i j : Nat} (hi : i < n) :
    lt i j = decide (rank lt n i < rank lt n j) := by
  cases c : lt i j with
  | true => exact (decide_eq_true (fl_lt (p := fun k => lt k i) (q := fun k => lt k j) (y := i) (ir i) c _ (List.mem_range.mpr hi) fun x hx => tr x i j hx c)).symm
  | false =>
    refine (decide_eq_false (Nat.not_lt.mpr (fl_le (p := fun k => lt k j) (q := fun k => lt k i) _ fun x hx => ?_))).symm
    rcases nt x i j hx with z | z
    · exact z
    · rw [c] at z; cases z
end SR

set_option Elab.async false
set_option linter.all false
set_option maxRecDepth 100000
set_option maxHeartbeats 2000000
namespace TS
open PySem TB
/-- a set's object -/
abbrev sObj (es : Array (Int × Value)) (ep : Nat) (t : SetTable) : Obj := { cls := .type "set", dict := none, data := .set es ep t, slots := #[] }
theorem Tab.ft {t : SetTable} {n : Nat} {b : Bool} (T : Tab t n b) : t.fits n = true := by
  have := T.fits
  unfold SetTable.fits
  simp at this ⊢
  exact ⟨this.1, this.2⟩
theorem TabP.ft {t : SetTable} {n : Nat} {b : Bool} (T : TabP t n b) : t.fits n = true := by
  have := T.fits
  unfold SetTable.fits
  simp at this ⊢
  exact ⟨this.1, this.2⟩
section
variable {prog : Program} {w : World} {A : Around} {E : Value → Shared → Prop} {s : Shared}
/-- a tuple of ints -/
abbrev TK (prog : Program) (w : World) (h : Heap) (ks : List Int) (a : Addr) : Prop := IsTupleKey (intKind prog w) h ks a
theorem items_val {a : Addr} {ks : List Int} {Q : Bool → Shared → Prop} (hk : TK prog w s.heap ks a) (h : Q false s) : wpAny (model prog w) A (ofAClassStatement 8 (.ref a)) Q E s := by
  have hT := hk.typeIs
  obtain ⟨o, items, n, ho, hc, hd, hi⟩ := hk
  unfold ofAClassStatement
  refine wpAny_bind (wpAny_typeOf hT ?_)
  dsimp only
  rw [if_pos (by decide)]
  refine wpAny_bind (wpAny_pure ?_)
  rw [if_neg (by decide)]
  refine wpAny_bind (wpAny_seqItems ho hd ?_)
  refine wpAny_bind ?_
  show wpAny _ _ (forIn items _ _) _ _ s
  rw [← Array.forIn_toList]
  refine wpAny_forIn_list _ (fun rest r s' => r.1 = none ∧ s' = s ∧ ∀ v ∈ rest, carriedByValue v = true) _ ?_ ?_ _ _ ⟨rfl, rfl, hi.byValue⟩
  · rintro v rest r s' ⟨hr, rfl, al⟩
    have e : ofAClassStatement 7 v = pure false := by
      have := al v List.mem_cons_self
      cases v with
      | ref a => simp [carriedByValue] at this
      | _ => rfl
    rw [e]
    refine wpAny_bind (wpAny_pure ?_)
    rw [if_neg (by decide)]
    exact wpAny_pure ⟨rfl, rfl, fun u hu' => al u (List.mem_cons_of_mem _ hu')⟩
  · rintro ⟨r1, r2⟩ s' ⟨hr, rfl, _⟩
    simp only at hr
    subst hr
    exact wpAny_pure h
theorem by_value {a : Addr} {ks : List Int} {Q : Bool → Shared → Prop} (hk : TK prog w s.heap ks a) (h : Q true s) : wpAny (model prog w) A (hashByValue 8 (.ref a)) Q E s := by
  have hT := hk.typeIs
  obtain ⟨o, items, n, ho, hc, hd, hi⟩ := hk
  unfold hashByValue
  refine wpAny_bind (wpAny_specialOf hT F.slot_tuple_hash.lookup ?_)
  dsimp only
  refine wpAny_bind (wpAny_seqItems ho hd ?_)
  refine wpAny_bind ?_
  show wpAny _ _ (forIn items _ _) _ _ s
  rw [← Array.forIn_toList]
  refine wpAny_forIn_list _ (fun rest r s' => r.1 = none ∧ s' = s ∧ ∃ ls, ItemsAre (intKind prog w) ls rest) _ ?_ ?_ _ _ ⟨rfl, rfl, ks, hi⟩
  · rintro v rest r s' ⟨hr, rfl, ls, al⟩
    cases al with
    | @cons k _ ls' _ h1 h2 =>
      have e : hashByValue 7 v = pure true := by
        cases v with
        | int _ _ => rfl
        | _ => exact absurd h1 (by simp [intKind, Value.isInt])
      rw [e]
      refine wpAny_bind (wpAny_pure ?_)
      rw [if_neg (by decide)]
      exact wpAny_pure ⟨rfl, rfl, ls', h2⟩
  · rintro ⟨r1, r2⟩ s' ⟨hr, rfl, _⟩
    simp only at hr
    subst hr
    exact wpAny_pure h
theorem unseen {a : Addr} {ks : List Int} {l : List Value} {Q : Bool → Shared → Prop} (hk : TK prog w s.heap ks a) (hl : ∀ v ∈ l, ∃ b ls, v = .ref b ∧ TK prog w s.heap ls b) (h : Q false s) :
    wpAny (model prog w) A (searchCouldBeSeen (.ref a) l) Q E s := by
  unfold searchCouldBeSeen
  refine wpAny_bind (wpAny_forIn_list _ (fun rest r s' => r.1 = none ∧ s' = s ∧ ∀ v ∈ rest, ∃ b ls, v = .ref b ∧ TK prog w s.heap ls b) _ ?_ ?_ _ _ ⟨rfl, rfl, hl⟩)
  · rintro v rest r s' ⟨hr, rfl, al⟩
    obtain ⟨b, ls, rfl, hb⟩ := al v List.mem_cons_self
    have rest' : ∀ v ∈ rest, ∃ b ls, v = .ref b ∧ TK prog w s'.heap ls b := fun u hu => al u (List.mem_cons_of_mem _ hu)
    dsimp only
    split
    · exact wpAny_pure ⟨rfl, rfl, rest'⟩
    · refine wpAny_bind (wpAny_eqIsQuiet_tuple hk ?_)
      rw [if_neg (by decide)]
      refine wpAny_bind (wpAny_eqIsQuiet_tuple hb ?_)
      rw [if_neg (by decide)]
      refine wpAny_bind (items_val hk ?_)
      rw [if_neg (by decide)]
      refine wpAny_bind (items_val hb ?_)
      rw [if_neg (by decide)]
      exact wpAny_pure ⟨rfl, rfl, rest'⟩
  · rintro ⟨r1, r2⟩ s' ⟨hr, rfl, _⟩
    simp only at hr
    subst hr
    exact wpAny_pure h
theorem gate {M : Model} {α : Type} {c : Prop} [Decidable c] {m : Sem Bool} {U R : Sem α} {Q : α → Shared → Prop} (hm : ∀ Q' : Bool → Shared → Prop, Q' false s → wpAny M A m Q' E s) (hR : wpAny M A R Q E s) :
    wpAny M A (if c then m >>= fun b => if b = true then U else R else R) Q E s := by
  by_cases h : c
  · rw [if_pos h]
    exact wpAny_bind (hm _ (by rw [if_neg (by decide)]; exact hR))
  · rw [if_neg h]; exact hR
/-- where a value lies -/
def adr : Value → Addr
  | .ref a => a
  | _ => 0
/-- an element's key, by what keys the addresses have -/
def kv (κ : Addr → List Int) (e : Int × Value) : List Int := κ (adr e.2)
/-- the elements are tuples of ints, with their hashes -/
def Els (prog : Program) (w : World) (κ : Addr → List Int) (h : Heap) (es : Array (Int × Value)) : Prop := ∀ e ∈ es.toList, ∃ b, e.2 = .ref b ∧ TK prog w h (κ b) b ∧ e.1 = tupleKeyHash (intKind prog w) (κ b)
theorem search {κ : Addr → List Int} {S x : Addr} {es : Array (Int × Value)} {ep : Nat} {t : SetTable} {b : Bool} {Q : SetFound → Shared → Prop} (hu : A.units < cLine) (ho : s.heap.get? S = some (sObj es ep t)) (T : Tab t es.size b)
    (hk : TK prog w s.heap (κ x) x) (he : Els prog w κ s.heap es) (h1 : (∃ e ∈ es.toList, kv κ e = κ x) → Q (.there none) s)
    (h2 : ∀ M, t.slot (adv t M (t.probeStart (tupleKeyHash (intKind prog w) (κ x)))).j = .empty → (∀ m', m' < M → ∃ i, ∃ hi : i < es.size, t.slot (adv t m' (t.probeStart (tupleKeyHash (intKind prog w) (κ x)))).j = .live i ∧ (es[i].1 ≠ tupleKeyHash (intKind prog w) (κ x) ∨ kv κ es[i] ≠ κ x)) → Q (.free (adv t M (t.probeStart (tupleKeyHash (intKind prog w) (κ x)))).j false) s) :
    ∀ (f m c : Nat) (st : Option SetTable.Probe), m < f → m < 10 * SetTable.turns t.mask → st.getD (t.probeStart (tupleKeyHash (intKind prog w) (κ x))) = adv t c (t.probeStart (tupleKeyHash (intKind prog w) (κ x))) →
      (∀ m', m' < c → ∃ i, ∃ hi : i < es.size, t.slot (adv t m' (t.probeStart (tupleKeyHash (intKind prog w) (κ x)))).j = .live i ∧ (es[i].1 ≠ tupleKeyHash (intKind prog w) (κ x) ∨ kv κ es[i] ≠ κ x)) →
      Far t (adv t c (t.probeStart (tupleKeyHash (intKind prog w) (κ x)))) m → wpAny (model prog w) A (setSearchFrom S (.ref x) (tupleKeyHash (intKind prog w) (κ x)) true f st) Q E s := by
  generalize ehx : tupleKeyHash (intKind prog w) (κ x) = hx at h2 ⊢
  have lv : ∀ {j i : Nat}, t.slot j = .live i → i < es.size := fun {j i} hj => by
    obtain ⟨z, _⟩ := Array.getElem?_eq_some_iff.mp (live_at T hj)
    rw [T.size] at z; exact z
  intro f
  induction f with
  | zero => intro m c st hm; omega
  | succ f ih =>
    intro m c st hm hm2 est seen fr
    unfold setSearchFrom
    refine wpAny_bind (wpAny_setState_of ho rfl (Tab.ft T) ?_)
    dsimp only
    rw [T.way]
    rw [if_neg (by decide)]
    unfold SetTable.probe
    rw [est]
    have more : ∀ d, (∀ d', d' < d → ∃ i, t.slot (adv t d' (adv t c (t.probeStart hx))).j = .live i ∧ (((es[i]?.map (·.1)).getD 0 == hx) = false)) → ∀ m', m' < c + d → ∃ i, ∃ hi : i < es.size, t.slot (adv t m' (t.probeStart hx)).j = .live i ∧ (es[i].1 ≠ hx ∨ kv κ es[i] ≠ κ x) := fun d hd m' hm' => by
      rcases Nat.lt_or_ge m' c with z | z
      · exact seen m' z
      · obtain ⟨d', rfl⟩ : ∃ d', m' = c + d' := ⟨m' - c, by omega⟩
        obtain ⟨i, e1, e2⟩ := hd d' (by omega)
        rw [← adv_add] at e1
        have hi := lv e1
        refine ⟨i, hi, e1, .inl fun z => ?_⟩
        rw [Array.getElem?_eq_getElem hi] at e2
        have : (es[i].1 == hx) = false := e2
        rw [z] at this; simp at this
    rcases probe_seen (hashAt := _) (h := hx) T.nod _ m _ hm2 fr with ⟨d, _, e, hj, hd⟩ | ⟨d, i, hlt, e, hj, hd, fr'⟩
    · rw [e]
      dsimp only
      rw [← adv_add] at hj ⊢
      exact wpAny_pure (h2 (c + d) hj (more d hd))
    · rw [e]
      dsimp only
      have hi : i < es.size := lv hj
      have ei : es[i]? = some es[i] := Array.getElem?_eq_getElem hi
      obtain ⟨y, ey, hy, eyh⟩ := he es[i] (by simp)
      have e2 : es[i]? = some (es[i].1, .ref y) := by rw [ei, ← ey]
      have ky : kv κ es[i] = κ y := by unfold kv; rw [ey]; rfl
      rw [e2]
      dsimp only
      refine gate (fun Q' hq => unseen hk (fun v hv => ?_) hq) ?_
      · obtain ⟨e', he', rfl⟩ := List.mem_map.mp hv
        obtain ⟨b', q1, q2, _⟩ := he e' (by
          have := Array.mem_filter.mp (Array.mem_toList_iff.mp he')
          exact Array.mem_toList_iff.mpr this.1)
        exact ⟨b', _, q1, q2⟩
      refine wpAny_bind (wpAny_holding (wpAny_eqBool_tuple hu hy hk ?_))
      refine wpAny_bind (wpAny_setState_of ho rfl (Tab.ft T) ?_)
      dsimp only
      by_cases cc : κ y = κ x
      · rw [decide_eq_true cc]
        exact wpAny_pure (h1 ⟨es[i], by simp, ky.trans cc⟩)
      · rw [decide_eq_false cc]
        rw [if_neg (by decide)]
        have em : t.sameMemory t.moves t.mask = some true := by unfold SetTable.sameMemory; simp
        rw [em]
        dsimp only
        rw [if_pos rfl, hj]
        dsimp only
        rw [e2]
        dsimp only
        refine wpAny_bind (wpAny_isSame_ref_self ?_)
        rw [if_pos rfl]
        refine wpAny_bind (wpAny_pure ?_)
        dsimp only
        rw [if_neg (by decide)]
        refine ih (m - (d + 1)) (c + (d + 1)) _ (by omega) (by omega) (adv_add t c (d + 1) _).symm ?_ (by rw [adv_add]; exact fr')
        intro m' hm'
        rcases Nat.lt_or_ge m' (c + d) with z | z
        · exact more d hd m' z
        · have : m' = c + d := by omega
          subst this
          rw [← adv_add] at hj
          exact ⟨i, hi, hj, .inr (by rw [ky]; exact cc)⟩
/-- the set's state: its elements, tuples of ints, no two alike -/
def IsS (prog : Program) (w : World) (κ : Addr → List Int) (h : Heap) (S : Addr) (es : Array (Int × Value)) (b : Bool) : Prop := ∃ ep t, h.get? S = some (sObj es ep t) ∧ Tab t es.size b ∧ Els prog w κ h es ∧ Chs t (es.toList.map (·.1)) ∧ (es.toList.map (kv κ)).Nodup
theorem Els.keeps {κ : Addr → List Int} {h h' : Heap} {S : Addr} {es es' : Array (Int × Value)} {ep : Nat} {t : SetTable} (he : Els prog w κ h es) (ho : h.get? S = some (sObj es' ep t)) (hs : Heap.SameBut S h h') : Els prog w κ h' es := fun e hm => by
  obtain ⟨b, e1, ⟨o, items, n, h1, h2, h3, h4⟩, e2⟩ := he e hm
  refine ⟨b, e1, ⟨o, items, n, (hs.2 b fun z => ?_).trans h1, h2, h3, h4⟩, e2⟩
  subst z
  rw [ho] at h1
  cases h1
  cases h3
theorem fresh_key {κ : Addr → List Int} {x : Addr} {es : Array (Int × Value)} {t : SetTable} {b : Bool} {h : Heap} {M : Nat} (T : Tab t es.size b) (he : Els prog w κ h es) (C : Chs t (es.toList.map (·.1))) (hM : t.slot (adv t M (t.probeStart (tupleKeyHash (intKind prog w) (κ x)))).j = .empty)
    (seen : ∀ m', m' < M → ∃ i, ∃ hi : i < es.size, t.slot (adv t m' (t.probeStart (tupleKeyHash (intKind prog w) (κ x)))).j = .live i ∧ (es[i].1 ≠ tupleKeyHash (intKind prog w) (κ x) ∨ kv κ es[i] ≠ κ x)) : κ x ∉ es.toList.map (kv κ) := by
  intro hm
  obtain ⟨e, hem, ek⟩ := List.mem_map.mp hm
  obtain ⟨i, hi, rfl⟩ := List.mem_iff_getElem.mp hem
  have hi' : i < es.size := by simpa using hi
  obtain ⟨y, ey, _, eh⟩ := he _ hem
  have ky : κ y = κ x := by
    have : kv κ es.toList[i] = κ y := by unfold kv; rw [ey]; rfl
    rw [← this, ek]
  rw [ky] at eh
  have hp : i < t.place.size := by rw [T.size]; exact hi'
  obtain ⟨m, em, al⟩ := C (t.place[i], es.toList[i].1) (List.mem_iff_getElem.mpr ⟨i, by have : i < min t.place.size es.size := Nat.lt_min.mpr ⟨hp, hi'⟩; simpa using this, by simp⟩)
  dsimp only at em al
  rw [eh] at em al
  rcases Nat.lt_trichotomy m M with z | z | z
  · obtain ⟨i', hi2, q1, q2⟩ := seen m z
    rw [em] at q1
    have q3 := live_at T q1
    obtain ⟨z3, e3⟩ := Array.getElem?_eq_some_iff.mp q3
    have : i' = i := up_inj T.up (by simpa using z3) (by simpa using hp) (by simpa using e3)
    subst this
    rcases q2 with q2 | q2
    · exact q2 (by simpa using eh)
    · exact q2 (by simpa using ek)
  · subst z
    rw [em] at hM
    exact (empty_iff T _).mp hM (by simp)
  · exact (empty_iff T _).mp hM (al M z)
theorem addHashed {κ : Addr → List Int} {S x : Addr} {es : Array (Int × Value)} {b : Bool} {Q : Bool → Shared → Prop} (hu : A.units < cLine) (hS : IsS prog w κ s.heap S es b) (hk : TK prog w s.heap (κ x) x) (hn : es.size < 300)
    (h1 : (∃ e ∈ es.toList, kv κ e = κ x) → Q false s) (h2 : ∀ h' es', Heap.SameBut S s.heap h' → IsS prog w κ h' S es' b → es'.toList.Perm ((tupleKeyHash (intKind prog w) (κ x), .ref x) :: es.toList) → Q true { s with heap := h' }) :
    ∀ f, wpAny (model prog w) A (setAddHashedIn S (.ref x) (tupleKeyHash (intKind prog w) (κ x)) (f + 1)) Q E s := by
  intro f
  obtain ⟨ep, t, ho, T, he, C, nd⟩ := hS
  unfold setAddHashedIn
  refine wpAny_bind (wpAny_setState_of ho rfl (Tab.ft T) ?_)
  dsimp only
  have eb : byScan (.ref x) es = false := by unfold byScan; rfl
  rw [eb]
  rw [if_neg (by decide)]
  obtain ⟨m, hm, fr⟩ := T.start (tupleKeyHash (intKind prog w) (κ x))
  refine wpAny_bind (search hu ho T hk he (fun q => ?_) (fun M hM seen => ?_) 100000 m 0 none (Nat.lt_trans hm T.turns) hm rfl (fun m' h => by omega) fr)
  · exact wpAny_pure (h1 q)
  · have fk := fresh_key T he C hM seen
    have alM : ∀ m', m' < M → (adv t m' (t.probeStart (tupleKeyHash (intKind prog w) (κ x)))).j ∈ t.place.toList := fun m' h => by
      obtain ⟨i, _, q, _⟩ := seen m' h
      exact live_in T q
    obtain ⟨C1, ep2⟩ := put_chs T (hs := es.toList.map (·.1)) (by simp) C hM rfl alM
    have TP := T.put hM
    generalize (adv t M (t.probeStart (tupleKeyHash (intKind prog w) (κ x)))).j = j at TP C1 ep2 ⊢
    dsimp only
    refine wpAny_bind (wpAny_setState_of ho rfl (Tab.ft T) ?_)
    dsimp only
    generalize ePT : t.put j = PT at TP C1 ep2
    obtain ⟨t1, p⟩ := PT
    dsimp only at TP C1 ep2 ⊢
    rw [TP.plain]
    rw [if_pos rfl]
    refine wpAny_bind (by_value hk ?_)
    rw [if_pos rfl]
    generalize ehx : tupleKeyHash (intKind prog w) (κ x) = hx at C1 h2 ⊢
    have pm := ins_perm es p (hx, Value.ref x)
    have sz := ins_size es p (hx, Value.ref x)
    have C2 : Chs t1 ((SetTable.insertAt es p (hx, Value.ref x)).toList.map (·.1)) := by
      rw [ins_list, List.map_append, List.map_cons, List.map_take, List.map_drop]
      exact C1
    generalize SetTable.insertAt es p (hx, Value.ref x) = es1 at pm sz C2 ⊢
    have nd1 : (es1.toList.map (kv κ)).Nodup := by
      refine (pm.map (kv κ)).nodup_iff.mpr ?_
      rw [List.map_cons]
      exact List.nodup_cons.mpr ⟨fk, nd⟩
    refine wpAny_bind (wpAny_storeSet_of ho rfl ?_ (by rw [sz, sizeLine_eq]; omega))
    have hg : (s.heap.update S (Obj.putSet es1 t1)).get? S = some (sObj es1 (ep + 1) t1) := Heap.get?_update_self (Obj.putSet es1 t1) ho rfl
    have sb := Heap.SameBut.update s.heap S (Obj.putSet es1 t1)
    have he1 : Els prog w κ (s.heap.update S (Obj.putSet es1 t1)) es1 := fun e hm => by
      rcases List.mem_cons.mp (pm.mem_iff.mp hm) with rfl | hm
      · exact Els.keeps (es := #[(hx, Value.ref x)]) (fun e hm => by
          have : e = (hx, Value.ref x) := by simpa using hm
          subst this; exact ⟨x, rfl, hk, ehx.symm⟩) ho sb _ (by simp)
      · exact Els.keeps he ho sb e hm
    rw [← sz] at TP
    by_cases c : t1.tooFull = true
    · rw [if_pos (by rw [c]; rfl)]
      unfold setRelay
      refine wpAny_bind (wpAny_bind (wpAny_setState_of (s := { s with heap := s.heap.update S (Obj.putSet es1 t1) }) hg rfl (TabP.ft TP) ?_))
      dsimp only
      obtain ⟨hl, t2, order, er, T2, po, C3⟩ := relayC_is TP c (by omega) (es1.map (·.1)) (by simp)
      rw [← sz]
      rw [if_neg (by simpa using hl)]
      rw [er]
      have pe : (order.filterMap (es1[·]?)).toList.Perm es1.toList := by
        rw [Array.toList_filterMap]
        refine (po.filterMap _).trans ?_
        have := filterMap_getElem?_range es1
        rw [this]
      have zz : (order.filterMap (es1[·]?)).size = es1.size := by rw [← Array.length_toList, pe.length_eq, Array.length_toList]
      have C4 : Chs t2 ((order.filterMap (es1[·]?)).toList.map (·.1)) := by
        have e5 : (order.filterMap (es1[·]?)).toList.map (·.1) = order.toList.map fun k => (es1.map (·.1)).toList.getD k 0 := by
          rw [Array.toList_filterMap]
          have al : ∀ k ∈ order.toList, k < es1.size := fun k hk => List.mem_range.mp (po.mem_iff.mp hk)
          clear C3 po er pe zz
          generalize order.toList = l at al
          induction l with
          | nil => rfl
          | cons k l ih =>
            have hk := al k (.head _)
            rw [List.filterMap_cons, Array.getElem?_eq_getElem hk]
            simp only [List.map_cons]
            rw [ih fun k hk => al k (.tail _ hk)]
            congr 1
            simp [hk]
        rw [e5]; exact C3
      refine wpAny_bind ?_
      show wpAny _ _ (if ((order.filterMap (es1[·]?)).size != es1.size) = true then _ else pure (order.filterMap (es1[·]?), t2)) _ _ _
      rw [if_neg (by simp [zz])]
      refine wpAny_pure ?_
      dsimp only
      generalize order.filterMap (es1[·]?) = es2 at pe zz C4 ⊢
      refine wpAny_storeSet_of hg rfl ?_ (by rw [zz, sz, sizeLine_eq]; omega)
      have hg2 : ((s.heap.update S (Obj.putSet es1 t1)).update S (Obj.putSet es2 t2)).get? S = some (sObj es2 (ep + 1 + 1) t2) := Heap.get?_update_self (Obj.putSet es2 t2) hg rfl
      have sb2 := Heap.SameBut.update (s.heap.update S (Obj.putSet es1 t1)) S (Obj.putSet es2 t2)
      refine wpAny_pure (h2 _ es2 (sb.trans sb2) ⟨_, _, hg2, by rw [zz]; exact T2, ?_, C4, (pe.map (kv κ)).nodup_iff.mpr nd1⟩ (pe.trans pm))
      exact Els.keeps (fun e hm => he1 e (pe.mem_iff.mp hm)) hg sb2
    · rw [if_neg (by simpa using c)]
      exact wpAny_pure (h2 _ es1 sb ⟨_, _, hg, TP.tab (by simpa using c), he1, C2, nd1⟩ pm)
theorem add {κ : Addr → List Int} {S x : Addr} {es : Array (Int × Value)} {b : Bool} {Q : Bool → Shared → Prop} (hu : A.units < cLine) (hS : IsS prog w κ s.heap S es b) (hk : TK prog w s.heap (κ x) x) (hn : es.size < 300)
    (h1 : ∀ tk, s.toks ≤ tk → (∃ e ∈ es.toList, kv κ e = κ x) → Q false { s with toks := tk }) (h2 : ∀ h' es' tk hx, s.toks ≤ tk → Heap.SameBut S s.heap h' → IsS prog w κ h' S es' b → es'.toList.Perm ((hx, .ref x) :: es.toList) → Q true { s with heap := h', toks := tk }) : wpAny (model prog w) A (setAdd S (.ref x)) Q E s := by
  unfold setAdd
  refine wpAny_holding (wpAny_bind (wpAny_pyHash_tuple hu hk ?_))
  unfold setAddHashed
  refine wpAny_holding ?_
  exact addHashed (s := { s with toks := s.toks + ((κ x).length + 1) }) hu hS hk hn (fun q => h1 _ (Nat.le_add_right _ _) q) (fun h' es' sb i p => h2 h' es' _ _ (Nat.le_add_right _ _) sb i p) 99999
end
end TS

set_option Elab.async false
set_option linter.all false
set_option maxRecDepth 100000
set_option maxHeartbeats 4000000
namespace TS
open PySem TB
section
variable {prog : Program} {w : World} {A : Around} {R : Result → Shared → Prop} {I : Addr} {fp wr : List Addr} {G : Array GenState → Array GenState → Prop} {n : Nat} {P : Nat → Value → Prop} {St : Nat → Shared → Prop}
/-- each element is one of those that were met -/
def Met (n : Nat) (P : Nat → Value → Prop) (es : Array (Int × Value)) : Prop := ∀ e ∈ es.toList, ∃ j, j < n ∧ P j e.2
theorem IsS.moved {κ : Addr → List Int} {h h' : Heap} {S : Addr} {es : Array (Int × Value)} {b : Bool} {bad : List Addr} (i : IsS prog w κ h S es b) (hS : S ∉ bad) (k : ∀ c o, c ∉ bad → h.get? c = some o → h'.get? c = some o) (hb : ∀ c ∈ bad, ∀ o, h.get? c = some o → o.cls ≠ .type "tuple") : IsS prog w κ h' S es b := by
  obtain ⟨ep, t, ho, T, he, C, nd⟩ := i
  refine ⟨ep, t, k _ _ hS ho, T, fun e hm => ?_, C, nd⟩
  obtain ⟨c, e1, ⟨o, items, m, h1, h2, h3, h4⟩, e2⟩ := he e hm
  exact ⟨c, e1, ⟨o, items, m, k _ _ (fun z => hb c z o h1 h2) h1, h2, h3, h4⟩, e2⟩
/-- each that was met is there -/
def Cov (κ : Addr → List Int) (n : Nat) (P : Nat → Value → Prop) (es : Array (Int × Value)) : Prop := ∀ j v, j < n → P j v → ∃ e ∈ es.toList, kv κ e = κ (adr v)
theorem loop {κ : Addr → List Int} (W : WalksS prog w A.in1 I fp wr G n P St) (S : Addr) (hSf : S ∉ fp) (hu : A.in1.units < cLine) (h0 : Heap) (hP : ∀ i v, P i v → ∃ a, v = .ref a ∧ a ∉ wr ∧ a ≠ S ∧ TK prog w h0 (κ a) a) (hPf : ∀ i v v', P i v → P i v' → v = v') (hn : n ≤ 299) {led : Bool}
    (hwr : ∀ i s, St i s → ∀ c ∈ wr, ∀ o, s.heap.get? c = some o → o.cls ≠ .type "tuple") :
    ∀ (k i : Nat) (s : Shared) (es : Array (Int × Value)), n - i = k → i ≤ n → St i s → IsS prog w κ s.heap S es led → es.size ≤ i → Met n P es → Cov κ i P es → (∀ c o, c ∉ S :: wr → h0.get? c = some o → s.heap.get? c = some o) →
      (∀ s' es', Moved (S :: wr) G s s' → IsS prog w κ s'.heap S es' led → es'.size ≤ n → Met n P es' → Cov κ n P es' → R (.ok (.ret .none)) s') →
      codeAny (model prog w) A (.builtin "set.update.loop" ⟨[.ref S, .ref I], []⟩) R s := by
  have hSw : S ∉ wr := fun h => hSf (W.sub _ h)
  have sub : ∀ b ∈ wr, b ∈ S :: wr := fun b hb => .tail _ hb
  intro k
  induction k with
  | zero =>
    intro i s es hk hi hst hS hz hM hC hkp hR
    obtain rfl : i = n := by omega
    refine codeAny_builtin PyProof.Rows.F.entry_set_update_loop ?_
    rw [Around.under_plainId PyProof.Rows.F.plain_set_update_loop _]
    show wpAny _ A.in1 (pyNext (.ref I) >>= _) _ _ s
    refine wpAny_bind (W.done s _ _ hst fun s' hm => ?_)
    show wpAny _ A.in1 (ret Value.none) _ _ s'
    exact wpAny_pure (hR s' es (hm.mono sub) (IsS.moved hS hSw hm.heap (hwr _ _ hst)) hz hM hC)
  | succ k ih =>
    intro i s es hk hi hst hS hz hM hC hkp hR
    have hlt : i < n := by omega
    refine codeAny_builtin PyProof.Rows.F.entry_set_update_loop ?_
    rw [Around.under_plainId PyProof.Rows.F.plain_set_update_loop _]
    show wpAny _ A.in1 (pyNext (.ref I) >>= _) _ _ s
    refine wpAny_bind (W.item i s _ _ hlt hst fun v s' hp hst' hm => ?_)
    obtain ⟨a, rfl, ha, haS, o, items, m, q1, q2, q3, q4⟩ := hP i v hp
    have hk' : TK prog w s'.heap (κ a) a := ⟨o, items, m, hm.heap a o ha (hkp a o (fun z => by rcases List.mem_cons.mp z with z | z; exact haS z; exact ha z) q1), q2, q3, q4⟩
    have hS' := IsS.moved hS hSw hm.heap (hwr _ _ hst)
    show wpAny _ A.in1 (holding [Value.ref a] (setAdd S (.ref a)) >>= _) _ _ s'
    refine wpAny_bind (wpAny_holding (add hu hS' hk' (by omega) (fun tk htk there => ?_) (fun h' es' tk hx htk sb i' pm => ?_)))
    · refine wpAny_pure ⟨plainId_quiet PyProof.Rows.F.plain_set_update_loop _, ih (i + 1) { s' with toks := tk } es (by omega) hlt (W.frame _ s' s'.heap tk hst' htk fun _ _ _ e => e) hS' (by omega) hM (fun j v' hj hv' => ?_) (fun c o hc e => hm.heap c o (fun z => hc (sub c z)) (hkp c o hc e)) fun s2 es2 m2 i2 z2 w2 c2 => ?_⟩
      · rcases Nat.lt_or_ge j i with z | z
        · exact hC j v' z hv'
        · have : j = i := by omega
          subst this
          rw [hPf _ _ _ hv' hp]
          exact there
      · exact hR s2 es2 (Moved.trans W.gtrans ((hm.mono sub).then_heap (h' := s'.heap) htk fun _ _ _ e => e) m2) i2 z2 w2 c2
    · have hsz : es'.size = es.size + 1 := by have := pm.length_eq; simpa using this
      refine wpAny_pure ⟨plainId_quiet PyProof.Rows.F.plain_set_update_loop _, ih (i + 1) { s' with heap := h', toks := tk } es' (by omega) hlt (W.frame _ s' h' tk hst' htk fun c hc o e => ?_) i' (by omega) (fun e he => ?_) (fun j v' hj hv' => ?_) (fun c o hc e => ?_) fun s2 es2 m2 i2 z2 w2 c2 => ?_⟩
      · rw [sb.2 c fun z => hSf (z ▸ hc)]; exact e
      · rcases List.mem_cons.mp (pm.mem_iff.mp he) with rfl | he
        · exact ⟨i, hlt, hp⟩
        · exact hM e he
      · rcases Nat.lt_or_ge j i with z | z
        · obtain ⟨e, he, ek⟩ := hC j v' z hv'
          exact ⟨e, pm.mem_iff.mpr (List.mem_cons_of_mem _ he), ek⟩
        · have : j = i := by omega
          subst this
          rw [hPf _ _ _ hv' hp]
          exact ⟨(hx, .ref a), pm.mem_iff.mpr List.mem_cons_self, rfl⟩
      · rw [sb.2 c fun z => hc (z ▸ List.mem_cons_self)]
        exact hm.heap c o (fun z => hc (sub c z)) (hkp c o hc e)
      · refine hR s2 es2 (Moved.trans W.gtrans ((hm.mono sub).then_heap (h' := h') htk fun c o hc e => ?_) m2) i2 z2 w2 c2
        rw [sb.2 c fun z => hc (z ▸ List.mem_cons_self)]; exact e
end
/-- whether sets are laid as CPython lays them -/
abbrev ledOf (w : World) : Bool := !(w.params.followText "set-order")
section
variable {prog : Program} {w : World} {A : Around} {E : Value → Shared → Prop} {s : Shared}
abbrev nObj (w : World) : Obj := sObj #[] 0 (.fresh 0 0 (ledOf w))
theorem set_made (a : Value) {Q₁ : Value → Shared → Prop} (h : Q₁ (.ref s.heap.objs.size) { s with heap := s.heap.push (nObj w) }) :
    codeAny (model prog w) A (.call (.builtin "set.__new__") ⟨[.type "set", a], []⟩) (wants Q₁ E) s := by
  refine codeAny_of_tree (show wpAny _ A.in1 (checkBuiltinCall "set.__new__" ⟨[.type "set", a], []⟩ >>= fun _ => again (.builtin "set.__new__" ⟨[.type "set", a], []⟩)) _ _ s from ?_)
  refine wpAny_bind (wpAny_of_eq (F.newCall_set_1 a) (wpAny_pure ⟨plainId_quiet F.plain_set_new _, codeAny_builtin F.entry_set_new ?_⟩)); rw [Around.under_plainId F.plain_set_new _]
  unfold Builtin.«set.__new__» Builtin.Frozenset.newClass; have hsub := sub_set_self; obtain ⟨hp, g, d, tk, os⟩ := s; dsimp only; wp_walk
  refine wpAny_askSetting (wpAny_pure ?_); dsimp only; simp only [newObj]
  exact wpAny_bind (wpAny_alloc (wpAny_pure (wpAny_pure h)))
theorem set_call {κ : Addr → List Int} {l : Addr} {items : Array Value} {Q : Value → Shared → Prop} (hh : A.handled = none) (hl : s.heap.IsList l items) (hu : A.units + 10 < cLine) (hn : items.size ≤ 299)
    (hk : ∀ v ∈ items.toList, ∃ a, v = .ref a ∧ TK prog w s.heap (κ a) a)
    (h : ∀ (h' : Heap) (tk : Nat) (es : Array (Int × Value)), IsS prog w κ h' s.heap.objs.size es (ledOf w) → es.size ≤ items.size → (∀ e ∈ es.toList, e.2 ∈ items.toList) → (∀ v ∈ items.toList, ∃ e ∈ es.toList, kv κ e = κ (adr v)) →
      (∀ b o, b < s.heap.objs.size → s.heap.get? b = some o → h'.get? b = some o) → Q (.ref s.heap.objs.size) { s with heap := h', toks := tk }) :
    wpAny (model prog w) A (call (.type "set") [.ref l]) Q E s := by
  obtain ⟨cc, tl, hmro⟩ := F.called_set.mro; have hmade := F.called_set.made; have hsub := F.called_set.sub
  refine wpAny_call (codeAny_of_tree (show wpAny _ _ (callAny (.type "set") _) _ _ _ from ?_))
  refine wpAny_pure ⟨Code.quiet_builtin _ (by decide +kernel), codeAny_builtin F.entry_type_call ?_⟩; rw [Around.under_plain (weight_type_call_type "set" [.ref l] []) rfl]
  have h1 := F.called_set.notType; have h2 := F.called_set.canCreate; have hct := F.typeCall_set_1 (.ref l)
  repeat (any_goals (first | assumption | wp_step))
  refine codeAny_mono (set_made (.ref l) (E := E) (Q₁ := fun obj s₁ => obj = .ref s.heap.objs.size ∧ s₁ = { s with heap := s.heap.push (nObj w) }) ⟨rfl, rfl⟩) fun r s₁ hr => ?_
  cases r with
  | error e => exact hr
  | ok fl =>
    cases fl with
    | ret obj =>
      obtain ⟨rfl, rfl⟩ := hr
      have hS : (s.heap.push (nObj w)).get? s.heap.objs.size = some (nObj w) := Heap.get?_push_size _ rfl
      have hT : Shared.TypeIs { s with heap := s.heap.push (nObj w) } (.ref s.heap.objs.size) "set" := ⟨_, hS, rfl⟩
      have hli := F.called_set.init.lookup; have hbi := F.called_set.init.bind (.ref s.heap.objs.size)
      repeat (any_goals (first | assumption | wp_step))
      refine codeAny_mono (codeAny_call_builtin (R := wants (fun r s₂ => r = .none ∧ ∃ h' tk es, s₂ = { s with heap := h', toks := tk } ∧ IsS prog w κ h' s.heap.objs.size es (ledOf w) ∧ es.size ≤ items.size ∧ (∀ e ∈ es.toList, e.2 ∈ items.toList) ∧ (∀ v ∈ items.toList, ∃ e ∈ es.toList, kv κ e = κ (adr v)) ∧
          (∀ b o, b < s.heap.objs.size → s.heap.get? b = some o → h'.get? b = some o)) E) F.called_set.init.plain F.entry_set_init (check_set_init_1 hT ?_)) fun r₂ s₂ hr₂ => ?_
      · have hlt : l < s.heap.objs.size := by obtain ⟨o, ho, _⟩ := hl; exact Heap.lt_size ho
        have hl1 : (s.heap.push (nObj w)).IsList l items := hl.push _
        have hTl : Shared.TypeIs { s with heap := s.heap.push (nObj w) } (.ref l) "list" := by obtain ⟨o, ho, hc, _⟩ := hl1; exact ⟨o, ho, hc⟩
        have q1 := F.sub_list_set; have q2 := F.sub_list_frozenset; have q3 : (Value.type "list" == Value.type "dict") = false := by decide
        unfold Builtin.«set.__init__» noKeywords Builtin.Frozenset.updateFrom
        generalize hPI : pyIter = PI
        wp_walk
        subst hPI
        refine wpAny_pyIter_list hl1 (wpAny_bind (wpAny_runValue ?_))
        have hs2 : (s.heap.push (nObj w)).objs.size = s.heap.objs.size + 1 := by rw [Heap.size_push]
        have hneI : l ≠ (s.heap.push (nObj w)).objs.size := by rw [hs2]; exact Nat.ne_of_lt (Nat.lt_succ_of_lt hlt)
        have hh3 : A.in1.in1.in1.handled = none := by simp [hh]
        have key : ∀ (i : Nat) (v : Value), items[i]? = some v → ∃ a, v = .ref a ∧ a ∉ [(s.heap.push (nObj w)).objs.size] ∧ a ≠ s.heap.objs.size ∧ TK prog w s.heap (κ a) a := fun i v hv => by
          obtain ⟨a, e, tk⟩ := hk v (by obtain ⟨z, e⟩ := Array.getElem?_eq_some_iff.mp hv; rw [← e]; simp)
          have ha : a < s.heap.objs.size := by obtain ⟨o, _, _, ho, _⟩ := tk; exact Heap.lt_size ho
          exact ⟨a, e, by rw [hs2]; simp; exact Nat.ne_of_lt (Nat.lt_succ_of_lt ha), Nat.ne_of_lt ha, tk⟩
        have kp : ∀ c o, s.heap.get? c = some o → ((s.heap.push (nObj w)).push { cls := .type "list_iterator", data := .fields #[.ref l, .int 0 0] }).get? c = some o := fun c o e => Heap.get?_push_of_some _ (Heap.get?_push_of_some _ e)
        refine loop (h0 := s.heap) (led := ledOf w) ((Walks.list hh3 _ l hneI items).toS) s.heap.objs.size ?nA (by show A.units + 1 + 1 + 1 < cLine; omega) key (fun i v v' q q' => Option.some.inj (q.symm.trans q')) hn ?nB (items.size - 0) 0 _ #[] (by omega) (Nat.zero_le _) ⟨⟨_, Heap.get?_push_size _ rfl, rfl, rfl⟩, hl1.push _⟩
          ⟨0, _, Heap.get?_push_of_some _ hS, fresh_tab _, (fun e he => by cases he), (fun q hq => by cases hq), List.nodup_nil⟩ (Nat.zero_le _) (fun e he => by cases he) (fun j v hj => by omega) (fun c o _ e => kp c o e) ?nD
        case nA =>
          rw [hs2]; simp; exact Nat.ne_of_gt hlt
        case nB =>
          rintro i s' ⟨⟨o, ho, hc, _⟩, _⟩ c hcm o' ho'
          have : c = (s.heap.push (nObj w)).objs.size := by simpa using hcm
          subst this
          rw [ho] at ho'; cases ho'; rw [hc]; decide
        case nD =>
          intro s' es' mv i' z' m' c'
          obtain ⟨h', g', d', tk', os'⟩ := s'
          have eg : g' = s.gens := mv.gens
          have ed : d' = s.drawn := mv.drawn
          have eo : os' = s.os := mv.os
          subst eg ed eo
          refine wpAny_pure (show wpAny _ _ (ret Value.none) _ _ _ from wpAny_pure ⟨rfl, h', tk', es', rfl, i', z', fun e he => ?_, fun v hv => ?_, fun b o hb e => ?_⟩)
          · obtain ⟨j, hj, hp⟩ := m' e he
            obtain ⟨z, e2⟩ := Array.getElem?_eq_some_iff.mp hp
            rw [← e2]; simp
          · obtain ⟨j, hj, e2⟩ := List.mem_iff_getElem.mp hv
            exact c' j v (by simpa using hj) (by rw [← e2]; simp)
          · refine mv.heap b o ?_ (kp b o e)
            rw [hs2]; simp only [List.mem_cons, List.not_mem_nil, or_false, not_or]
            exact ⟨Nat.ne_of_lt hb, Nat.ne_of_lt (Nat.lt_succ_of_lt hb)⟩
      · cases r₂ with
        | error e => exact hr₂
        | ok fl₂ =>
          cases fl₂ with
          | ret r =>
            obtain ⟨rfl, h', tk, es, rfl, i1, i2, i3, i4, i5⟩ := hr₂
            repeat (any_goals (first | assumption | wp_step))
            exact h _ _ _ i1 i2 i3 i4 i5
          | _ => exact hr₂.elim
    | _ => exact hr.elim
end
end TS

set_option Elab.async false
set_option linter.all false
set_option maxRecDepth 100000
set_option maxHeartbeats 4000000
namespace TS
open PySem TB
theorem si_next : Slot "set_iterator" "__next__" "set_iterator.__next__" :=
  .of (owner := "set_iterator") (n := "__next__") (by rw [typeLookup_type, builtinLookup_eq_fast]; kernel_rfl) (by decide +kernel) (by decide +kernel) (by decide +kernel) (by first | exact .inl (by decide +kernel) | exact .inr (by decide +kernel)) (by rw [isSubtype_type]; kernel_rfl)
theorem si_entry : entryFor table "set_iterator.__next__" = some Builtin.«set_iterator.__next__» := entryFor_of_tree (by kernel_rfl)
theorem si_args (a : Value) : argsOk "set_iterator.__next__" ⟨[a], []⟩ := by unfold argsOk; kernel_rfl
theorem si_self : Slot "set_iterator" "__iter__" "set_iterator.__iter__" :=
  .of (owner := "set_iterator") (n := "__iter__") (by rw [typeLookup_type, builtinLookup_eq_fast]; kernel_rfl) (by decide +kernel) (by decide +kernel) (by decide +kernel) (by first | exact .inl (by decide +kernel) | exact .inr (by decide +kernel)) (by rw [isSubtype_type]; kernel_rfl)
theorem si_entry2 : entryFor table "set_iterator.__iter__" = some Builtin.«dict_keyiterator.__iter__» := entryFor_alias (id' := "dict_keyiterator.__iter__") (by kernel_rfl) rfl (by decide +kernel) (by kernel_rfl)
theorem si_args2 (a : Value) : argsOk "set_iterator.__iter__" ⟨[a], []⟩ := by unfold argsOk; kernel_rfl
theorem si_it : entryFor table "set.__iter__" = some Builtin.«frozenset.__iter__» := entryFor_alias (id' := "frozenset.__iter__") (by kernel_rfl) rfl (by decide +kernel) (by kernel_rfl)
theorem erase_perm {α : Type} : ∀ (l : List α) (i : Nat) (h : i < l.length), (l[i] :: l.eraseIdx i).Perm l
  | [], i, h => by simp at h
  | x :: l, 0, h => by simp
  | x :: l, i + 1, h => by
    simp only [List.getElem_cons_succ, List.eraseIdx_cons_succ]
    exact (List.Perm.swap _ _ _).trans (List.Perm.cons x (erase_perm l i (by simpa using h)))
/-- an order picked is an order of the same -/
theorem pick_go {α : Type} (next : Nat → Nat) : ∀ (f k : Nat) (left : List α) (out : Array α), left.length = f → ∃ l, (pickOrder.go next f k left out).toList = out.toList ++ l ∧ l.Perm left
  | 0, k, left, out, h => ⟨[], by simp [pickOrder.go], by rw [List.length_eq_zero_iff.mp h]⟩
  | f + 1, k, left, out, h => by
    have hl : next k % left.length < left.length := Nat.mod_lt _ (by omega)
    unfold pickOrder.go
    rw [List.getElem?_eq_getElem hl]
    dsimp only
    obtain ⟨l, e, p⟩ := pick_go next f (k + 1) (left.eraseIdx (next k % left.length)) (out.push left[next k % left.length]) (by rw [List.length_eraseIdx]; simp [hl]; omega)
    refine ⟨left[next k % left.length] :: l, by rw [e]; simp, (List.Perm.cons _ p).trans ?_⟩
    exact erase_perm left _ hl
theorem pick_perm {α : Type} (next : Nat → Nat) (xs : Array α) : (pickOrder next xs).toList.Perm xs.toList := by
  obtain ⟨l, e, p⟩ := pick_go next xs.size 0 xs.toList #[] (by simp)
  unfold pickOrder
  rw [e]
  simpa using p
/-- the order in which a set is walked -/
def ordW (w : World) (S : Addr) (ep : Nat) (es : Array (Int × Value)) : Array (Int × Value) := if w.params.followText "set-order" = true then pickOrder (w.params.setOrder S ep) es else es
theorem ordW_perm (w : World) (S : Addr) (ep : Nat) (es : Array (Int × Value)) : (ordW w S ep es).toList.Perm es.toList := by
  unfold ordW
  split
  · exact pick_perm _ _
  · exact .refl _
theorem ordW_size (w : World) (S : Addr) (ep : Nat) (es : Array (Int × Value)) : (ordW w S ep es).size = es.size := by simpa using (ordW_perm w S ep es).length_eq
def slotW (w : World) (t : SetTable) (i : Nat) : Nat := if w.params.followText "set-order" = true then 0 else TB.slotAt t.place i
section
variable {prog : Program} {w : World} {A : Around} {E : Value → Shared → Prop} {s : Shared}
def IsSI (w : World) (h : Heap) (I S : Addr) (i n ep : Nat) (t : SetTable) : Prop := ∃ o, h.get? I = some o ∧ o.cls = .type "set_iterator" ∧ o.data = .fields #[.int (slotW w t i) 0, .int i 0, .ref S, .int n 0, .int ep 0]
theorem IsSI.typeIs {I S : Addr} {i n ep : Nat} {t : SetTable} (x : IsSI w s.heap I S i n ep t) : s.TypeIs (.ref I) "set_iterator" := let ⟨o, ho, hc, _⟩ := x; ⟨o, ho, hc⟩
theorem walk_of {S : Addr} {es : Array (Int × Value)} {ep : Nat} {t : SetTable} (ho : s.heap.get? S = some (sObj es ep t)) (T : Tab t es.size (!(w.params.followText "set-order"))) (i : Nat) (hi : i ≤ es.size) {Q : Option (Value × Nat) → Shared → Prop}
    (h : Q (((ordW w S ep es)[i]?).map fun e => (e.2, slotW w t (i + 1))) s) : wpAny (model prog w) A (setNext S (slotW w t i) i ep) Q E s := by
  unfold setNext
  refine wpAny_bind (wpAny_setState_of ho rfl (Tab.ft T) ?_)
  dsimp only
  unfold setsByText
  refine wpAny_bind (wpAny_bind (wpAny_askSetting (wpAny_pure ?_)))
  show wpAny _ _ (if (w.params.followText "set-order") = true then _ else _) _ _ _
  by_cases c : w.params.followText "set-order" = true
  · rw [if_pos c]
    rw [if_neg (by simp)]
    refine wpAny_bind ?_
    unfold setWalk
    refine wpAny_bind (wpAny_setState_of ho rfl (Tab.ft T) ?_)
    dsimp only
    unfold setsByText
    refine wpAny_bind (wpAny_bind (wpAny_askSetting (wpAny_pure ?_)))
    show wpAny _ _ (if (w.params.followText "set-order") = true then _ else _) _ _ _
    rw [if_pos c]
    refine wpAny_bind (wpAny_askSetting (wpAny_pure (wpAny_pure ?_)))
    unfold ordW slotW at h
    rw [if_pos c, if_pos c] at h
    unfold slotW
    rw [if_pos c]
    exact h
  · rw [if_neg c]
    have hl : t.led = true := by rw [T.led]; simpa using c
    have e1 : (!t.plain && decide (es.size > 1)) = false := by rw [T.plain]; rfl
    show wpAny _ _ (if (!t.plain && decide (es.size > 1)) = true then _ else _) _ _ _
    rw [e1]
    rw [if_neg (by decide)]
    show wpAny _ _ ((if (!t.led && !es.isEmpty) = true then _ else pure ()) >>= _) _ _ _
    rw [hl]
    rw [if_neg (by simp)]
    refine wpAny_bind (wpAny_pure ?_)
    unfold ordW slotW at h
    rw [if_neg c, if_neg c] at h
    unfold slotW
    rw [if_neg c, below_slotAt T.up (by rw [T.size]; exact hi)]
    refine wpAny_pure ?_
    rcases Nat.lt_or_ge i es.size with z | z
    · have z2 : i < t.place.size := by rw [T.size]; exact z
      rw [Array.getElem?_eq_getElem z, Array.getElem?_eq_getElem z2]
      rw [Array.getElem?_eq_getElem z] at h
      have : TB.slotAt t.place (i + 1) = t.place[i] + 1 := by unfold TB.slotAt; simp [Array.getD, z2]
      rw [this] at h
      exact h
    · rw [Array.getElem?_eq_none z]
      rw [Array.getElem?_eq_none z] at h
      exact h
/-- so a set's walk goes on -/
theorem si_item {I S : Addr} {i ep : Nat} {es : Array (Int × Value)} {t : SetTable} {e : Int × Value} {Q : Option Value → Shared → Prop} (hit : IsSI w s.heap I S i es.size ep t) (ho : s.heap.get? S = some (sObj es ep t)) (T : Tab t es.size (!(w.params.followText "set-order"))) (hne : S ≠ I)
    (hx : (ordW w S ep es)[i]? = some e) (hQ : ∀ h', IsSI w h' I S (i + 1) es.size ep t → Heap.SameBut I s.heap h' → Q (some e.2) { s with heap := h' }) : wpAny (model prog w) A (pyNext (.ref I)) Q E s := by
  have hlt : i < es.size := by rw [← ordW_size w S ep es]; exact (Array.getElem?_eq_some_iff.mp hx).1
  obtain ⟨o, hi, hc, hd⟩ := id hit
  unfold pyNext
  refine wpAny_bind (wpAny_attempt (wpAny_callSpecial?_slot (name := Str.ofString "__next__") hit.typeIs si_next (wpAny_call_entry si_next hit.typeIs si_entry ?_ (si_args _))))
  unfold Builtin.«set_iterator.__next__»
  refine wpAny_bind (wpAny_pure ?_)
  refine wpAny_bind (wpAny_fieldsOf hi hd ?_)
  dsimp only
  refine wpAny_bind (wpAny_setEntries_of ho rfl (Tab.ft T) ?_)
  rw [if_neg (by simp)]
  simp only [Int.toNat_natCast]
  refine wpAny_bind (walk_of ho T i (Nat.le_of_lt hlt) ?_)
  rw [hx]
  simp only [Option.map_some]
  refine wpAny_bind (wpAny_setField hi hd (by simp) ?_)
  have g1 := Heap.get?_update_self (Obj.mapFields fun x => x.setIfInBounds 0 (rawInt ↑(slotW w t (i + 1)))) hi (Obj.isFreed_of_fields (Obj.data_mapFields hd _))
  have d1 := Obj.data_mapFields hd fun x => x.setIfInBounds 0 (rawInt ↑(slotW w t (i + 1)))
  refine wpAny_bind (wpAny_setField g1 d1 (by simp) (wpAny_pure ⟨e.2, rfl, wpAny_pure (hQ _ ⟨_, Heap.get?_update_self _ g1 (Obj.isFreed_of_fields (Obj.data_mapFields d1 _)), (Obj.cls_mapFields ..).trans ((Obj.cls_mapFields ..).trans hc), ?_⟩ ((Heap.SameBut.update ..).trans (Heap.SameBut.update ..)))⟩))
  rw [Obj.data_mapFields d1]
  simp [rawInt]
theorem si_done {I S : Addr} {ep : Nat} {es : Array (Int × Value)} {t : SetTable} {Q : Option Value → Shared → Prop} (hh : A.handled = none) (hit : IsSI w s.heap I S es.size es.size ep t) (ho : s.heap.get? S = some (sObj es ep t)) (T : Tab t es.size (!(w.params.followText "set-order"))) (hne : S ≠ I)
    (hQ : ∀ h', Heap.ExtBut I s.heap h' → Q none { s with heap := h' }) : wpAny (model prog w) A (pyNext (.ref I)) Q E s := by
  obtain ⟨o, hi, hc, hd⟩ := id hit
  unfold pyNext
  refine wpAny_bind (wpAny_attempt (wpAny_callSpecial?_slot (name := Str.ofString "__next__") hit.typeIs si_next (wpAny_call_entry si_next hit.typeIs si_entry ?_ (si_args _))))
  unfold Builtin.«set_iterator.__next__»
  refine wpAny_bind (wpAny_pure ?_)
  refine wpAny_bind (wpAny_fieldsOf hi hd ?_)
  dsimp only
  refine wpAny_bind (wpAny_setEntries_of ho rfl (Tab.ft T) ?_)
  rw [if_neg (by simp)]
  simp only [Int.toNat_natCast]
  refine wpAny_bind (walk_of ho T es.size (Nat.le_refl _) ?_)
  rw [Array.getElem?_eq_none (by rw [ordW_size]; exact Nat.le_refl _)]
  simp only [Option.map_none]
  refine wpAny_bind (wpAny_setField hi hd (by simp) ?_)
  refine wpAny_bind ?_
  simp only [newExc, newTuple]
  refine wpAny_bind (wpAny_newObj_type (wpAny_bind (m := firstArgMember _ _) (wpAny_of_eq (a := Value.none) (by first | rfl | (simp only [firstArgMember]; rfl)) (wpAny_newObj_type ?_ (by size_fits)))) (by size_fits))
  simp only [raiseNew]
  refine wpAny_bind (wpAny_handled ?_); rw [show A.in1.handled = none from hh]
  refine wpAny_bind (wpAny_pure (wpAny_throw ?_))
  refine wpAny_bind (wpAny_isInstance (b := true) (T := "StopIteration") ⟨_, Heap.get?_push_size _ rfl, rfl⟩ isSubtype_stop (wpAny_pure (hQ _ (((Heap.SameBut.update ..).extBut.push _).push _))))
theorem walks_set (hh : A.handled = none) (I S : Addr) (hne : S ≠ I) (es : Array (Int × Value)) (ep : Nat) (t : SetTable) (T : Tab t es.size (!(w.params.followText "set-order"))) :
    Walks prog w A I [I, S] [I] es.size (fun i v => ((ordW w S ep es).map (·.2))[i]? = some v) (fun i h => IsSI w h I S i es.size ep t ∧ h.get? S = some (sObj es ep t)) where
  sub := fun b hb => by simp at hb; simp [hb]
  frame := fun _ _ _ st hk => ⟨let ⟨o, ho, r⟩ := st.1; ⟨o, hk I (by simp) o ho, r⟩, hk S (by simp) _ st.2⟩
  item := fun i s Q E hi st hQ => by
    have hz : i < (ordW w S ep es).size := by rw [ordW_size]; exact hi
    refine si_item st.1 st.2 T hne (Array.getElem?_eq_getElem hz) fun h' it' sb => ?_
    exact hQ _ h' s.toks (by rw [Array.getElem?_map, Array.getElem?_eq_getElem hz]; rfl) ⟨it', (sb.2 S hne).trans st.2⟩ fun b o hb e => (sb.2 b fun z => hb (by simp [z])).trans e
  done := fun s Q E st hQ => si_done hh st.1 st.2 T hne fun h' he' => hQ h' s.toks fun b o hb e => he' b o (fun h => hb (by simp [h])) e
  self := fun i s Q E st hQ => wpAny_pyIter_slot st.1.typeIs si_self (wpAny_call_entry si_self st.1.typeIs si_entry2 (show wpAny _ _ (ret (.ref I)) _ _ s from wpAny_pure ⟨_, rfl, "set_iterator", _, st.1.typeIs, si_next.lookup, hQ⟩) (si_args2 _))
theorem iter_set {S : Addr} {es : Array (Int × Value)} {ep : Nat} {t : SetTable} {Q : Value → Shared → Prop} (ho : s.heap.get? S = some (sObj es ep t)) (T : Tab t es.size (!(w.params.followText "set-order")))
    (h : Q (.ref s.heap.objs.size) { s with heap := s.heap.push { cls := .type "set_iterator", data := .fields #[.int 0 0, .int 0 0, .ref S, .int es.size 0, .int ep 0] } }) : wpAny (model prog w) A (pyIter (.ref S)) Q E s := by
  have hT : s.TypeIs (.ref S) "set" := ⟨_, ho, rfl⟩
  refine wpAny_pyIter_slot hT F.slot_set_iter (wpAny_call_entry F.slot_set_iter hT si_it ?_ (F.args_set_iter_1 _))
  unfold Builtin.«frozenset.__iter__»
  refine wpAny_bind (m := Builtin.Frozenset.slot0 _ _) (wpAny_pure ?_)
  unfold Builtin.Frozenset.sizeOf
  refine wpAny_bind (wpAny_bind (wpAny_setEntries_of ho rfl (Tab.ft T) (wpAny_pure ?_)))
  unfold setDrawn
  refine wpAny_bind (wpAny_bind (wpAny_setState_of ho rfl (Tab.ft T) ?_))
  dsimp only
  unfold setsByText
  refine wpAny_bind (wpAny_bind (wpAny_askSetting (wpAny_pure (wpAny_pure ?_))))
  show wpAny _ _ (if (!(w.params.followText "set-order") && (!t.plain && decide (es.size > 1))) = true then _ else _) _ _ _
  rw [if_neg (by rw [T.plain]; simp)]
  refine wpAny_bind (wpAny_pure ?_)
  refine wpAny_bind (wpAny_setEpoch_of ho rfl (Tab.ft T) ?_)
  unfold newFields
  refine wpAny_bind (wpAny_newObj_type (wpAny_pure ⟨_, rfl, "set_iterator", _, ⟨_, Heap.get?_push_size _ rfl, rfl⟩, si_next.lookup, ?_⟩))
  simpa [rawInt] using h
theorem hint_set {S : Addr} {Q : Bool → Shared → Prop} (hT : s.TypeIs (.ref S) "set") (h : Q false s) : wpAny (model prog w) A (Builtin.List.listLengthHint (.ref S)) Q E s := by
  unfold Builtin.List.listLengthHint
  refine wpAny_bind (wpAny_specialOf hT F.slot_set_len.lookup ?_)
  generalize hid : ("set.__len__" : String) = id0; wp_delta; rw [show splitId id0 = some ("set", "__len__") from by subst hid; decide +kernel]; subst hid
  refine wpAny_bind (wpAny_isInstance (T := "set") (b := true) hT sub_set_self (wpAny_ite_split (fun hab => absurd hab (by decide)) fun _ => wpAny_ite_split (fun _ => wpAny_bind (wpAny_typeOf hT (wpAny_pure h))) fun hab => absurd (by decide +kernel) hab))
open PySem.W in
theorem src_set {S : Addr} {es : Array (Int × Value)} {ep : Nat} {t : SetTable} (T : Tab t es.size (!(w.params.followText "set-order"))) :
    KdlSrc prog w "set" S S es.size (fun i v => ((ordW w S ep es).map (·.2))[i]? = some v) (fun h => h.get? S = some (sObj es ep t)) where
  type := fun s ok => ⟨_, ok, rfl⟩
  there := fun h ok => ⟨Heap.lt_size ok, Heap.lt_size ok⟩
  keep := fun h h' ok k => k S (.inl rfl) _ ok
  notList := by decide
  notTuple := by decide
  hint := fun A E s Q ok h => hint_set ⟨_, ok, rfl⟩ h
  iter := fun A s hh ok => ⟨{ cls := .type "set_iterator", data := .fields #[.int 0 0, .int 0 0, .ref S, .int es.size 0, .int ep 0] }, _, fun E Q h => iter_set ok T h,
    walks_set hh _ S (Nat.ne_of_lt (Heap.lt_size ok)) es ep t T, ⟨_, Heap.get?_push_size _ rfl, rfl, by
      have : slotW w t 0 = 0 := by unfold slotW; split <;> rfl
      rw [this]; rfl⟩, Heap.get?_push_of_some _ ok⟩
end
end TS

set_option Elab.async false
set_option linter.all false
set_option maxRecDepth 100000
set_option maxHeartbeats 4000000
namespace TS
open PySem TB SR PyProof.Rows PySem.W
/-- a cell's order -/
def PL (a b : Int × Int) : Prop := a.1 < b.1 ∨ (a.1 = b.1 ∧ a.2 ≤ b.2)
def plt (a b : Int × Int) : Bool := decide (a.1 < b.1 ∨ (a.1 = b.1 ∧ a.2 < b.2))
theorem PL.refl (a : Int × Int) : PL a a := .inr ⟨rfl, Int.le_refl _⟩
theorem PL.anti {a b : Int × Int} (h : PL a b) (h' : PL b a) : a = b := by
  unfold PL at h h'
  exact Prod.ext (by omega) (by omega)
theorem PL.trans {a b c : Int × Int} (h : PL a b) (h' : PL b c) : PL a c := by unfold PL at *; omega
theorem plt_false {a b : Int × Int} (h : plt a b = false) : PL b a := by
  unfold plt at h; unfold PL
  have := of_decide_eq_false h
  omega
abbrev Sd (l : List (Int × Int)) : Prop := l.Pairwise PL
theorem sd_eq : ∀ {l m : List (Int × Int)}, l.Perm m → Sd l → Sd m → l = m
  | [], m, p, _, _ => by rw [List.nil_perm.mp p]
  | a :: l, [], p, _, _ => by have := p.length_eq; simp at this
  | a :: l, b :: m, p, h, h' => by
    have ha := List.pairwise_cons.mp h
    have hb := List.pairwise_cons.mp h'
    have e : a = b := by
      refine PL.anti ?_ ?_
      · rcases List.mem_cons.mp (p.mem_iff.mpr (List.mem_cons_self (a := b) (l := m))) with z | z
        · rw [z]; exact .refl _
        · exact ha.1 b z
      · rcases List.mem_cons.mp (p.mem_iff.mp (List.mem_cons_self (a := a) (l := l))) with z | z
        · rw [z]; exact .refl _
        · exact hb.1 a z
    subst e
    rw [sd_eq (List.Perm.cons_inv p) ha.2 hb.2]
/-- a cell at an address, as an object -/
def CO (h : Heap) (c : Addr × Int × Int) : Prop := ∃ o n t u, h.get? c.1 = some o ∧ o.cls = .type "tuple" ∧ o.data = .seq #[.int c.2.1 t, .int c.2.2 u] n
abbrev rf (c : Addr × Int × Int) : Value := .ref c.1
theorem CO.kept {h h' : Heap} {c : Addr × Int × Int} (x : CO h c) (k : ∀ o, h.get? c.1 = some o → h'.get? c.1 = some o) : CO h' c := by
  obtain ⟨o, n, t, u, h1, h2⟩ := x
  exact ⟨o, n, t, u, k o h1, h2⟩
theorem CO.tk {prog : Program} {w : World} {h : Heap} {c : Addr × Int × Int} (x : CO h c) : TK prog w h [c.2.1, c.2.2] c.1 := by
  obtain ⟨o, n, t, u, h1, h2, h3⟩ := x
  exact ⟨o, _, n, h1, h2, h3, .cons (by simp [intKind, Value.isInt]) (.cons (by simp [intKind, Value.isInt]) .nil)⟩
section
variable {prog : Program} {w : World} {A : Around} {E : Value → Shared → Prop} {s : Shared}
theorem lt_cells {c d : Addr × Int × Int} {Q : Bool → Shared → Prop} (hc : CO s.heap c) (hd : CO s.heap d) (h : Q (plt c.2 d.2) s) : wpAny (model prog w) A (keyLt' (tuples' true) (rf c) (rf d)) Q E s := by
  obtain ⟨o, n, t, u, h1, h2, h3⟩ := hc
  obtain ⟨o', n', t', u', h1', h2', h3'⟩ := hd
  refine kat_lt h1 h3 h1' h3' ?_
  show KatLex prog w A true _ Q [(.int c.2.1 t, .int d.2.1 t'), (.int c.2.2 u, .int d.2.2 u')] 0 s
  refine kat_cons (wpAny_eqBool_int ?_)
  unfold plt at h
  by_cases e : c.2.1 = d.2.1
  · rw [show (c.2.1 == d.2.1) = true by simpa using e]
    refine kat_yes (kat_cons (wpAny_eqBool_int ?_))
    by_cases e' : c.2.2 = d.2.2
    · rw [show (c.2.2 == d.2.2) = true by simpa using e']
      refine kat_yes (kat_nil ?_)
      rw [show decide (_ ∨ _) = false from decide_eq_false (by omega)] at h
      exact h
    · rw [show (c.2.2 == d.2.2) = false by simpa using e']
      refine kat_no (kat_one _ _ (lt_int ?_))
      rw [show decide (c.2.1 < d.2.1 ∨ c.2.1 = d.2.1 ∧ c.2.2 < d.2.2) = decide (c.2.2 < d.2.2) from decide_eq_decide.mpr (by omega)] at h
      exact h
  · rw [show (c.2.1 == d.2.1) = false by simpa using e]
    refine kat_no (oneLt_int ?_)
    rw [show decide (c.2.1 < d.2.1 ∨ c.2.1 = d.2.1 ∧ c.2.2 < d.2.2) = decide (c.2.1 < d.2.1) from decide_eq_decide.mpr (by omega)] at h
    exact h
theorem sort_run {cs : List (Addr × Int × Int)} (hco : ∀ c ∈ cs, CO s.heap c) (h2 : 2 ≤ cs.length) (h64 : cs.length < 64) {Q : SortSt → Shared → Prop}
    (h : ∀ (st : SortSt) (cs' : List (Addr × Int × Int)), cs'.Perm cs → Sd (cs'.map (·.2)) → failedOf st = none → (arrOf st).map (·.2) = (cs'.map rf).toArray → Q st s) :
    wpAny (model prog w) A ((sortRuns').run (SortSt.mk' (tuples' true) ((cs.map rf).toArray.zip (cs.map rf).toArray) #[] 7 none)) (fun r s' => Q r.2 s') E s := by
  have dz : ∀ i, (cs.map rf).getD i Value.none = if i < cs.length then rf (cs.getD i (0, 0, 0)) else Value.none := fun i => by
    by_cases c : i < cs.length
    · rw [if_pos c]; simp [c]
    · rw [if_neg c]; simp [Nat.le_of_not_lt c]
  have cm : ∀ i, i < cs.length → CO s.heap (cs.getD i (0, 0, 0)) := fun i hi => hco _ (by simp [hi])
  have lt_ir : ∀ i, plt (cs.getD i (0, 0, 0)).2 (cs.getD i (0, 0, 0)).2 = false := fun i => by unfold plt; exact decide_eq_false (by omega)
  refine kat_run (Q := Q) (G := fun p s' => s' = s ∧ Pm cs.length p ∧ Inc (rank (fun i j => plt (cs.getD i (0, 0, 0)).2 (cs.getD j (0, 0, 0)).2) cs.length) p cs.length) rfl (by simpa using h2) (by simpa using h64) (fun p st' s' hp ha hf hg => ?_) ?_
  · obtain ⟨rfl, pm, inc⟩ := hg
    have pl : p.toList.Perm (List.range cs.length) := by simpa using pm.toList
    refine h st' (p.toList.map fun i => cs.getD i (0, 0, 0)) ?_ ?_ hf ?_
    · refine (pl.map _).trans ?_
      have : (List.range cs.length).map (fun i => cs.getD i (0, 0, 0)) = cs := by
        refine List.ext_getElem (by simp) fun i h1 h2 => ?_
        simp
        rw [List.getElem?_eq_getElem h2]; rfl
      rw [this]
    · rw [List.map_map]
      refine List.pairwise_iff_getElem.mpr fun i j h1 h2 hij => ?_
      have hl : p.toList.length = cs.length := by simpa using pl.length_eq
      rw [List.length_map] at h1 h2
      have q := inc i j (Nat.le_of_lt hij) (by omega)
      unfold Ky at q
      have g1 : p.getD i 0 = p.toList[i] := by simp [Array.getD, show i < p.size by simpa using h1]
      have g2 : p.getD j 0 = p.toList[j] := by simp [Array.getD, show j < p.size by simpa using h2]
      rw [g1, g2] at q
      simp only [List.getElem_map, Function.comp]
      have hj : p.toList[j] < cs.length := List.mem_range.mp (pl.mem_iff.mp (List.getElem_mem _))
      have r := rank_lt (lt := fun i j => plt (cs.getD i (0, 0, 0)).2 (cs.getD j (0, 0, 0)).2) (n := cs.length) (i := p.toList[j]) (j := p.toList[i]) lt_ir (fun i j k => by unfold plt; simp only [decide_eq_true_eq]; omega) (fun i j k => by unfold plt; simp only [decide_eq_true_eq]; omega) hj
      rw [decide_eq_false (by omega)] at r
      exact plt_false r
    · rw [kat_snds rfl ha, List.map_map]
      congr 1
      refine List.map_congr_left fun i hi => ?_
      have hi' : i < cs.length := List.mem_range.mp (pl.mem_iff.mp hi)
      rw [dz, if_pos hi']
      rfl
  · rw [List.length_map]
    refine TW.wp (key := rank (fun i j => plt (cs.getD i (0, 0, 0)).2 (cs.getD j (0, 0, 0)).2) cs.length) (n := cs.length) (fun i j C hi hj hC => ?_) _ (sort_ (by omega) fun p a b => ⟨rfl, a, b⟩)
    unfold kas_ask
    rw [dz, dz, if_pos hi, if_pos hj]
    refine lt_cells (cm i hi) (cm j hj) ?_
    rw [rank_lt (lt := fun i j => plt (cs.getD i (0, 0, 0)).2 (cs.getD j (0, 0, 0)).2) lt_ir (fun i j k => ?_) (fun i j k => ?_) hi]
    · exact hC
    · unfold plt; simp only [decide_eq_true_eq]; omega
    · unfold plt; simp only [decide_eq_true_eq]; omega
end
end TS

set_option Elab.async false
set_option linter.all false
set_option maxRecDepth 100000
set_option maxHeartbeats 4000000
namespace TS
open PySem TB SR PyProof.Rows PySem.W
section
variable {prog : Program} {w : World} {A : Around} {E : Value → Shared → Prop} {s : Shared}
theorem kind_cells {cs : List (Addr × Int × Int)} (hco : ∀ c ∈ cs, CO s.heap c) (h2 : 2 ≤ cs.length) {Q : SortKind → Shared → Prop} (h : Q (tuples' true) s) : wpAny (model prog w) A (keyKind' (cs.map rf).toArray) Q E s := by
  obtain ⟨fs, hf, hi⟩ : ∃ fs : List Value, KatTups s.heap (cs.map rf) fs ∧ fs.length = cs.length ∧ ∀ v ∈ fs, ∃ n t, v = Value.int n t := by
    clear h h2
    induction cs with
    | nil => exact ⟨[], trivial, rfl, fun v hv => by cases hv⟩
    | cons c cs ih =>
      obtain ⟨fs, a, b, d⟩ := ih fun c hc => hco c (.tail _ hc)
      obtain ⟨o, n, t, u, h1, h2, h3⟩ := hco c (.head _)
      refine ⟨.int c.2.1 t :: fs, .cons h1 h2 h3 rfl a, by simp [b], fun v hv => ?_⟩
      rcases List.mem_cons.mp hv with rfl | hv
      · exact ⟨_, _, rfl⟩
      · exact d v hv
  exact kat_kind (T := .type "int") hf (by omega) (fun v hv => by obtain ⟨n, t, rfl⟩ := hi.2 v hv; exact .now) rfl h
theorem sort_list {a : Addr} {cs : List (Addr × Int × Int)} {n : Nat} {P : PySem.Fin → Shared → Prop} (ho : s.heap.get? a = some (seqObj "list" (cs.map rf).toArray n)) (hco : ∀ c ∈ cs, CO s.heap c) (h64 : cs.length < 64)
    (h : ∀ (cs' : List (Addr × Int × Int)) (c : Nat) (h' : Heap), cs'.Perm cs → Sd (cs'.map (·.2)) → (∀ b o, b ≠ a → s.heap.get? b = some o → h'.get? b = some o) → h'.get? a = some (seqObj "list" (cs'.map rf).toArray c) → P (.done (.ret .none)) { s with heap := h' }) :
    wpAny (model prog w) A (Builtin.«list.sort» ⟨[.ref a], []⟩) P E s := by
  have lz : cs.length ≤ sizeLine := by rw [sizeLine_eq]; omega
  rw [list_sort_plain]
  refine wpAny_bind (listItems_at ho rfl (wpAny_bind (listUpdate_at ho rfl ?_ (by simpa using lz) (Nat.zero_le _))))
  obtain ⟨e1, ho1⟩ : ∃ e1, (s.heap.update a (Obj.mapSeq fun _ => (#[] : Array Value))).get? a = some (seqObj "list" #[] e1) := ⟨_, get?_update_seq ho fun _ => #[]⟩
  have k1 : ∀ b o, b ≠ a → s.heap.get? b = some o → (s.heap.update a (Obj.mapSeq fun _ => (#[] : Array Value))).get? b = some o := fun b o hb e => (Heap.get?_update_other _ _ (Ne.symm hb)).trans e
  generalize s.heap.update a (Obj.mapSeq fun _ => (#[] : Array Value)) = g1 at ho1 k1 ⊢
  refine wpAny_bind (seqEpoch_at ho1 rfl (wpAny_bind (wpAny_newTuple (wpAny_bind (wpAny_newList (wpAny_holding ?_) (Nat.zero_le _))) (by simpa using lz))))
  have ho2 := Heap.get?_push_of_some (seqObj "list" #[] 0) (Heap.get?_push_of_some (seqObj "tuple" (cs.map rf).toArray 0) ho1)
  have k2 : ∀ b o, b ≠ a → s.heap.get? b = some o → ((g1.push (seqObj "tuple" (cs.map rf).toArray 0)).push (seqObj "list" #[] 0)).get? b = some o := fun b o hb e => Heap.get?_push_of_some _ (Heap.get?_push_of_some _ (k1 b o hb e))
  show wpAny (model prog w) A _ P E { s with heap := (g1.push (seqObj "tuple" (cs.map rf).toArray 0)).push (seqObj "list" #[] 0) }
  generalize (g1.push (seqObj "tuple" (cs.map rf).toArray 0)).push (seqObj "list" #[] 0) = g2 at ho2 k2 ⊢
  dsimp only
  have hna : ∀ c ∈ cs, c.1 ≠ a := fun c hc z => by
    obtain ⟨o, m, t, u, h1, h2, h3⟩ := hco c hc
    rw [z, ho] at h1; cases h1; exact absurd (show Value.type "list" = Value.type "tuple" from h2) (by decide)
  have hc2 : ∀ c ∈ cs, CO g2 c := fun c hc => (hco c hc).kept fun o e => k2 _ _ (hna c hc) e
  have fin : ∀ (st : SortSt) (cs' : List (Addr × Int × Int)), cs'.Perm cs → Sd (cs'.map (·.2)) → failedOf st = none → (arrOf st).map (·.2) = (cs'.map rf).toArray →
      wpAny (model prog w) A (do
        let touched := (← seqEpoch a) != e1
        Builtin.List.listUpdate (.ref a) fun _ => (arrOf st).map (·.2)
        if let some e := failedOf st then rule "list.sort.comparison-raised"; throw e
        if touched then rule "list.sort.modified"; raiseError "ValueError" "list modified during sort"
        ret .none) P E { s with heap := g2 } := fun st cs' pm sd hf ha => by
    refine wpAny_bind (seqEpoch_at ho2 rfl ?_)
    rw [ha]
    refine wpAny_bind (listUpdate_at ho2 rfl ?_ (Nat.zero_le _) (by simp; rw [pm.length_eq]; exact Nat.le_succ_of_le lz))
    rw [hf]
    simp only [bne_self_eq_false, Bool.false_eq_true, if_false]
    obtain ⟨c, hc⟩ : ∃ c, (g2.update a (Obj.mapSeq fun _ => (cs'.map rf).toArray)).get? a = some (seqObj "list" (cs'.map rf).toArray c) := ⟨_, get?_update_seq ho2 fun _ => (cs'.map rf).toArray⟩
    exact wpAny_pure (h cs' c _ pm sd (fun b o hb e => (Heap.get?_update_other _ _ (Ne.symm hb)).trans (k2 b o hb e)) hc)
  by_cases c2 : (cs.map rf).toArray.size < 2
  · rw [if_pos c2, if_pos c2]
    refine wpAny_bind (wpAny_pure ?_)
    rw [StateT.run_pure]
    refine wpAny_bind (wpAny_pure ?_)
    refine fin (SortSt.mk' general' ((cs.map rf).toArray.zip (cs.map rf).toArray) #[] 7 none) cs (.refl _) ?_ rfl ?_
    · match cs, c2 with
      | [], _ => exact .nil
      | [c], _ => exact List.pairwise_singleton _ _
      | c :: d :: r, c2 => exact absurd c2 (by simp)
    · show (((cs.map rf).toArray.zip (cs.map rf).toArray)).map (·.2) = _
      apply Array.toList_inj.mp
      simp [List.map_snd_zip]
  · rw [if_neg c2, if_neg c2]
    have c3 : 2 ≤ cs.length := by simp at c2; omega
    refine wpAny_bind (kind_cells (s := { s with heap := g2 }) hc2 c3 ?_)
    refine wpAny_bind (wpAny_mono (sort_run (s := { s with heap := g2 }) (Q := fun st s' => s' = { s with heap := g2 } ∧ ∃ cs', cs'.Perm cs ∧ Sd (cs'.map (·.2)) ∧ failedOf st = none ∧ (arrOf st).map (·.2) = (cs'.map rf).toArray) hc2 c3 h64 fun st cs' a b c d => ⟨rfl, cs', a, b, c, d⟩) ?_ fun _ _ e => e)
    rintro ⟨⟨⟩, st⟩ s' ⟨rfl, cs', a1, a2, a3, a4⟩
    exact fin st cs' a1 a2 a3 a4
/-- sorted of what is collected so -/
theorem sorted_call {r : Addr} {m : Nat} {G : List (Addr × Int × Int) → Prop} {Q : Value → Shared → Prop}
    (hcol : ∀ R : List Value → Shared → Prop, (∀ (h' : Heap) (tk : Nat) (cs : List (Addr × Int × Int)), m ≤ h'.objs.size → (∀ b o, s.heap.get? b = some o → h'.get? b = some o) → (∀ c ∈ cs, CO h' c) → cs.length < 64 → G cs → R (cs.map rf) { s with heap := h', toks := tk }) → wpAny (model prog w) A.in1 (collect (.ref r)) R E s)
    (h : ∀ (cs cs' : List (Addr × Int × Int)) (c tk : Nat) (h' : Heap) (D : Addr), G cs → cs.length < 64 → cs'.Perm cs → Sd (cs'.map (·.2)) → m ≤ D → (∀ b o, s.heap.get? b = some o → h'.get? b = some o) → h'.get? D = some (seqObj "list" (cs'.map rf).toArray c) → Q (.ref D) { s with heap := h', toks := tk }) :
    wpAny (model prog w) A (call (.builtin "sorted") [.ref r]) Q E s := by
  refine Calls.call_function_entry kind_sorted plain_sorted entry_sorted (args_sorted1 _) ?_
  unfold Builtin.«sorted»
  refine wpAny_bind (m := checkCount "sorted" 1 1 _) (wpAny_pure (wpAny_bind (hcol _ fun h' tk cs sz kp hco h64 hg => ?_)))
  have lz : cs.length ≤ sizeLine := by rw [sizeLine_eq]; omega
  refine wpAny_bind (wpAny_newList ?_ (by simpa using lz))
  have hoL : (h'.push (seqObj "list" (cs.map rf).toArray 0)).get? h'.objs.size = some (seqObj "list" (cs.map rf).toArray 0) := Heap.get?_push_size _ rfl
  have k0 : ∀ b o, h'.get? b = some o → (h'.push (seqObj "list" (cs.map rf).toArray 0)).get? b = some o := fun b o e => Heap.get?_push_of_some _ e
  refine wpAny_bind (wpAny_holding (wpAny_call_entry slot_list_sort ⟨_, hoL, rfl⟩ entry_list_sort (sort_list (s := { s with heap := h'.push (seqObj "list" (cs.map rf).toArray 0), toks := tk }) hoL (fun c hc => (hco c hc).kept fun o e => k0 _ _ e) h64 fun cs' c h2 pm sd k2 hD => ⟨_, rfl, ?_⟩) (args_list_sort _)))
  exact wpAny_pure ⟨_, rfl, h cs cs' c tk h2 _ hg h64 pm sd sz (fun b o e => k2 b o (Nat.ne_of_lt (Heap.lt_size (kp b o e))) (k0 b o (kp b o e))) hD⟩
theorem col_list {l : Addr} {cs : List (Addr × Int × Int)} (hl : s.heap.IsList l (cs.map rf).toArray) (hco : ∀ c ∈ cs, CO s.heap c) (h64 : cs.length < 64) :
    ∀ R : List Value → Shared → Prop, (∀ (h' : Heap) (tk : Nat) (cs' : List (Addr × Int × Int)), s.heap.objs.size ≤ h'.objs.size → (∀ b o, s.heap.get? b = some o → h'.get? b = some o) → (∀ c ∈ cs', CO h' c) → cs'.length < 64 → cs' = cs → R (cs'.map rf) { s with heap := h', toks := tk }) → wpAny (model prog w) A (collect (.ref l)) R E s := by
  intro R h
  refine collect_list hl ?_ (by rw [sizeLine_eq]; simp; omega)
  have kp : ∀ b o, s.heap.get? b = some o → ((s.heap.push (seqObj "list" #[] 0)).update s.heap.objs.size (Obj.mapSeq (· ++ (cs.map rf).toArray))).get? b = some o := fun b o e => (Heap.get?_update_other _ _ (Ne.symm (Nat.ne_of_lt (Heap.lt_size e)))).trans (Heap.get?_push_of_some _ e)
  exact h _ s.toks cs (by rw [Heap.size_update, size_push']; omega) kp (fun c hc => (hco c hc).kept fun o e => kp _ _ e) h64 rfl
theorem col_set {κ : Addr → List Int} {S : Addr} {es : Array (Int × Value)} {cs : List (Addr × Int × Int)} (hh : A.handled = none) (hS : IsS prog w κ s.heap S es (ledOf w)) (hco : ∀ c ∈ cs, CO s.heap c) (hκ : ∀ c ∈ cs, κ c.1 = [c.2.1, c.2.2]) (he : ∀ e ∈ es.toList, ∃ c ∈ cs, e.2 = rf c) (hz : es.size < 64) :
    ∀ R : List Value → Shared → Prop, (∀ (h' : Heap) (tk : Nat) (cs' : List (Addr × Int × Int)), S + 1 ≤ h'.objs.size → (∀ b o, s.heap.get? b = some o → h'.get? b = some o) → (∀ c ∈ cs', CO h' c) → cs'.length < 64 → (cs'.length = es.size ∧ (∀ c ∈ cs', c ∈ cs) ∧ (cs'.map (·.2)).Nodup ∧ ∀ e ∈ es.toList, ∃ c ∈ cs', e.2 = rf c) → R (cs'.map rf) { s with heap := h', toks := tk }) → wpAny (model prog w) A (collect (.ref S)) R E s := by
  intro R h
  obtain ⟨ep, t, ho, T, _, _, nd⟩ := hS
  refine kdu_collect (src_set T) hh ho (by rw [sizeLine_eq]; omega) fun h' tk acc kp it => ?_
  have ea : acc.toList = ((ordW w S ep es).map (·.2)).toList := by
    refine List.ext_getElem? fun i => ?_
    rcases Nat.lt_or_ge i acc.size with z | z
    · have e1 := it.2 i acc[i] (Array.getElem?_eq_getElem z)
      rw [Array.getElem?_toList, Array.getElem?_eq_getElem z, Array.getElem?_toList, e1]
    · rw [List.getElem?_eq_none (by simpa using z), List.getElem?_eq_none (by simp [ordW_size]; rw [← it.1]; exact z)]
  obtain ⟨cs', e1, e2⟩ : ∃ cs' : List (Addr × Int × Int), acc.toList = cs'.map rf ∧ ∀ c ∈ cs', c ∈ cs := by
    have al : ∀ v ∈ acc.toList, ∃ c ∈ cs, v = rf c := fun v hv => by
      rw [ea] at hv
      obtain ⟨e, hm, rfl⟩ := List.mem_map.mp (by simpa using hv : v ∈ (ordW w S ep es).toList.map (·.2))
      exact he _ ((ordW_perm w S ep es).mem_iff.mp hm)
    generalize acc.toList = l at al
    clear ea
    induction l with
    | nil => exact ⟨[], rfl, fun c hc => by cases hc⟩
    | cons v l ih =>
      obtain ⟨c, hc, e⟩ := al v (.head _)
      obtain ⟨r, e1, e2⟩ := ih fun u hu => al u (.tail _ hu)
      refine ⟨c :: r, by rw [e, e1]; rfl, fun d hd => ?_⟩
      rcases List.mem_cons.mp hd with rfl | hd
      · exact hc
      · exact e2 d hd
  have ln : cs'.length = es.size := by
    have h1 : acc.toList.length = cs'.length := by rw [e1, List.length_map]
    rw [← h1, Array.length_toList]; exact it.1
  have pm : (cs'.map rf).Perm (es.toList.map (·.2)) := by
    rw [← e1, ea, Array.toList_map]
    exact (ordW_perm w S ep es).map _
  have nk : (cs'.map fun c => [c.2.1, c.2.2]).Nodup := by
    have p2 : (cs'.map fun c => [c.2.1, c.2.2]).Perm (es.toList.map (kv κ)) := by
      have p3 := pm.map (fun v => κ (adr v))
      rw [List.map_map, List.map_map] at p3
      have e4 : cs'.map ((fun v => κ (adr v)) ∘ rf) = cs'.map fun c => [c.2.1, c.2.2] := List.map_congr_left fun c hc => hκ c (e2 c hc)
      rw [e4] at p3
      exact p3
    exact p2.nodup_iff.mpr nd
  have ns : (cs'.map (·.2)).Nodup := by
    have nk' : ((cs'.map (·.2)).map fun p : Int × Int => [p.1, p.2]).Nodup := by rw [List.map_map]; exact nk
    exact (List.pairwise_map.mp nk').imp fun {a b} h e => h (by rw [e])
  rw [e1]
  refine h h' tk cs' (Heap.lt_size (kp S _ ho)) kp (fun c hc => (hco c (e2 c hc)).kept fun o e => kp _ _ e) (by omega) ⟨ln, e2, ns, fun e hm => ?_⟩
  obtain ⟨c, hc, q⟩ := List.mem_map.mp (pm.mem_iff.mpr (List.mem_map.mpr ⟨e, hm, rfl⟩))
  exact ⟨c, hc, q.symm⟩
end
end TS

set_option Elab.async false
set_option linter.all false
set_option maxRecDepth 100000
set_option maxHeartbeats 4000000
namespace L2
open PySem PySem.Spec PyProof.Rows TS
/-- cells, by address -/
abbrev rv (cs : List (Addr × Int × Int)) : List V := cs.map fun c => V.ref c.1
def CH (H : Hp) (c : Addr × Int × Int) : Prop := H c.1 = some (.tup [.int c.2.1, .int c.2.2])
section
variable {X : Cx} {K : PySem.W.Frag} {pins : List (Addr × Obj)} {σ : St} {H : Hp} {s : Shared}
theorem CH.co {c : Addr × Int × Int} (I : Inv X pins σ H s) (h : CH H c) : CO s.heap c := by
  obtain ⟨_, its, r, o, ho, hc, n, hd⟩ := (show ObjOk X.prog X.w H s.heap c.1 (.tup _) from I.hok _ _ h)
  obtain ⟨u, v, rfl, ⟨t, rfl⟩, ⟨t', rfl⟩⟩ := vals2 r
  exact ⟨o, n, t, t', ho, hc, hd⟩
theorem vals_rv : ∀ {cs : List (Addr × Int × Int)} {us : List Value}, Vals (rv cs) us → us = cs.map rf
  | [], _, .nil => rfl
  | c :: cs, _, .cons r1 r2 => by rw [vals_rv r2]; cases r1; rfl
theorem rv_vals : ∀ (cs : List (Addr × Int × Int)), Vals (rv cs) (cs.map rf)
  | [] => .nil
  | c :: cs => .cons rfl (rv_vals cs)
/-- sorted of a list of cells -/
def rSrt (K : PySem.W.Frag) : List V → Hp → VK → Prop := fun xs H Q => ∃ p cs, xs = [.ref p] ∧ SqL K H p (rv cs) ∧ (∀ c ∈ cs, CH H c) ∧ cs.length < 64 ∧ ∀ l cs', H l = none → cs'.Perm cs → Sd (cs'.map (·.2)) → Q (.ref l) (upd H l (.lst (rv cs')))
theorem call_srt (hK : X.K = K := by rfl) : CallR X (.builtin "sorted") (rSrt K) := by
  subst hK
  intro pins s σ H xs us Q I r h
  obtain ⟨p, cs, rfl, hq, hc, h64, q⟩ := h
  obtain ⟨u, rfl, rx⟩ := vals1 r
  cases rx
  obtain ⟨its, rv', pl, hz⟩ := I.list hq
  obtain rfl := vals_rv rv'
  refine sorted_call (m := s.heap.objs.size) (G := fun cs' => cs' = cs) (col_list pl.isList (fun c hm => (hc c hm).co I) h64) fun cs1 cs' c tk h' D e1 l1 pm sd mD kp hD => ?_
  subst e1
  have len : (rv cs').length ≤ sizeLine := by rw [List.length_map, pm.length_eq, sizeLine_eq]; omega
  exact ⟨.ref D, _, I.laid (t' := tk) kp mD (show ObjOk X.prog X.w _ h' _ (.lst (rv cs')) from ⟨len, _, c, rv_vals cs', hD⟩), rfl, q D cs' (I.hok.fresh mD) pm sd⟩
/-- sorted(set(e)) -/
def tSS (K : PySem.W.Frag) (te : TE) : TE := fun σ H Q => te σ H fun x H1 => ∃ a cs, x = .ref a ∧ SqL K H1 a (rv cs) ∧ (∀ c ∈ cs, CH H1 c) ∧ cs.length < 64 ∧
  ∀ l cs', H1 l = none → cs'.length ≤ cs.length → (∀ c ∈ cs', c ∈ cs) → Sd (cs'.map (·.2)) → ((cs'.map (·.2)).Nodup ∧ ∀ c ∈ cs, c.2 ∈ cs'.map (·.2)) → Q (.ref l) (upd H1 l (.lst (rv cs')))
theorem ch_eq {c d : Addr × Int × Int} (h : CH H c) (h' : CH H d) (e : c.1 = d.1) : c = d := by
  unfold CH at h h'
  rw [e, h'] at h
  have : [V.int d.2.1, V.int d.2.2] = [V.int c.2.1, V.int c.2.2] := HO.tup.inj (Option.some.inj h)
  simp only [List.cons.injEq, V.int.injEq] at this
  exact Prod.ext e (Prod.ext this.1.symm this.2.1.symm)
/-- the keys that cells have -/
def kOf (cs : List (Addr × Int × Int)) (a : Addr) : List Int := ((cs.find? fun c => c.1 == a).map fun c => [c.2.1, c.2.2]).getD []
theorem kOf_is {cs : List (Addr × Int × Int)} (h : ∀ c ∈ cs, CH H c) {c : Addr × Int × Int} (hc : c ∈ cs) : kOf cs c.1 = [c.2.1, c.2.2] := by
  unfold kOf
  cases e : cs.find? fun d => d.1 == c.1 with
  | none => have := List.find?_eq_none.mp e c hc; simp at this
  | some d =>
    have h1 : d.1 = c.1 := by simpa using List.find?_some e
    rw [ch_eq (h d (List.mem_of_find?_eq_some e)) (h c hc) h1]
    rfl
theorem pe_ss {e : Expr} {te : TE} {p p2 pos pos2 : Pos} (hc : X.calm = true) (hu : X.A.units + 64 < cLine) (he : PE X e te) (hgs : Gl X "sorted") (hms : X.mg "sorted" = none) (hgt : Gl X "set") (hmt : X.mg "set" = none)
    (hs : starEach [e] X.env = [(false, eval e X.env)] := by rfl)
    (hs2 : starEach [Expr.Call (.Name "set" p2) [e] [] pos2] X.env = [(false, eval (.Call (.Name "set" p2) [e] [] pos2) X.env)] := by rfl) :
    PE X (.Call (.Name "sorted" p) [.Call (.Name "set" p2) [e] [] pos2] [] pos) (tSS X.K te) := by
  intro pins s σ H Q I h
  refine wpAny_Call_Name_kw (ld_blt I hgs hms PyProof.Rows.boot_sorted ?_)
  refine PyProof.Rows.callWith_builtin1 ?_ hs2 rfl
  rw [hs2]
  show wpAny _ _ (spliced ((false, eval (.Call (.Name "set" p2) [e] [] pos2) X.env) :: backTo pos [])) _ _ s
  refine Calls.spliced_cons ?_
  refine wpAny_Call_Name_kw (ld_blt I hgt hmt PyProof.Rows.boot_set ?_)
  refine PyProof.Rows.callWith_type1 ?_ hs rfl
  rw [hs]
  show wpAny _ _ (spliced ((false, eval e X.env) :: backTo pos2 [])) _ _ s
  refine Calls.spliced_cons (thn (he pins s σ H _ I h) fun u s1 ⟨x, H1, I1, r1, a, cs, ex, hq, hch, h64, q⟩ => ?_)
  subst ex
  cases r1
  refine Calls.spliced_nil ?_
  obtain ⟨its, rvx, pl, hz⟩ := I1.list hq
  obtain rfl := vals_rv rvx
  have kk : ∀ c ∈ cs, kOf cs c.1 = [c.2.1, c.2.2] := fun c hc => kOf_is hch hc
  refine set_call (κ := kOf cs) (items := (cs.map rf).toArray) (I.ok.hd hc) pl.isList (by omega) (by simp; omega) (fun v hv => ?_) fun h1 tk1 es i1 z1 m1 cv k1 => ?_
  · obtain ⟨c, hm, rfl⟩ := List.mem_map.mp (show v ∈ cs.map rf from hv)
    exact ⟨c.1, rfl, by rw [kk c hm]; exact ((hch c hm).co I1).tk⟩
  refine Calls.spliced_nil ?_
  have k1' : ∀ b o, s1.heap.get? b = some o → h1.get? b = some o := fun b o e => k1 b o (Heap.lt_size e) e
  refine sorted_call (s := { s1 with heap := h1, toks := tk1 }) (m := s1.heap.objs.size + 1) (G := fun cs' => cs'.length = es.size ∧ (∀ c ∈ cs', c ∈ cs) ∧ (cs'.map (·.2)).Nodup ∧ ∀ e ∈ es.toList, ∃ c ∈ cs', e.2 = rf c) (col_set (A := X.A.in1) (s := { s1 with heap := h1, toks := tk1 }) (I.ok.hd hc) i1 (fun c hm => ((hch c hm).co I1).kept fun o e => k1' _ _ e) kk (fun e hm => ?_) (by simp at z1; omega)) fun cs1 cs' c tk h' D e1 l1 pm sd mD kp hD => ?_
  · obtain ⟨c, hm, e2⟩ := List.mem_map.mp (show e.2 ∈ cs.map rf from m1 e hm)
    exact ⟨c, hm, e2.symm⟩
  have ln : cs'.length ≤ cs.length := by rw [pm.length_eq, e1.1]; simpa using z1
  have len : (rv cs').length ≤ sizeLine := by rw [List.length_map, sizeLine_eq]; omega
  have mD' : s1.heap.objs.size ≤ D := Nat.le_of_succ_le mD
  refine ⟨.ref D, _, I1.laid (t' := tk) (fun b o e => kp b o (k1' b o e)) mD' (show ObjOk X.prog X.w _ h' _ (.lst (rv cs')) from ⟨len, _, c, rv_vals cs', hD⟩), rfl, q D cs' (I1.hok.fresh mD') ln (fun c hc => e1.2.1 c (pm.mem_iff.mp hc)) sd ⟨(pm.map _).nodup_iff.mpr e1.2.2.1, fun c0 hc0 => ?_⟩⟩
  obtain ⟨e, hm, ek⟩ := cv (rf c0) (show rf c0 ∈ cs.map rf from List.mem_map.mpr ⟨c0, hc0, rfl⟩)
  obtain ⟨c2, hc2, e2⟩ := e1.2.2.2 e hm
  have ek2 : kOf cs c2.1 = kOf cs c0.1 := by
    unfold kv at ek
    rw [e2] at ek
    exact ek
  rw [kk c2 (e1.2.1 c2 hc2), kk c0 hc0] at ek2
  simp only [List.cons.injEq] at ek2
  exact List.mem_map.mpr ⟨c2, pm.mem_iff.mpr hc2, Prod.ext ek2.1 ek2.2.1⟩
theorem qss {e : Expr} {te : TE} {p p2 pos pos2 : Pos} (hc : X.calm = true) (hu : X.A.units + 64 < cLine) (he : SE X e te) (hgs : Gl X "sorted") (hms : X.mg "sorted" = none) (hgt : Gl X "set") (hmt : X.mg "set" = none) (h : nst e = true := by rfl) (hK : X.K = K := by rfl) :
    SE X (.Call (.Name "sorted" p) [.Call (.Name "set" p2) [e] [] pos2] [] pos) (tSS K te) := by subst hK; exact ⟨pe_ss hc hu he.h hgs hms hgt hmt (star_of h) rfl⟩
end
end L2

set_option Elab.async false
set_option linter.all false
set_option maxRecDepth 100000
set_option maxHeartbeats 4000000
namespace TS
open PySem PyProof.Rows
section
variable {prog : Program} {w : World} {A : Around} {R : Result → Shared → Prop} {I : Addr} {fp wr : List Addr} {n : Nat} {P : Nat → Value → Prop} {St : Nat → Heap → Prop}
theorem maxd_loop (W : Walks prog w A.in1 I fp wr n P St) (val : Nat → Int) (hval : ∀ i v, P i v → ∃ t, v = .int (val i) t) (S : Addr) (hSf : S ∉ fp) (kw : List (Str × Value)) :
    ∀ (k j : Nat) (s : Shared) (m : Int) (t : Tok) (c : Nat), n - (j + 1) = k → j + 1 ≤ n → St (j + 1) s.heap → (∃ i, i ≤ j ∧ m = val i) → (∀ i, i ≤ j → val i ≤ m) →
      s.heap.get? S = some { cls := .type "list", dict := none, data := .seq #[.int m t, .int m t] c, slots := #[] } →
      (∀ m t h' tk, (∃ i, i < n ∧ m = val i) → (∀ i, i < n → val i ≤ m) → (∀ b o, b ∉ wr → b ≠ S → s.heap.get? b = some o → h'.get? b = some o) → R (.ok (.ret (.int m t))) { s with heap := h', toks := tk }) →
      codeAny (model prog w) A (.builtin "max.loop" ⟨[.ref I, .none, .ref S], kw⟩) R s := by
  have hSw : S ∉ wr := fun h => hSf (W.sub _ h)
  have nm : (toString "max" ++ toString ".loop" : String) = "max.loop" := by decide
  intro k
  induction k with
  | zero =>
    intro j s m t c hk hj hst hm hle hS hR
    have hin : j + 1 = n := by omega
    refine codeAny_builtin PySem.F.entry_max_loop ?_
    rw [Around.under_plainId PySem.F.plain_max_loop _]
    refine (show wpAny _ A.in1 (seqItems? (.ref S) >>= _) _ _ s from wpAny_bind (wpAny_seqItems hS rfl (show wpAny _ A.in1 (tryCatch (pyNext (.ref I)) _ >>= _) _ _ s from wpAny_bind (wpAny_tryCatch (W.done s _ _ (hin ▸ hst) fun h' tk hk' => ?_)))))
    have hS' := hk' S _ hSw hS
    refine (show wpAny _ A.in1 (updateSeq S (fun _ => #[]) >>= _) _ _ _ from wpAny_bind (wpAny_updateSeq hS' rfl (wpAny_bind (wpAny_letGo (wpAny_pure ?_)))))
    obtain ⟨i, hi, rfl⟩ := hm
    exact hR _ t _ tk ⟨i, by omega, rfl⟩ (fun i hi => hle i (by omega)) fun b o hbw hbS e => (Heap.get?_update_other _ _ (Ne.symm hbS)).trans (hk' b o hbw e)
  | succ k ih =>
    intro j s m t c hk hj hst hm hle hS hR
    refine codeAny_builtin PySem.F.entry_max_loop ?_
    rw [Around.under_plainId PySem.F.plain_max_loop _]
    refine (show wpAny _ A.in1 (seqItems? (.ref S) >>= _) _ _ s from wpAny_bind (wpAny_seqItems hS rfl (show wpAny _ A.in1 (tryCatch (pyNext (.ref I)) _ >>= _) _ _ s from wpAny_bind (wpAny_tryCatch (W.item (j + 1) s _ _ (by omega) hst fun v h' tk hp hst' hk' => ?_)))))
    obtain ⟨tv, rfl⟩ := hval _ _ hp
    have hS' := hk' S _ hSw hS
    refine (show wpAny _ A.in1 (tryCatch (holding [_, _] (richCompare .Gt (.int (val (j + 1)) tv) (.int m t) >>= _)) _ >>= _) _ _ _ from wpAny_bind (wpAny_tryCatch (wpAny_holding (wpAny_bind (show wpAny _ _ (compareOp .Gt _ _) _ _ _ from gt_int (wpAny_bind (wpAny_holding (wpAny_truthy_bool (wpAny_bind (wpAny_letGo (wpAny_pure ?_)))))))))))
    by_cases c1 : m < val (j + 1)
    · rw [decide_eq_true c1]
      simp only [if_true]
      refine wpAny_bind (wpAny_updateSeq hS' rfl (wpAny_bind (wpAny_letGo ?_)))
      rw [nm]
      refine wpAny_pure ⟨plainId_quiet PySem.F.plain_max_loop _, ih (j + 1) _ (val (j + 1)) tv _ (by omega) (by omega) (W.frame _ _ _ hst' fun b hb o e => ?_) ⟨j + 1, Nat.le_refl _, rfl⟩ (fun i hi => ?_) (Heap.get?_update_self _ hS' rfl) fun m' t' h2 tk2 a b kp => ?_⟩
      · exact (Heap.get?_update_other _ _ (fun h : S = b => hSf (by rw [h]; exact hb))).trans e
      · rcases Nat.lt_or_ge i (j + 1) with z | z
        · have := hle i (by omega); omega
        · rw [show i = j + 1 by omega]; exact Int.le_refl _
      · exact hR m' t' h2 tk2 a b fun b o hbw hbS e => kp b o hbw hbS ((Heap.get?_update_other _ _ (Ne.symm hbS)).trans (hk' b o hbw e))
    · rw [decide_eq_false c1]
      simp only [Bool.false_eq_true, if_false]
      refine wpAny_bind (wpAny_letGo ?_)
      rw [nm]
      refine wpAny_pure ⟨plainId_quiet PySem.F.plain_max_loop _, ih (j + 1) _ m t _ (by omega) (by omega) hst' (by obtain ⟨i, hi, e⟩ := hm; exact ⟨i, by omega, e⟩) (fun i hi => ?_) hS' fun m' t' h2 tk2 a b kp => ?_⟩
      · rcases Nat.lt_or_ge i (j + 1) with z | z
        · exact hle i (by omega)
        · rw [show i = j + 1 by omega]; omega
      · exact hR m' t' h2 tk2 a b fun b o hbw hbS e => kp b o hbw hbS (hk' b o hbw e)
end
section
variable {prog : Program} {w : World} {A : Around} {E : Value → Shared → Prop} {s : Shared}
theorem args_maxd (a d : Value) : argsOk "max" ⟨[a], [("default", d)]⟩ := by unfold argsOk; kernel_rfl
theorem maxd_call {l : Addr} {items : Array Value} {d : Value} {Q : Value → Shared → Prop} (hh : A.handled = none) (hl : s.heap.IsList l items) (val : Nat → Int) (hval : ∀ (i : Nat) (v : Value), items[i]? = some v → ∃ t : Tok, v = Value.int (val i) t)
    (h0 : items.size = 0 → ∀ h' tk, (∀ b o, s.heap.get? b = some o → h'.get? b = some o) → Q d { s with heap := h', toks := tk })
    (h1 : ∀ m t h' tk, (∃ i, i < items.size ∧ m = val i) → (∀ i, i < items.size → val i ≤ m) → (∀ b o, s.heap.get? b = some o → h'.get? b = some o) → Q (.int m t) { s with heap := h', toks := tk }) :
    wpAny (model prog w) A (call (.builtin "max") [.ref l] [("default", d)]) Q E s := by
  have nm : (toString "max" ++ toString ".loop" : String) = "max.loop" := by decide
  have hlt : l < s.heap.objs.size := by obtain ⟨o, ho, _⟩ := hl; exact Heap.lt_size ho
  have ha := args_maxd (.ref l) d
  refine wpAny_call (codeAny_call_builtin PySem.F.plain_max PySem.F.entry_max ?_)
  have body : wpAny (model prog w) A.in1 (Builtin.«max» ⟨[.ref l], [("default", d)]⟩) (fun fin s' => match fin with
      | .done f => (match (Except.ok f : Result) with | .ok (.ret v) => Q v s' | .ok _ => False | .error e => E e s')
      | .again c' => c'.quiet = true ∧ codeAny (model prog w) A c' (fun r s' => match r with | .ok (.ret v) => Q v s' | .ok _ => False | .error e => E e s') s') E s := by
    refine (show wpAny _ A.in1 (Builtin.Builtins.bindParams "max" ["key", "default"] 0 ⟨[], [("default", d)]⟩ >>= _) _ _ s from wpAny_bind (wpAny_of_eq (show Builtin.Builtins.bindParams "max" ["key", "default"] 0 ⟨[], [("default", d)]⟩ = pure [none, some d] from rfl) (wpAny_bind (wpAny_pure ?_))))
    refine wpAny_bind (wpAny_pyIter_list hl (wpAny_bind (wpAny_newObj_type ?_)))
    rw [nm]
    generalize hg : (s.heap.push { cls := .type "list_iterator", data := .fields #[.ref l, .int 0 0] }) = g
    have gz : g.objs.size = s.heap.objs.size + 1 := by rw [← hg, Heap.size_push]
    have gi : g.get? s.heap.objs.size = some { cls := .type "list_iterator", data := .fields #[.ref l, .int 0 0] } := by rw [← hg]; exact Heap.get?_push_size _ rfl
    have gk : ∀ b o, s.heap.get? b = some o → g.get? b = some o := fun b o e => by rw [← hg]; exact Heap.get?_push_of_some _ e
    have hne : l ≠ s.heap.objs.size := Nat.ne_of_lt hlt
    have hS : (g.push { cls := .type "list", data := .seq ([] : List Value).toArray }).get? g.objs.size = some { cls := .type "list", data := .seq ([] : List Value).toArray } := Heap.get?_push_size _ rfl
    have W := Walks.list (prog := prog) (w := w) (A := A.in1) hh s.heap.objs.size l hne items
    have st : (g.push { cls := .type "list", data := .seq ([] : List Value).toArray }).IsListIter s.heap.objs.size l 0 ∧ (g.push { cls := .type "list", data := .seq ([] : List Value).toArray }).IsList l items :=
      ⟨⟨_, Heap.get?_push_of_some _ gi, rfl, rfl⟩, hl.at fun o e => Heap.get?_push_of_some _ (gk _ _ e)⟩
    have hSf : g.objs.size ∉ [s.heap.objs.size, l] := fun hm => by
      rw [gz] at hm
      rcases List.mem_cons.mp hm with z | z
      · exact absurd z (Nat.ne_of_gt (Nat.lt_succ_self _))
      · exact absurd (List.mem_singleton.mp z) (Nat.ne_of_gt (Nat.lt_succ_of_lt hlt))
    have hSw : g.objs.size ∉ [s.heap.objs.size] := by rw [gz]; simp
    have kk : ∀ b o, s.heap.get? b = some o → (g.push { cls := .type "list", data := .seq ([] : List Value).toArray }).get? b = some o := fun b o e => Heap.get?_push_of_some _ (gk b o e)
    have nn : ∀ b o, s.heap.get? b = some o → b ∉ [s.heap.objs.size] ∧ b ≠ g.objs.size := fun b o e => ⟨fun hm => Nat.ne_of_lt (Heap.lt_size e) (List.mem_singleton.mp hm), by rw [gz]; exact Nat.ne_of_lt (Nat.lt_succ_of_lt (Heap.lt_size e))⟩
    refine wpAny_pure ⟨plainId_quiet PySem.F.plain_max_loop _, codeAny_builtin PySem.F.entry_max_loop ?_⟩
    rw [Around.under_plainId PySem.F.plain_max_loop _]
    rcases Nat.eq_zero_or_pos items.size with z | z
    · refine (show wpAny _ A.in1 (seqItems? (.ref g.objs.size) >>= _) _ _ _ from wpAny_bind (wpAny_seqItems hS rfl (show wpAny _ A.in1 (tryCatch (pyNext (.ref s.heap.objs.size)) _ >>= _) _ _ _ from wpAny_bind (wpAny_tryCatch (W.done _ _ _ (by rw [z]; exact st) fun h' tk hk' => ?_)))))
      exact wpAny_bind (wpAny_rule (wpAny_pure (h0 z h' tk fun b o e => hk' b o (nn b o e).1 (kk b o e))))
    · refine (show wpAny _ A.in1 (seqItems? (.ref g.objs.size) >>= _) _ _ _ from wpAny_bind (wpAny_seqItems hS rfl (show wpAny _ A.in1 (tryCatch (pyNext (.ref s.heap.objs.size)) _ >>= _) _ _ _ from wpAny_bind (wpAny_tryCatch (W.item 0 _ _ _ z st fun v h' tk hp hst' hk' => ?_)))))
      obtain ⟨tv, rfl⟩ := hval _ _ hp
      have hS' := hk' g.objs.size _ hSw hS
      refine (show wpAny _ A.in1 (updateSeq g.objs.size (fun _ => #[_, _]) >>= _) _ _ _ from wpAny_bind (wpAny_updateSeq hS' rfl ?_))
      rw [nm]
      refine wpAny_pure ⟨plainId_quiet PySem.F.plain_max_loop _, maxd_loop W val hval g.objs.size hSf [("default", d)] _ 0 _ (val 0) tv _ rfl z (W.frame _ _ _ hst' fun b hb o e => ?_) ⟨0, Nat.le_refl _, rfl⟩ (fun i hi => by rw [show i = 0 by omega]; exact Int.le_refl _) (Heap.get?_update_self _ hS' rfl) fun m' t' h2 tk2 a b kp => ?_⟩
      · exact (Heap.get?_update_other _ _ (fun h : g.objs.size = b => hSf (by rw [h]; exact hb))).trans e
      · exact h1 m' t' h2 tk2 a b fun b o e => kp b o (nn b o e).1 (nn b o e).2 ((Heap.get?_update_other _ _ (Ne.symm (nn b o e).2)).trans (hk' b o (nn b o e).1 (kk b o e)))
  simp only [checkBuiltinCall, PySem.F.kind_max]
  cases hsig : Manifest.signature? "max" with
  | none => exact wpAny_pure body
  | some sig =>
    have h2 : Bind.checkArgs "max" sig ⟨[.ref l], [("default", d)]⟩ = pure () := by simpa only [argsOk, hsig] using ha
    show wpAny _ A.in1 (Bind.checkArgs "max" sig ⟨[.ref l], [("default", d)]⟩) _ _ s
    rw [h2]; exact wpAny_pure body
end
end TS

set_option Elab.async false
set_option linter.all false
set_option maxRecDepth 100000
set_option maxHeartbeats 4000000
namespace TS
open PySem
/-- a walk over a tuple (true) or a list -/
def KIt (b : Bool) (h : Heap) (i a : Addr) (k : Nat) : Prop := ∃ o, h.get? i = some o ∧ o.cls = .type (if b then "tuple_iterator" else "list_iterator") ∧ o.data = .fields #[.ref a, .int k 0]
def KSq (b : Bool) (h : Heap) (a : Addr) (xs : Array Value) : Prop := ∃ o, h.get? a = some o ∧ o.cls = .type (if b then "tuple" else "list") ∧ ∃ n, o.data = .seq xs n
theorem KIt.at {b : Bool} {h h' : Heap} {i a : Addr} {k : Nat} (x : KIt b h i a k) (e : ∀ o, h.get? i = some o → h'.get? i = some o) : KIt b h' i a k := let ⟨o, ho, r⟩ := x; ⟨o, e _ ho, r⟩
theorem KSq.at {b : Bool} {h h' : Heap} {a : Addr} {xs : Array Value} (x : KSq b h a xs) (e : ∀ o, h.get? a = some o → h'.get? a = some o) : KSq b h' a xs := let ⟨o, ho, r⟩ := x; ⟨o, e _ ho, r⟩
theorem KIt.xb {b : Bool} {h h' : Heap} {i a c : Addr} {k : Nat} (x : KIt b h i a k) (e : Heap.ExtBut c h h') (n : i ≠ c) : KIt b h' i a k := x.at fun o q => e _ _ n q
theorem KSq.xb {b : Bool} {h h' : Heap} {a c : Addr} {xs : Array Value} (x : KSq b h a xs) (e : Heap.ExtBut c h h') (n : a ≠ c) : KSq b h' a xs := x.at fun o q => e _ _ n q
section
variable {prog : Program} {w : World} {A : Around} {E : Value → Shared → Prop} {s : Shared}
theorem next_item {b : Bool} {it l : Addr} {i : Nat} {items : Array Value} {x : Value} {Q : Value → Shared → Prop} (hit : KIt b s.heap it l i) (hl : KSq b s.heap l items) (hx : items[i]? = some x)
    (hQ : ∀ h', KIt b h' it l (i + 1) → Heap.SameBut it s.heap h' → Q x { s with heap := h' }) : wpAny (model prog w) A (Builtin.SmallTypes.nextOf (.ref it)) Q E s := by
  cases b with
  | false => exact wpAny_nextOf_list_item hit hl hx hQ
  | true =>
    obtain ⟨o, ho, hc, hd⟩ := id hit
    obtain ⟨ol, hol, _, nl, hdl⟩ := hl
    have hT : s.TypeIs (.ref it) "tuple_iterator" := ⟨o, ho, hc⟩
    unfold Builtin.SmallTypes.nextOf
    refine wpAny_bind (wpAny_callSpecial?_slot (name := Str.ofString "__next__") hT F.slot_tuple_iterator_next (wpAny_call_entry F.slot_tuple_iterator_next hT F.entry_tuple_iterator_next ?_ (F.args_tuple_iterator_next_1 _)))
    refine (show wpAny _ _ (field (.ref it) 0 >>= _) _ _ s from wpAny_bind (wpAny_field ho hd (x := .ref l) rfl (show wpAny _ _ (if (Value.ref l == Value.none) = true then _ else _) _ _ s from ?_)))
    rw [if_neg (show ¬ ((Value.ref l == Value.none) = true) from Bool.false_ne_true)]
    refine (show wpAny _ _ (field (.ref it) 1 >>= _) _ _ s from wpAny_bind (wpAny_field ho hd (x := .int i 0) rfl (show wpAny _ _ (seqItems? (.ref l) >>= _) _ _ s from wpAny_bind (wpAny_seqItems hol hdl ?_))))
    simp only [Int.toNat_natCast, hx]
    refine wpAny_bind (wpAny_setField ho hd (by simp) (wpAny_pure ⟨x, rfl, wpAny_pure (hQ _ ⟨_, Heap.get?_update_self _ ho (Obj.isFreed_of_fields (Obj.data_mapFields hd _)), (Obj.cls_mapFields ..).trans hc, ?_⟩ (Heap.SameBut.update ..))⟩))
    rw [Obj.data_mapFields hd]; simp [rawInt]
theorem next_end {b : Bool} {it l : Addr} {i : Nat} {items : Array Value} {Q : Value → Shared → Prop} (hh : A.handled = none) (hit : KIt b s.heap it l i) (hl : KSq b s.heap l items) (hx : items[i]? = none)
    (hE : ∀ h' e, Heap.ExtBut it s.heap h' → (∃ o, h'.get? e = some o ∧ o.cls = .type "StopIteration") → E (.ref e) { s with heap := h' }) : wpAny (model prog w) A (Builtin.SmallTypes.nextOf (.ref it)) Q E s := by
  cases b with
  | false => exact wpAny_nextOf_list_end hh hit hl hx hE
  | true =>
    obtain ⟨o, ho, hc, hd⟩ := id hit
    obtain ⟨ol, hol, _, nl, hdl⟩ := hl
    have hT : s.TypeIs (.ref it) "tuple_iterator" := ⟨o, ho, hc⟩
    unfold Builtin.SmallTypes.nextOf
    refine wpAny_bind (wpAny_callSpecial?_slot (name := Str.ofString "__next__") hT F.slot_tuple_iterator_next (wpAny_call_entry F.slot_tuple_iterator_next hT F.entry_tuple_iterator_next ?_ (F.args_tuple_iterator_next_1 _)))
    refine (show wpAny _ _ (field (.ref it) 0 >>= _) _ _ s from wpAny_bind (wpAny_field ho hd (x := .ref l) rfl (show wpAny _ _ (if (Value.ref l == Value.none) = true then _ else _) _ _ s from ?_)))
    rw [if_neg (show ¬ ((Value.ref l == Value.none) = true) from Bool.false_ne_true)]
    refine (show wpAny _ _ (field (.ref it) 1 >>= _) _ _ s from wpAny_bind (wpAny_field ho hd (x := .int i 0) rfl (show wpAny _ _ (seqItems? (.ref l) >>= _) _ _ s from wpAny_bind (wpAny_seqItems hol hdl ?_))))
    simp only [Int.toNat_natCast, hx]
    refine wpAny_bind (wpAny_rule (wpAny_bind (wpAny_setField ho hd (by simp) (show wpAny _ _ (newExc (.type "StopIteration") [] >>= _) _ _ _ from wpAny_bind ?_))))
    simp only [newExc, newTuple]
    refine wpAny_bind (wpAny_newObj_type (wpAny_bind (m := firstArgMember _ _) (wpAny_of_eq (a := Value.none) (by first | rfl | (simp only [firstArgMember]; rfl)) (wpAny_newObj_type ?_ (by size_fits)))) (by size_fits))
    simp only [raiseNew]
    refine wpAny_bind (wpAny_handled ?_); rw [show A.in1.handled = none from hh]
    refine wpAny_bind (wpAny_pure (wpAny_throw ?_))
    exact hE _ _ (((Heap.SameBut.update ..).extBut.push _).push _) ⟨_, Heap.get?_push_size _ rfl, rfl⟩
theorem zk_item {b1 b2 : Bool} {z TI TO i1 i2 l1 l2 : Addr} {k1 k2 : Nat} {xs ys : Array Value} {x y a b : Value} {Q : Option Value → Shared → Prop} (D : ZipApart z TI TO i1 i2 l1 l2)
    (hz : IsZip s.heap z TI TO .none) (hTI : IsPair s.heap TI (.ref i1) (.ref i2)) (hTO : IsPair s.heap TO a b) (h1 : KIt b1 s.heap i1 l1 k1) (h2 : KIt b2 s.heap i2 l2 k2) (q1 : KSq b1 s.heap l1 xs) (q2 : KSq b2 s.heap l2 ys) (hx : xs[k1]? = some x) (hy : ys[k2]? = some y)
    (hQ : ∀ h', IsZip h' z TI TO (rawInt s.heap.objs.size) → IsPair h' TO x y → KIt b1 h' i1 l1 (k1 + 1) → KIt b2 h' i2 l2 (k2 + 1) → IsPair h' s.heap.objs.size x y → (∀ c o, c ≠ z → c ≠ TO → c ≠ i1 → c ≠ i2 → s.heap.get? c = some o → h'.get? c = some o) → Q (some (.ref s.heap.objs.size)) { s with heap := h' }) :
    wpAny (model prog w) A (pyNext (.ref z)) Q E s := by
  have hT : s.TypeIs (.ref z) "zip" := ⟨_, hz, rfl⟩
  unfold pyNext
  refine wpAny_bind (wpAny_attempt (wpAny_callSpecial?_slot (name := Str.ofString "__next__") hT F.slot_zip_next (wpAny_call_entry F.slot_zip_next hT F.entry_zip_next ?_ (F.args_zip_next_1 _))))
  refine (show wpAny _ _ (field (.ref z) 2 >>= _) _ _ _ from wpAny_bind (wpAny_field hz rfl (x := .bool false) rfl (show wpAny _ _ (field (.ref z) 3 >>= _) _ _ _ from wpAny_bind (wpAny_field hz rfl (x := .ref TI) rfl (wpAny_bind (wpAny_seqItems hTI rfl (show wpAny _ _ (Builtin.SmallTypes.ownedTupleIsFree (.ref z) >>= _) _ _ _ from wpAny_bind ?_)))))))
  unfold Builtin.SmallTypes.ownedTupleIsFree; refine wpAny_bind (wpAny_field hz rfl (x := .none) rfl (wpAny_pure ?_)); simp only [if_true]
  refine wpAny_bind (wpAny_rule (wpAny_bind (wpAny_field hz rfl (x := .ref TO) rfl (wpAny_bind (wpAny_setField_rec hz (by simp) fun g1 z1 s1 => wpAny_bind ?_)))))
  replace z1 : IsZip g1 z TI TO .ellipsis := z1
  simp only [List.zipIdx_cons, List.zipIdx_nil, List.forIn_cons, List.forIn_nil]
  refine wpAny_bind (wpAny_bind (wpAny_onRaise (show wpAny _ _ (Builtin.SmallTypes.nextOf (.ref i1) >>= _) _ _ _ from wpAny_bind (next_item (h1.xb s1.extBut D.i1z) (q1.xb s1.extBut D.l1z) hx fun g2 h12 s2 => wpAny_pure ?_))))
  have T2 : IsPair g2 TO a b := s2.extBut _ _ D.TOi1 (s1.extBut _ _ D.TOz hTO)
  refine wpAny_bind (wpAny_seqItems T2 rfl (wpAny_bind (wpAny_updateSeq_pair T2 fun g3 T3 s3 => wpAny_bind (wpAny_letGo (wpAny_pure ?_)))))
  replace T3 : IsPair g3 TO x b := T3
  refine wpAny_bind (wpAny_bind (wpAny_onRaise (show wpAny _ _ (Builtin.SmallTypes.nextOf (.ref i2) >>= _) _ _ _ from wpAny_bind (next_item (((h2.xb s1.extBut D.i2z).xb s2.extBut D.i12.symm).xb s3.extBut D.TOi2.symm) (((q2.xb s1.extBut D.l2z).xb s2.extBut D.l2i1).xb s3.extBut D.l2TO) hy fun g4 h24 s4 => wpAny_pure ?_))))
  have T4 : IsPair g4 TO x b := s4.extBut _ _ D.TOi2 T3
  refine wpAny_bind (wpAny_seqItems T4 rfl (wpAny_bind (wpAny_updateSeq_pair T4 fun g5 T5 s5 => wpAny_bind (wpAny_letGo (wpAny_pure (wpAny_pure ?_))))))
  replace T5 : IsPair g5 TO x y := T5
  refine wpAny_bind (wpAny_seqItems T5 rfl (wpAny_bind (wpAny_newTuple ?_)))
  have sz : g5.objs.size = s.heap.objs.size := by rw [s5.1, s4.1, s3.1, s2.1, s1.1]
  have z5 : IsZip g5 z TI TO .ellipsis := s5.extBut _ _ D.TOz.symm (s4.extBut _ _ D.i2z.symm (s3.extBut _ _ D.TOz.symm (s2.extBut _ _ D.i1z.symm z1)))
  have k5 : ∀ c o, c ≠ z → c ≠ TO → c ≠ i1 → c ≠ i2 → s.heap.get? c = some o → g5.get? c = some o := fun c o c1 c2 c3 c4 e => s5.extBut _ _ c2 (s4.extBut _ _ c4 (s3.extBut _ _ c2 (s2.extBut _ _ c3 (s1.extBut _ _ c1 e))))
  have a5 : KIt b1 g5 i1 l1 (k1 + 1) := ((h12.xb s3.extBut D.TOi1.symm).xb s4.extBut D.i12).xb s5.extBut D.TOi1.symm
  have b5 : KIt b2 g5 i2 l2 (k2 + 1) := h24.xb s5.extBut D.TOi2.symm
  have zlt : z < g5.objs.size := Heap.lt_size z5
  refine (show wpAny _ _ (Builtin.SmallTypes.ownedTupleHandOut (.ref z) (.ref g5.objs.size) >>= _) _ _ _ from wpAny_bind ?_)
  unfold Builtin.SmallTypes.ownedTupleHandOut
  have z6 : IsZip (g5.push { cls := .type "tuple", data := .seq #[x, y] }) z TI TO .ellipsis := Heap.get?_push_of_some _ z5
  refine wpAny_bind (wpAny_setField_rec z6 (by simp) fun g7 z7 s7 => ?_)
  replace z7 : IsZip g7 z TI TO (rawInt g5.objs.size) := z7
  refine wpAny_setField_rec z7 (by simp) fun g8 z8 s8 => ?_
  replace z8 : IsZip g8 z TI TO (rawInt g5.objs.size) := z8
  have up : ∀ c o, c ≠ z → g5.get? c = some o → g8.get? c = some o := fun c o c1 e => s8.extBut _ _ c1 (s7.extBut _ _ c1 (Heap.get?_push_of_some _ e))
  have T8 : IsPair g8 g5.objs.size x y := s8.extBut _ _ (Nat.ne_of_gt zlt) (s7.extBut _ _ (Nat.ne_of_gt zlt) (Heap.get?_push_size _ rfl))
  rw [sz] at z8 T8
  refine wpAny_pure ⟨_, rfl, ?_⟩
  show wpAny _ _ (pure (some (Value.ref g5.objs.size))) _ _ _
  rw [sz]
  exact wpAny_pure (hQ g8 z8 (up _ _ D.TOz T5) (a5.at fun o e => up _ o D.i1z e) (b5.at fun o e => up _ o D.i2z e) T8 fun c o c1 c2 c3 c4 e => up c o c1 (k5 c o c1 c2 c3 c4 e))
theorem zk_end {b1 b2 : Bool} {z TI TO i1 i2 l1 l2 : Addr} {k1 k2 : Nat} {xs ys : Array Value} {a b : Value} {Q : Option Value → Shared → Prop} (hh : A.handled = none) (D : ZipApart z TI TO i1 i2 l1 l2)
    (hz : IsZip s.heap z TI TO .none) (hTI : IsPair s.heap TI (.ref i1) (.ref i2)) (hTO : IsPair s.heap TO a b) (h1 : KIt b1 s.heap i1 l1 k1) (h2 : KIt b2 s.heap i2 l2 k2) (q1 : KSq b1 s.heap l1 xs) (q2 : KSq b2 s.heap l2 ys) (hend : xs[k1]? = none ∨ ys[k2]? = none)
    (hQ : ∀ h', (∀ c o, c ≠ z → c ≠ TO → c ≠ i1 → c ≠ i2 → s.heap.get? c = some o → h'.get? c = some o) → Q none { s with heap := h' }) : wpAny (model prog w) A (pyNext (.ref z)) Q E s := by
  have hT : s.TypeIs (.ref z) "zip" := ⟨_, hz, rfl⟩
  unfold pyNext
  have stop : ∀ (g : Heap) (e : Addr), (∀ c o, c ≠ z → c ≠ TO → c ≠ i1 → c ≠ i2 → s.heap.get? c = some o → g.get? c = some o) → (∃ o, g.get? e = some o ∧ o.cls = .type "StopIteration") → wpAny (model prog w) A (do
      let b ← isInstance (.ref e) (.type "StopIteration")
      if b = true then pure none else throw (.ref e)) Q E { s with heap := g } := fun g e kp ⟨o, ho, hc⟩ => wpAny_bind (wpAny_isInstance (b := true) (T := "StopIteration") ⟨o, ho, hc⟩ isSubtype_stop (wpAny_pure (hQ _ kp)))
  refine wpAny_bind (wpAny_attempt (wpAny_callSpecial?_slot (name := Str.ofString "__next__") hT F.slot_zip_next (wpAny_call_entry F.slot_zip_next hT F.entry_zip_next ?_ (F.args_zip_next_1 _))))
  refine (show wpAny _ _ (field (.ref z) 2 >>= _) _ _ _ from wpAny_bind (wpAny_field hz rfl (x := .bool false) rfl (show wpAny _ _ (field (.ref z) 3 >>= _) _ _ _ from wpAny_bind (wpAny_field hz rfl (x := .ref TI) rfl (wpAny_bind (wpAny_seqItems hTI rfl (show wpAny _ _ (Builtin.SmallTypes.ownedTupleIsFree (.ref z) >>= _) _ _ _ from wpAny_bind ?_)))))))
  unfold Builtin.SmallTypes.ownedTupleIsFree; refine wpAny_bind (wpAny_field hz rfl (x := .none) rfl (wpAny_pure ?_)); simp only [if_true]
  refine wpAny_bind (wpAny_rule (wpAny_bind (wpAny_field hz rfl (x := .ref TO) rfl (wpAny_bind (wpAny_setField_rec hz (by simp) fun g1 z1 s1 => wpAny_bind ?_)))))
  replace z1 : IsZip g1 z TI TO .ellipsis := z1
  simp only [List.zipIdx_cons, List.zipIdx_nil, List.forIn_cons, List.forIn_nil]
  have hhi : A.in1.handled = none := hh
  refine wpAny_bind (wpAny_bind (wpAny_onRaise (show wpAny _ _ (Builtin.SmallTypes.nextOf (.ref i1) >>= _) _ _ _ from wpAny_bind ?_)))
  cases hx : xs[k1]? with
  | none =>
    refine next_end hhi (h1.xb s1.extBut D.i1z) (q1.xb s1.extBut D.l1z) hx fun g2 e s2 he => ?_
    obtain ⟨oe, hoe, hce⟩ := he
    have z2 : IsZip g2 z TI TO .ellipsis := s2 _ _ D.i1z.symm z1
    have ne : e ≠ z := fun x => by subst x; rw [z2] at hoe; cases hoe; simp at hce
    exact wpAny_setField_rec z2 (by simp) fun g3 _ s3 => stop g3 e (fun c o c1 _ c3 _ x => s3.extBut _ _ c1 (s2 _ _ c3 (s1.extBut _ _ c1 x))) ⟨oe, s3.extBut _ _ ne hoe, hce⟩
  | some x =>
    have hy : ys[k2]? = none := by rcases hend with h | h; rw [hx] at h; cases h; exact h
    refine next_item (h1.xb s1.extBut D.i1z) (q1.xb s1.extBut D.l1z) hx fun g2 h12 s2 => wpAny_pure ?_
    have T2 : IsPair g2 TO a b := s2.extBut _ _ D.TOi1 (s1.extBut _ _ D.TOz hTO)
    refine wpAny_bind (wpAny_seqItems T2 rfl (wpAny_bind (wpAny_updateSeq_pair T2 fun g3 T3 s3 => wpAny_bind (wpAny_letGo (wpAny_pure ?_)))))
    refine wpAny_bind (wpAny_bind (wpAny_onRaise (show wpAny _ _ (Builtin.SmallTypes.nextOf (.ref i2) >>= _) _ _ _ from wpAny_bind (next_end hhi (((h2.xb s1.extBut D.i2z).xb s2.extBut D.i12.symm).xb s3.extBut D.TOi2.symm) (((q2.xb s1.extBut D.l2z).xb s2.extBut D.l2i1).xb s3.extBut D.l2TO) hy fun g4 e s4 he => ?_))))
    obtain ⟨oe, hoe, hce⟩ := he
    have z4 : IsZip g4 z TI TO .ellipsis := s4 _ _ D.i2z.symm (s3.extBut _ _ D.TOz.symm (s2.extBut _ _ D.i1z.symm z1))
    have ne : e ≠ z := fun x => by subst x; rw [z4] at hoe; cases hoe; simp at hce
    exact wpAny_setField_rec z4 (by simp) fun g5 _ s5 => stop g5 e (fun c o c1 c2 c3 c4 x => s5.extBut _ _ c1 (s4 _ _ c4 (s3.extBut _ _ c2 (s2.extBut _ _ c3 (s1.extBut _ _ c1 x))))) ⟨oe, s5.extBut _ _ ne hoe, hce⟩
end
end TS

set_option Elab.async false
set_option linter.all false
set_option maxRecDepth 100000
set_option maxHeartbeats 4000000
namespace TS
open PySem
abbrev itO (b : Bool) (l : Addr) : Obj := { cls := .type (if b then "tuple_iterator" else "list_iterator"), data := .fields #[.ref l, .int 0 0] }
section
variable {prog : Program} {w : World} {A : Around} {E : Value → Shared → Prop} {s : Shared}
theorem iter_k {b : Bool} {l : Addr} {xs : Array Value} {Q : Value → Shared → Prop} (q : KSq b s.heap l xs) (h : Q (.ref s.heap.objs.size) { s with heap := s.heap.push (itO b l) }) : wpAny (model prog w) A (pyIter (.ref l)) Q E s := by
  cases b with
  | false => exact wpAny_pyIter_list q h
  | true => exact wpAny_pyIter_tuple q h
end
abbrev kz1 (b1 b2 : Bool) (h : Heap) (l1 l2 : Addr) : Heap := (h.push (itO b1 l1)).push (itO b2 l2)
abbrev kz2 (b1 b2 : Bool) (h : Heap) (l1 l2 : Addr) : Heap := (kz1 b1 b2 h l1 l2).push { cls := .type "tuple", data := .seq #[.ref h.objs.size, .ref (h.push (itO b1 l1)).objs.size] }
abbrev kz3 (b1 b2 : Bool) (h : Heap) (l1 l2 : Addr) : Heap := (kz2 b1 b2 h l1 l2).push { cls := .type "tuple", data := .seq #[.none, .none] }
abbrev kz4 (b1 b2 : Bool) (h : Heap) (l1 l2 : Addr) : Heap := (kz3 b1 b2 h l1 l2).push { cls := .type "zip", data := .fields #[.none, .bool false, .bool false, .ref (kz1 b1 b2 h l1 l2).objs.size, .ref (kz2 b1 b2 h l1 l2).objs.size] }
theorem kz_new (b1 b2 : Bool) (l1 l2 : Addr) (xs ys : Array Value) : Meets (Builtin.«zip.__new__» ⟨[.type "zip", .ref l1, .ref l2], []⟩) (fun _ R s => KSq b1 s.heap l1 xs ∧ KSq b2 s.heap l2 ys ∧ R (.ok (.ret (.ref (kz3 b1 b2 s.heap l1 l2).objs.size))) { s with heap := kz4 b1 b2 s.heap l1 l2 }) :=
  .of_wp fun prog w A R s h => by
    obtain ⟨hp, g, d, tk, os⟩ := s; obtain ⟨q1, q2, h⟩ := h
    have hsub := sub_zip
    have L1 : KSq b1 (Shared.heap ⟨hp, g, d, tk, os⟩) l1 xs := q1
    have L2 : KSq b2 (Shared.heap ⟨hp.push (itO b1 l1), g, d, tk, os⟩) l2 ys := q2.at fun o e => Heap.get?_push_of_some _ e
    wp_walk using iter_k L1, iter_k L2
    exact ⟨_, rfl, h⟩
section
variable {prog : Program} {w : World} {A : Around} {E : Value → Shared → Prop} {s : Shared}
theorem kz_call {b1 b2 : Bool} {l1 l2 : Addr} {xs ys : Array Value} {Q : Value → Shared → Prop} (q1 : KSq b1 s.heap l1 xs) (q2 : KSq b2 s.heap l2 ys)
    (h : ∀ h', IsZip h' (s.heap.objs.size + 4) (s.heap.objs.size + 2) (s.heap.objs.size + 3) .none → IsPair h' (s.heap.objs.size + 2) (.ref s.heap.objs.size) (.ref (s.heap.objs.size + 1)) →
      IsPair h' (s.heap.objs.size + 3) .none .none → KIt b1 h' s.heap.objs.size l1 0 → KIt b2 h' (s.heap.objs.size + 1) l2 0 → (∀ c o, s.heap.get? c = some o → h'.get? c = some o) → Q (.ref (s.heap.objs.size + 4)) { s with heap := h' }) :
    wpAny (model prog w) A (call (.type "zip") [.ref l1, .ref l2]) Q E s := by
  refine callType_new F.called_zip (by decide) (F.typeCall_zip_2 _ _) (F.newCall_zip_2 _ _) (fun obj => F.args_object_init_3 obj _ _) F.entry_zip_new (kz_new b1 b2 l1 l2 xs ys) ⟨q1, q2, ?_⟩
  have z0 : (s.heap.push (itO b1 l1)).objs.size = s.heap.objs.size + 1 := Heap.size_push ..
  have z1 : (kz1 b1 b2 s.heap l1 l2).objs.size = s.heap.objs.size + 2 := by rw [Heap.size_push, z0]
  have z2 : (kz2 b1 b2 s.heap l1 l2).objs.size = s.heap.objs.size + 3 := by rw [Heap.size_push, z1]
  have z3 : (kz3 b1 b2 s.heap l1 l2).objs.size = s.heap.objs.size + 4 := by rw [Heap.size_push, z2]
  have g5 : (kz4 b1 b2 s.heap l1 l2).get? (kz3 b1 b2 s.heap l1 l2).objs.size = some _ := Heap.get?_push_size _ rfl
  have g4 : (kz4 b1 b2 s.heap l1 l2).get? (kz2 b1 b2 s.heap l1 l2).objs.size = some _ := Heap.get?_push_of_some _ (Heap.get?_push_size _ rfl)
  have g3 : (kz4 b1 b2 s.heap l1 l2).get? (kz1 b1 b2 s.heap l1 l2).objs.size = some _ := Heap.get?_push_of_some _ (Heap.get?_push_of_some _ (Heap.get?_push_size _ rfl))
  have g2 : (kz4 b1 b2 s.heap l1 l2).get? (s.heap.push (itO b1 l1)).objs.size = some (itO b2 l2) := Heap.get?_push_of_some _ (Heap.get?_push_of_some _ (Heap.get?_push_of_some _ (Heap.get?_push_size _ (by cases b2 <;> rfl))))
  have g1 : (kz4 b1 b2 s.heap l1 l2).get? s.heap.objs.size = some (itO b1 l1) := Heap.get?_push_of_some _ (Heap.get?_push_of_some _ (Heap.get?_push_of_some _ (Heap.get?_push_of_some _ (Heap.get?_push_size _ (by cases b1 <;> rfl)))))
  have gk : ∀ c o, s.heap.get? c = some o → (kz4 b1 b2 s.heap l1 l2).get? c = some o := fun c o x => Heap.get?_push_of_some _ (Heap.get?_push_of_some _ (Heap.get?_push_of_some _ (Heap.get?_push_of_some _ (Heap.get?_push_of_some _ x))))
  show _ ∧ _
  rw [z3] at g5 ⊢
  rw [z1, z2] at g5
  rw [z1, z0] at g3
  rw [z2] at g4
  rw [z0] at g2
  exact ⟨⟨_, g5, rfl⟩, h _ g5 g3 g4 ⟨_, g1, rfl, rfl⟩ ⟨_, g2, rfl, rfl⟩ gk⟩
end
end TS
namespace L2
open PySem PySem.Spec PyProof.Rows TS
def hoK (b : Bool) (xs : List V) : HO := if b then .tup xs else .lst xs
def Itk (b1 b2 : Bool) (a b : Addr) : It :=
  ⟨fun i H => ∃ xs ys x y, H a = some (hoK b1 xs) ∧ H b = some (hoK b2 ys) ∧ xs[i]? = some x ∧ ys[i]? = some y,
   fun i H v H' => ∃ T xs ys x y, v = .ref T ∧ H T = none ∧ H a = some (hoK b1 xs) ∧ H b = some (hoK b2 ys) ∧ xs[i]? = some x ∧ ys[i]? = some y ∧ H' = upd H T (.tup [x, y]),
   fun i H => ∃ xs ys, H a = some (hoK b1 xs) ∧ H b = some (hoK b2 ys) ∧ (xs.length ≤ i ∨ ys.length ≤ i)⟩
theorem Inv.kSq {X : Cx} {pins : List (Addr × Obj)} {σ : St} {H : Hp} {s : Shared} {b : Bool} {a : Addr} {xs : List V} (I : Inv X pins σ H s) (h : H a = some (hoK b xs)) : ∃ its : List Value, Vals xs its ∧ KSq b s.heap a its.toArray ∧ xs.length ≤ sizeLine := by
  cases b with
  | false => obtain ⟨its, r, p, z⟩ := I.list (SqL.of h); exact ⟨its, r, p.isList, z⟩
  | true => obtain ⟨its, r, p, z⟩ := I.tuple (SqT.of h); exact ⟨its, r, p, z⟩
theorem turn_k {P : Program} {w : World} {K : PySem.W.Frag} {es : List Expr} {k : Nat} {pos : Pos} (b1 b2 : Bool) (a b z TI TO i1 i2 : Addr) (D : ZipOwn z TI TO i1 i2) :
    Turn P w K (.Tuple es k pos) (Itk b1 b2 a b) [z, TI, TO, i1, i2] z (fun i h => IsZip h z TI TO .none ∧ IsPair h TI (.ref i1) (.ref i2) ∧ (∃ p q, IsPair h TO p q) ∧ KIt b1 h i1 a i ∧ KIt b2 h i2 b i) where
  mem := by simp
  obj := fun i h st c hc => by
    obtain ⟨hz, hTI, ⟨p, q, hTO⟩, ⟨o1, e1, c1, d1⟩, ⟨o2, e2, c2, d2⟩⟩ := st
    simp only [List.mem_cons, List.not_mem_nil, or_false] at hc
    rcases hc with rfl | rfl | rfl | rfl | rfl
    · exact ⟨_, hz, fun v z => by cases z⟩
    · exact ⟨_, hTI, fun v z => by cases z⟩
    · exact ⟨_, hTO, fun v z => by cases z⟩
    · exact ⟨_, e1, fun v z => by rw [d1] at z; cases z⟩
    · exact ⟨_, e2, fun v z => by rw [d2] at z; cases z⟩
  keep := fun i h h' st kk => by
    obtain ⟨hz, hTI, ⟨p, q, hTO⟩, h1, h2⟩ := st
    exact ⟨kk z (by simp) _ hz, kk TI (by simp) _ hTI, ⟨p, q, kk TO (by simp) _ hTO⟩, h1.at fun o e => kk i1 (by simp) o e, h2.at fun o e => kk i2 (by simp) o e⟩
  item := by
    intro X hP hw hK hc i pins s σ H E I hf st hg
    subst hP hw hK
    obtain ⟨xs, ys, x, y, ha, hb, hx, hy⟩ := hg
    obtain ⟨hz, hTI, ⟨p, q, hTO⟩, h1, h2⟩ := st
    obtain ⟨its, rv, p1, z1⟩ := I.kSq ha
    obtain ⟨jts, rw', p2, z2⟩ := I.kSq hb
    obtain ⟨u, hu, ru⟩ := rv.get hx
    obtain ⟨v, hv, rv'⟩ := rw'.get hy
    have na : a ∉ [z, TI, TO, i1, i2] := fun m => by rw [(hf a m).1] at ha; cases ha
    have nb : b ∉ [z, TI, TO, i1, i2] := fun m => by rw [(hf b m).1] at hb; cases hb
    have hfr : H s.heap.objs.size = none := I.hok.fresh (Nat.le_refl _)
    have zlt : z < s.heap.objs.size := Heap.lt_size hz
    refine zk_item (D.apart na nb) hz hTI hTO h1 h2 p1 p2 (x := u) (y := v) (by simpa using hu) (by simpa using hv) fun h' a1 a2 a3 a4 a5 hk => ?_
    refine ⟨_, rfl, wpAny_letOwnedTupleGo_zip (s := { s with heap := h' }) a1 fun h2' hz' hs' => ?_⟩
    have hT : IsPair h2' s.heap.objs.size u v := hs'.extBut _ _ (Nat.ne_of_gt zlt) a5
    refine ⟨.ref s.heap.objs.size, upd H s.heap.objs.size (.tup [x, y]), I.turnedT (t' := s.toks) hf (fun c o hc e => ?_) (Nat.le_refl _) ⟨by show 2 ≤ sizeLine; decide, [u, v], .cons ru (.cons rv' .nil), ⟨_, hT, rfl, _, rfl⟩⟩, rfl,
      ⟨_, xs, ys, x, y, rfl, hfr, ha, hb, hx, hy, rfl⟩, ⟨hz', hs'.extBut _ _ D.TIz (hk _ _ D.TIz D.TITO D.TIi1 D.TIi2 hTI), ⟨_, _, hs'.extBut _ _ D.TOz a2⟩, a3.xb hs'.extBut D.i1z, a4.xb hs'.extBut D.i2z⟩, fun c hc => ?_⟩
    · simp only [List.mem_cons, List.not_mem_nil, or_false, not_or] at hc
      exact hs'.extBut _ _ hc.1 (hk _ _ hc.1 hc.2.2.1 hc.2.2.2.1 hc.2.2.2.2 e)
    · have hn := (hf c hc).1
      have ne : c ≠ s.heap.objs.size := by
        obtain ⟨o1, e1, _⟩ := h1
        obtain ⟨o2, e2, _⟩ := h2
        simp only [List.mem_cons, List.not_mem_nil, or_false] at hc
        rcases hc with rfl | rfl | rfl | rfl | rfl
        · exact Nat.ne_of_lt (Heap.lt_size hz)
        · exact Nat.ne_of_lt (Heap.lt_size hTI)
        · exact Nat.ne_of_lt (Heap.lt_size hTO)
        · exact Nat.ne_of_lt (Heap.lt_size e1)
        · exact Nat.ne_of_lt (Heap.lt_size e2)
      rw [upd_ne ne]; exact hn
  done := by
    intro X hP hw hK hc i pins s σ H E I hf st hg
    subst hP hw hK
    obtain ⟨xs, ys, ha, hb, hx⟩ := hg
    obtain ⟨hz, hTI, ⟨p, q, hTO⟩, h1, h2⟩ := st
    obtain ⟨its, rv, p1, z1⟩ := I.kSq ha
    obtain ⟨jts, rw', p2, z2⟩ := I.kSq hb
    have na : a ∉ [z, TI, TO, i1, i2] := fun m => by rw [(hf a m).1] at ha; cases ha
    have nb : b ∉ [z, TI, TO, i1, i2] := fun m => by rw [(hf b m).1] at hb; cases hb
    have l1 := rv.length
    have l2 := rw'.length
    refine zk_end (I.ok.hd hc) (D.apart na nb) hz hTI hTO h1 h2 p1 p2 ?_ fun h' hk => ⟨rfl, I.turnedL (t' := s.toks) hf fun c o hc e => ?_⟩
    · rcases hx with hx | hx
      · exact .inl (by simp; omega)
      · exact .inr (by simp; omega)
    · simp only [List.mem_cons, List.not_mem_nil, or_false, not_or] at hc
      exact hk _ _ hc.1 hc.2.2.1 hc.2.2.2.1 hc.2.2.2.2 e
  self := fun _ _ _ _ _ st h => wpAny_pyIter_zip st.1 h
section
variable {X : Cx} {tg : Expr}
def iZk (b1 b2 : Bool) (ta : TA) : TI := fun σ H R => ta σ H fun vs H1 => ∃ a b, vs = [.ref a, .ref b] ∧ (∃ xs, H1 a = some (hoK b1 xs)) ∧ (∃ ys, H1 b = some (hoK b2 ys)) ∧ R (Itk b1 b2 a b) H1
theorem pi_zk (b1 b2 : Bool) {a b : Expr} {es : List Expr} {k : Nat} {tpos : Pos} {ta : TA} {p pos : Pos} (hg : Gl X "zip") (hm : X.mg "zip" = none) (ha : PA X [a, b] ta) (hs : starEach [a, b] X.env = [(false, eval a X.env), (false, eval b X.env)] := by rfl) (hs2 : starEach [b] X.env = [(false, eval b X.env)] := by rfl) :
    PI X (.Tuple es k tpos) (.Call (.Name "zip" p) [a, b] [] pos) (iZk b1 b2 ta) := by
  intro pins s σ H R I h
  refine Call_ (ld_blt I hg hm PyProof.Rows.boot_zip (PyProof.Rows.callWith_type1 (thn (ha pos pins s σ H _ I h) fun us s1 ⟨vs, H1, I1, r1, q1⟩ => ?_) (by rw [hs, hs2]) (by rw [hs2]; rfl)))
  obtain ⟨l1, l2, e, ⟨xs, ha1⟩, ⟨ys, hb1⟩, q⟩ := q1
  subst e
  obtain ⟨u1, u2, rfl, rfl, rfl⟩ := vals2 r1
  obtain ⟨its, rv, p1, z1⟩ := I1.kSq ha1
  obtain ⟨jts, rw', p2, z2⟩ := I1.kSq hb1
  refine kz_call p1 p2 fun h' c1 c2 c3 c4 c5 hk => ?_
  refine wpAny_pyIter_zip c1 ?_
  have DZ : ∀ n : Nat, ZipOwn (n + 4) (n + 2) (n + 3) n (n + 1) := fun n => by constructor <;> exact fun e => absurd (show (_ : Nat) = _ from e) (by omega)
  refine ⟨_, [s1.heap.objs.size + 4, s1.heap.objs.size + 2, s1.heap.objs.size + 3, s1.heap.objs.size, s1.heap.objs.size + 1], _, _, H1, rfl, I1.kept (t' := s1.toks) hk, turn_k b1 b2 l1 l2 _ _ _ _ _ (DZ _), ⟨c1, c2, ⟨_, _, c3⟩, c4, c5⟩, fun c hc => ?_, q⟩
  have hle : s1.heap.objs.size ≤ c := by
    simp only [List.mem_cons, List.not_mem_nil, or_false] at hc
    rcases hc with rfl | rfl | rfl | rfl | rfl
    · exact Nat.le_add_right _ _
    · exact Nat.le_add_right _ _
    · exact Nat.le_add_right _ _
    · exact Nat.le_refl _
    · exact Nat.le_add_right _ _
  exact I1.fpOk hle (I1.hok.fresh hle)
end
section
variable {X : Cx} {a b : Expr} {p pos : Pos}
theorem qzk (b1 b2 : Bool) {es : List Expr} {k : Nat} {tpos : Pos} {ta : TA} (hg : Gl X "zip") (hm : X.mg "zip" = none) (ha : SA X [a, b] ta) (hs : starEach [a, b] X.env = [(false, eval a X.env), (false, eval b X.env)] := by rfl) (hs2 : starEach [b] X.env = [(false, eval b X.env)] := by rfl) :
    SI X (.Tuple es k tpos) (.Call (.Name "zip" p) [a, b] [] pos) (iZk b1 b2 ta) := ⟨pi_zk b1 b2 hg hm ha.h hs hs2⟩
end
section
variable {A : TA} {σ σc : St} {H : Hp} {g : TG} {tt : TT} {te : TE} {Qd : List V → Hp → Prop}
theorem rd_izk {b1 b2 : Bool} {R : It → Hp → Prop} (h : A σ H fun vs H1 => ∃ a b, vs = [.ref a, .ref b] ∧ (∃ xs, H1 a = some (hoK b1 xs)) ∧ (∃ ys, H1 b = some (hoK b2 ys)) ∧ R (Itk b1 b2 a b) H1) : iZk b1 b2 A σ H R := h
theorem hoK_inj {b : Bool} {xs ys : List V} (h : hoK b xs = hoK b ys) : xs = ys := by
  cases b with
  | false => exact HO.lst.inj h
  | true => exact HO.tup.inj h
/-- n turns: the shorter one's length -/
theorem comp_zk {b1 b2 : Bool} {a b : Addr} {xs ys : List V} {n : Nat} (Pv : Nat → List V → St → Hp → Prop) (hz : n = min xs.length ys.length) (h0 : Pv 0 [] σc H)
    (hl : ∀ i zs σ H, i ≤ n → Pv i zs σ H → H a = some (hoK b1 xs) ∧ H b = some (hoK b2 ys) ∧ (i < n → zs.length < sizeLine))
    (hs : ∀ i x y zs σ H T, xs[i]? = some x → ys[i]? = some y → Pv i zs σ H → H T = none → g (.ref T) σ (upd H T (.tup [x, y])) fun σ2 H2 => tt σ2 H2 fun c H3 => if c = true then te σ2 H3 fun y H4 => Pv (i + 1) (zs ++ [y]) σ2 H4 else Pv (i + 1) zs σ2 H3)
    (hd : ∀ zs σ H, Pv n zs σ H → Qd zs H) : tCompL (Itk b1 b2 a b) g tt te σc H Qd := by
  refine ⟨fun i m zs σ H => m = n - i ∧ i ≤ n ∧ Pv i zs σ H, ⟨n, by simp, Nat.zero_le _, h0⟩, ?_⟩
  rintro i m zs σ H ⟨rfl, hi, p⟩
  obtain ⟨qa, qb, hzs⟩ := hl i zs σ H hi p
  by_cases hlt : i < n
  · have l1 : i < xs.length := by omega
    have l2 : i < ys.length := by omega
    refine .inr ⟨⟨xs, ys, xs[i], ys[i], qa, qb, by simp [l1], by simp [l2]⟩, hzs hlt, Pv (i + 1), fun zs σ' H' p' => ⟨n - (i + 1), by omega, rfl, hlt, p'⟩, fun v H' y => ?_⟩
    obtain ⟨T, xs', ys', x, y, rfl, hT, ha, hb, hx, hy, rfl⟩ := y
    have e1 := hoK_inj (Option.some.inj (qa.symm.trans ha))
    have e2 := hoK_inj (Option.some.inj (qb.symm.trans hb))
    subst e1 e2
    exact hs i x y zs σ _ T hx hy p hT
  · have e : i = n := by omega
    subst e
    exact .inl ⟨⟨xs, ys, qa, qb, by omega⟩, hd zs σ H p⟩
end
end L2

set_option Elab.async false
set_option linter.all false
set_option maxRecDepth 100000
set_option maxHeartbeats 4000000
namespace L2
open PySem PySem.Spec PyProof.Rows TS
section
variable {X : Cx} {K : PySem.W.Frag}
/-- max(e, default=None) -/
def tMxD (K : PySem.W.Frag) (te : TE) : TE := fun σ H Q => te σ H fun x H1 => ∃ (a : Addr) (ns : List Int), x = .ref a ∧ SqL K H1 a (ns.map V.int) ∧ (ns = [] → Q .non H1) ∧ ∀ m, m ∈ ns → (∀ k ∈ ns, k ≤ m) → Q (.int m) H1
theorem pe_mxd {e : Expr} {te : TE} {p pos cpos kpos : Pos} {j : _} (hc : X.calm = true) (he : PE X e te) (hg : Gl X "max") (hm : X.mg "max" = none)
    (hs : starEach [e] X.env = [(false, eval e X.env)] := by rfl) :
    PE X (.Call (.Name "max" p) [e] [⟨some "default", .Constant .none j cpos, kpos⟩] pos) (tMxD X.K te) := by
  intro pins s σ H Q I h
  refine wpAny_Call_Name_kw (ld_blt I hg hm PyProof.Rows.boot_max ?_)
  refine PyProof.Rows.callWith_kw ?_ (by rw [hs]; rfl) (by rw [hs]; rfl)
  rw [hs]
  show wpAny _ _ (spliced ((false, eval e X.env) :: backTo pos [])) _ _ s
  refine Calls.spliced_cons (thn (he pins s σ H _ I h) fun u s1 ⟨x, H1, I1, r1, a, ns, ex, hq, q0, q1⟩ => ?_)
  subst ex
  cases r1
  refine Calls.spliced_nil ?_
  refine evalAll_cons (wpAny_bind (Constant_none (wpAny_bind (wpAny_standAt (wpAny_pure (evalAll_nil ?_))))))
  obtain ⟨its, rv, pl, hz⟩ := I1.list hq
  have hl : ns.length = its.length := by have := rv.length; simpa using this
  refine maxd_call (items := its.toArray) (I.ok.hd hc) pl.isList (fun i => ns.getD i 0) (fun i v hv => ?_) (fun z h' tk kp => ?_) (fun m t h' tk hm hle kp => ?_)
  · have hv' : its[i]? = some v := by simpa using hv
    have hi : i < ns.length := by rw [hl]; exact (List.getElem?_eq_some_iff.mp hv').1
    obtain ⟨u, hu, t, e⟩ := rv.get (i := i) (x := .int ns[i]) (by simp [hi])
    rw [hv'] at hu
    cases hu
    exact ⟨t, by rw [e]; simp [hi]⟩
  · exact ⟨.non, H1, I1.kept (t' := tk) kp, rfl, q0 (List.length_eq_zero_iff.mp (by rw [hl]; simpa using z))⟩
  · obtain ⟨i, hi, rfl⟩ := hm
    have hi' : i < ns.length := by rw [hl]; simpa using hi
    refine ⟨.int (ns.getD i 0), H1, I1.kept (t' := tk) kp, ⟨t, rfl⟩, q1 _ (by simp [hi']) fun k hk => ?_⟩
    obtain ⟨j, hj, rfl⟩ := List.mem_iff_getElem.mp hk
    have := hle j (by rw [List.size_toArray, ← hl]; exact hj)
    simpa [hj] using this
theorem qmxd {e : Expr} {te : TE} {p pos cpos kpos : Pos} {j : _} (hc : X.calm = true) (he : SE X e te) (hg : Gl X "max") (hm : X.mg "max" = none) (h : nst e = true := by rfl) (hK : X.K = K := by rfl) :
    SE X (.Call (.Name "max" p) [e] [⟨some "default", .Constant .none j cpos, kpos⟩] pos) (tMxD K te) := by subst hK; exact ⟨pe_mxd hc he.h hg hm (star_of h)⟩
variable {σ : St} {H : Hp} {Q : VK} {te : TE}
theorem rd_mxd (h : te σ H fun x H1 => ∃ (a : Addr) (ns : List Int), x = .ref a ∧ SqL K H1 a (ns.map V.int) ∧ (ns = [] → Q .non H1) ∧ ∀ m, m ∈ ns → (∀ k ∈ ns, k ≤ m) → Q (.int m) H1) : tMxD K te σ H Q := h
theorem rd_ss (h : te σ H fun x H1 => ∃ a cs, x = .ref a ∧ SqL K H1 a (rv cs) ∧ (∀ c ∈ cs, CH H1 c) ∧ cs.length < 64 ∧ ∀ l cs', H1 l = none → cs'.length ≤ cs.length → (∀ c ∈ cs', c ∈ cs) → Sd (cs'.map (·.2)) → ((cs'.map (·.2)).Nodup ∧ ∀ c ∈ cs, c.2 ∈ cs'.map (·.2)) → Q (.ref l) (upd H1 l (.lst (rv cs')))) : tSS K te σ H Q := h
end
end L2

set_option Elab.async false
set_option linter.all false
set_option maxRecDepth 100000
namespace L2
open PySem PySem.Spec PyProof.Rows TS
section
variable {K : PySem.W.Frag} {H : Hp} {Q : VK}
abbrev Cells := List (Addr × Int × Int)
def dC (cs : Cells) : List Dv := cs.map fun c => Dv.tup (dI [c.2.1, c.2.2])
theorem den_cells : ∀ {cs : Cells}, (∀ c ∈ cs, CH H c) → DenL K H (dC cs) (rv cs)
  | [], _ => rfl
  | c :: cs, h => ⟨.ref c.1, rv cs, rfl, ⟨c.1, _, rfl, .of (h c (.head _)), den_ints (ns := [c.2.1, c.2.2])⟩, den_cells fun d hd => h d (.tail _ hd)⟩
theorem cmp_cells : ∀ {cs ds : Cells}, cmpL (dC cs) (dC ds) = true
  | [], _ => rfl
  | _ :: _, [] => rfl
  | c :: cs, d :: ds => by
    show (cmpL (dI [c.2.1, c.2.2]) (dI [d.2.1, d.2.2]) && cmpL (dC cs) (dC ds)) = true
    rw [cmp_ints, cmp_cells]; rfl
theorem dep_cells : ∀ {cs : Cells}, depL (dC cs) ≤ 1
  | [] => Nat.zero_le _
  | c :: cs => by
    show max (depL (dI [c.2.1, c.2.2]) + 1) (depL (dC cs)) ≤ 1
    have := @dep_cells cs
    have e : depL (dI [c.2.1, c.2.2]) = 0 := rfl
    omega
theorem eqv_cells : ∀ {cs ds : Cells}, eqvL (dC cs) (dC ds) = decide (cs.map (·.2) = ds.map (·.2))
  | [], [] => rfl
  | [], _ :: _ => rfl
  | _ :: _, [] => rfl
  | c :: cs, d :: ds => by
    show (eqvL (dI [c.2.1, c.2.2]) (dI [d.2.1, d.2.2]) && eqvL (dC cs) (dC ds)) = _
    rw [eqv_ints, eqv_cells, Bool.eq_iff_iff]
    simp [Prod.ext_iff]
theorem rd_eqC {a b : Addr} {cs ds : Cells} (h1 : SqT K H a (rv cs)) (h2 : SqT K H b (rv ds)) (hc : ∀ c ∈ cs, CH H c) (hd : ∀ c ∈ ds, CH H c) (h : Q (.bl (decide (cs.map (·.2) = ds.map (·.2)))) H) : rEqD K false (.ref a) (.ref b) H Q :=
  .inl ⟨dC cs, dC ds, ⟨a, _, rfl, h1, den_cells hc⟩, ⟨b, _, rfl, h2, den_cells hd⟩, cmp_cells, Nat.le_trans dep_cells (by decide), by rw [eqv_cells]; exact h⟩
theorem rd_neC {a b : Addr} {cs ds : Cells} (h1 : SqT K H a (rv cs)) (h2 : SqT K H b (rv ds)) (hc : ∀ c ∈ cs, CH H c) (hd : ∀ c ∈ ds, CH H c) (h : Q (.bl (!decide (cs.map (·.2) = ds.map (·.2)))) H) : rEqD K true (.ref a) (.ref b) H Q :=
  .inl ⟨dC cs, dC ds, ⟨a, _, rfl, h1, den_cells hc⟩, ⟨b, _, rfl, h2, den_cells hd⟩, cmp_cells, Nat.le_trans dep_cells (by decide), by rw [eqv_cells]; exact h⟩
theorem rd_srt {p : Addr} {cs : Cells} (h1 : SqL K H p (rv cs)) (hc : ∀ c ∈ cs, CH H c) (h64 : cs.length < 64) (h : ∀ l cs', H l = none → cs'.Perm cs → Sd (cs'.map (·.2)) → Q (.ref l) (upd H l (.lst (rv cs')))) : rSrt K [.ref p] H Q := ⟨p, cs, rfl, h1, hc, h64, h⟩
theorem CH.same {H' : Hp} {c : Addr × Int × Int} (h : CH H c) (s : Same H H') : CH H' c := s _ _ h
end
end L2
namespace L2
open PySem PySem.Spec PyProof.Rows TS
theorem rv_get {cs : Cells} {i : Nat} {v : V} (h : (rv cs)[i]? = some v) : ∃ c, cs[i]? = some c ∧ c ∈ cs ∧ v = .ref c.1 := by
  rw [List.getElem?_map] at h
  cases e : cs[i]? with
  | none => rw [e] at h; cases h
  | some c => rw [e] at h; exact ⟨c, rfl, List.mem_of_getElem? e, (Option.some.inj h).symm⟩
theorem take_next {α β : Type} {cs : List α} {i : Nat} {c : α} (f : α → β) (h : cs[i]? = some c) : (cs.take (i + 1)).map f = (cs.take i).map f ++ [f c] := by
  rw [List.take_succ, h]; simp
theorem ch_app {H H' : Hp} {ds : Cells} {p : Addr} {x y : Int} (h : ∀ c ∈ ds, CH H c) (s : Same H H') (hp : H' p = some (.tup [.int x, .int y])) : ∀ c ∈ ds ++ [(p, x, y)], CH H' c := fun c hc => by
  rcases List.mem_append.mp hc with z | z
  · exact (h c z).same s
  · rw [List.mem_singleton.mp z]; exact hp
theorem ch_all {H H' : Hp} {ds : Cells} (h : ∀ c ∈ ds, CH H c) (s : Same H H') : ∀ c ∈ ds, CH H' c := fun c hc => (h c hc).same s
theorem rd_tupL {K : PySem.W.Frag} {H : Hp} {Q : VK} {p : Addr} {ys : List V} (h1 : SqL K H p ys) (h : ∀ l, H l = none → Q (.ref l) (upd H l (.tup ys))) : rTupleQ K [.ref p] H Q := ⟨p, ys, rfl, .inl ⟨h1, h⟩⟩
theorem rv_len (cs : Cells) : (rv cs).length = cs.length := List.length_map _
theorem line300 {n : Nat} (h : n ≤ 300) : n ≤ sizeLine := Nat.le_trans h (by decide)
end L2

set_option Elab.async false
set_option linter.all false
set_option maxRecDepth 100000
set_option maxHeartbeats 4000000
namespace TS
open PySem PyProof.Rows Builtin Builtin.Str
section
variable {prog : Program} {w : World} {A : Around} {E : Value → Shared → Prop} {s : Shared}
/-- the parts of a text, as a new list -/
theorem split_push {x y : Str} {t u : Tok} {Q : Value → Shared → Prop} (hy : (y.length == 0) = false) (hsz : x.length + 2 ≤ sizeLine)
    (h : ∀ (l : List (Str × Tok)) k, l.map (·.1) = Txt.split x y → Q (.ref s.heap.objs.size) { s with heap := s.heap.push { cls := .type "list", data := .seq (strValues l).toArray }, toks := k }) : wpAny (model prog w) A (call (.builtin "str.split") [.str x t, .str y u]) Q E s := by
  have hn : (partsBetween x (occurrences x y 0 x.length (x.length + 1)) y.length).length ≤ sizeLine := by have e1 := StrLaws.occ_length_le x y 0 x.length (x.length + 1); rw [length_partsBetween]; omega
  cases h1 : (decide (x.length < y.length) || decide (strKind x < strKind y)) with
  | false =>
    cases hf : (occurrences x y 0 x.length (x.length + 1)).isEmpty with
    | false =>
      refine call_meets PySem.F.slot_str_split (typeIs_str _ _ _) PySem.F.entry_str_split (PySem.F.args_str_split_2 _ _) (meets_str_split_sep x y t u h1 hy hf (by omega) hn) (show wants Q E _ { s with toks := _, heap := s.heap.push { cls := .type "list", data := .seq (strsFrom s.toks (partsBetween x (occurrences x y 0 x.length (x.length + 1)) y.length)).toArray } } from ?_)
      rw [strsFrom_eq]
      exact h (numbered s.toks _) _ ((numbered_texts _ _).trans ((if_neg (ne_true_of_eq_false h1)).trans (if_neg (ne_true_of_eq_false hf))).symm)
    | true => exact call_meets PySem.F.slot_str_split (typeIs_str _ _ _) PySem.F.entry_str_split (PySem.F.args_str_split_2 _ _) (meets_str_split_not_found x y t u h1 hy hf) (h [(x, t)] s.toks ((if_neg (ne_true_of_eq_false h1)).trans (if_pos hf)).symm)
  | true => exact call_meets PySem.F.slot_str_split (typeIs_str _ _ _) PySem.F.entry_str_split (PySem.F.args_str_split_2 _ _) (meets_str_split_cannot_occur x y t u h1) (h [(x, t)] s.toks (if_pos h1).symm)
end
end TS
namespace L2
open PySem PySem.Spec PyProof.Rows TS
section
variable {X : Cx} {K : PySem.W.Frag}
def rLeS : R2 := fun x y H Q => ∃ i j, x = .str i ∧ y = .str j ∧ Q (.bl (!decide (j.cps.toList < i.cps.toList))) H
theorem op_le_str : OpR X (compareOp .LtE) rLeS := by
  intro pins s σ H x y v u Q I rx ry h
  obtain ⟨i, j, rfl, rfl, q⟩ := h
  obtain ⟨t, rfl⟩ := rx
  obtain ⟨t', rfl⟩ := ry
  exact P.le_str ⟨.bl _, H, I, rfl, q⟩
def rIntS : List V → Hp → VK → Prop := fun xs H Q => ∃ x n, xs = [.str x] ∧ PySem.intText? x = some n ∧ x.length ≤ 640 ∧ Q (.int n) H
theorem call_intS : CallR X (.type "int") rIntS := by
  intro pins s σ H xs us Q I r h
  obtain ⟨x, n, rfl, hn, hl, q⟩ := h
  obtain ⟨u, rfl, t, rfl⟩ := vals1 r
  exact PySem.W.KIN.call_text hn hl ⟨.int n, H, I.tok _, ⟨_, rfl⟩, q⟩
theorem strs_of : ∀ {ys : List Str} {us : List Value}, Vals (ys.map V.str) us → StrsAre us ys
  | [], _, .nil => .nil
  | y :: ys, _, .cons ⟨t, e⟩ r => by subst e; exact .cons _ _ (strs_of r)
theorem vals_strs : ∀ (l : List (Str × Tok)), Vals ((l.map (·.1)).map V.str) (strValues l)
  | [] => .nil
  | (x, t) :: l => .cons ⟨t, rfl⟩ (vals_strs l)
def rJoin (K : PySem.W.Frag) : V → List V → Hp → VK → Prop := fun x vs H Q => ∃ sep a ys, x = .str sep ∧ vs = [.ref a] ∧ SqL K H a (ys.map V.str) ∧ sep.length ≤ 16 ∧ (ys.map (·.length)).sum + ys.length ≤ 1048576 ∧ Q (.str (Txt.join sep ys)) H
theorem mt_join (hK : X.K = K := by rfl) : MtR X "str.join" (rJoin K) := by
  subst hK
  intro pins s σ H x xs v us Q I rx r h
  obtain ⟨sep, a, ys, rfl, rfl, hq, h1, h2, q⟩ := h
  obtain ⟨t, rfl⟩ := rx
  obtain ⟨u, rfl, ru⟩ := vals1 r
  cases ru
  obtain ⟨its, rv, pl, hz⟩ := I.list hq
  exact join_listW pl.isList (by simpa using strs_of rv) h1 h2 fun t' k => ⟨.str _, H, I.tok _, ⟨_, rfl⟩, q⟩
def rSplit : V → List V → Hp → VK → Prop := fun x vs H Q => ∃ z y, x = .str z ∧ vs = [.str y] ∧ 0 < y.length ∧ z.length ≤ 100000 ∧ (Txt.split z y).length ≤ sizeLine ∧ ∀ l, H l = none → Q (.ref l) (upd H l (.lst ((Txt.split z y).map V.str)))
theorem mt_split : MtR X "str.split" rSplit := by
  intro pins s σ H x xs v us Q I rx r h
  obtain ⟨z, y, rfl, rfl, h0, h1, h2, q⟩ := h
  obtain ⟨t, rfl⟩ := rx
  obtain ⟨u, rfl, t', rfl⟩ := vals1 r
  refine split_push (by simp; omega) (by rw [sizeLine_eq]; omega) fun l k e => ?_
  have e' : (Txt.split z y).map V.str = (l.map (·.1)).map V.str := by rw [e]
  refine ⟨.ref s.heap.objs.size, _, I.laid (t' := k) (o := .lst ((Txt.split z y).map V.str)) (fun b ob q => Heap.get?_push_of_some _ q) (Nat.le_refl _) ?_, rfl, q _ (I.hok.fresh (Nat.le_refl _))⟩
  exact ⟨by rw [List.length_map]; exact h2, _, 0, by rw [e']; exact vals_strs l, Heap.get?_push_size _ rfl⟩
def rStart : V → List V → Hp → VK → Prop := fun x vs H Q => ∃ z y, x = .str z ∧ vs = [.str y] ∧ Q (.bl (Txt.startswith z y)) H
theorem mt_startswith : MtR X "str.startswith" rStart := by
  intro pins s σ H x xs v us Q I rx r h
  obtain ⟨z, y, rfl, rfl, q⟩ := h
  obtain ⟨t, rfl⟩ := rx
  obtain ⟨u, rfl, t', rfl⟩ := vals1 r
  exact SC.startswith ⟨.bl _, H, I, rfl, q⟩
/-- None in a tuple of tuples -/
def rInN (K : PySem.W.Frag) : R2 := fun x y H Q => ∃ p xs, x = .non ∧ y = .ref p ∧ SqT K H p xs ∧ (∀ v ∈ xs, ∃ a ys, v = .ref a ∧ SqT K H a ys) ∧ Q (.bl false) H
theorem op_inN (hu : X.A.units + 64 < cLine) (hK : X.K = K := by rfl) : OpR X (compareOp .In) (rInN K) := by
  subst hK
  intro pins s σ H x y v u Q I rx ry h
  obtain ⟨p, xs, rfl, rfl, hq, al, q⟩ := h
  cases rx
  cases ry
  obtain ⟨its, r, pl, hz⟩ := I.tuple hq
  have hl := r.length
  refine SeqAt.in_tupleAt (fun _ => false) pl (fun y hy => ?_) ⟨.bl false, H, I, ?_, q⟩
  · obtain ⟨i, hi, e⟩ := List.mem_iff_getElem.mp (show y ∈ its from by simpa using hy)
    have hx : i < xs.length := by omega
    obtain ⟨u, hu, ru⟩ := r.get (List.getElem?_eq_getElem hx)
    rw [List.getElem?_eq_getElem hi] at hu
    have eu : y = u := e.symm.trans (Option.some.inj hu)
    subst eu
    obtain ⟨a, ys, ea, qa⟩ := al xs[i] (List.getElem_mem hx)
    rw [ea] at ru
    cases ru
    obtain ⟨_, _, pa, _⟩ := I.tuple qa
    exact SeqAt.EqAt.tuple_none pa (by show X.A.units + 1 < cLine; omega)
  · show Value.bool _ = Value.bool false
    rw [show its.toArray.any (fun _ => false) = false from by simp]
/-- a cell in a tuple, a list of cells -/
def rInC (K : PySem.W.Frag) (neg : Bool) : R2 := fun x y H Q => ∃ (p : Addr) (cs : Cells) (c : Addr × Int × Int), x = .ref c.1 ∧ y = .ref p ∧ (SqL K H p (rv cs) ∨ SqT K H p (rv cs)) ∧ CH H c ∧ (∀ d ∈ cs, CH H d) ∧ Q (.bl (if neg then !decide (c.2 ∈ cs.map (·.2)) else decide (c.2 ∈ cs.map (·.2)))) H
theorem any_cells {cs : Cells} {c : Addr × Int × Int} {e : Value → Bool} (he : ∀ d ∈ cs, e (rf d) = decide (d.2 = c.2)) : (cs.map rf).toArray.any e = decide (c.2 ∈ cs.map (·.2)) := by
  rw [Bool.eq_iff_iff]
  simp only [List.any_toArray, List.any_map, List.any_eq_true, Function.comp, decide_eq_true_eq, List.mem_map]
  constructor
  · rintro ⟨d, hd, h⟩
    rw [he d hd] at h
    exact ⟨d, hd, of_decide_eq_true h⟩
  · rintro ⟨d, hd, h⟩
    exact ⟨d, hd, by rw [he d hd]; exact decide_eq_true h⟩
theorem in_cells {neg : Bool} (hu : X.A.units + 64 < cLine) : OpR X (if neg then compareOp .NotIn else compareOp .In) (rInC X.K neg) := by
  intro pins s σ H x y v u Q I rx ry h
  obtain ⟨p, cs, c, rfl, rfl, hq, hc, hd, q⟩ := h
  cases rx
  cases ry
  have kk : ∀ d ∈ cs, kOf cs d.1 = [d.2.1, d.2.2] := fun d hm => kOf_is hd hm
  have eq : ∀ y ∈ (cs.map rf).toArray, SeqAt.EqAt X.A.in1 s y (.ref c.1) (decide (kOf cs (adr y) = [c.2.1, c.2.2])) := fun y hy => by
    obtain ⟨d, hm, rfl⟩ := List.mem_map.mp (show y ∈ cs.map rf from by simpa using hy)
    intro prog w E Q hQ
    refine wpAny_eqBool_tuple (knd := intKind prog w) (by show X.A.units + 1 < cLine; omega) ((hd d hm).co I).tk (hc.co I).tk ?_
    have e1 : kOf cs (adr (rf d)) = [d.2.1, d.2.2] := kk d hm
    rw [e1] at hQ
    exact hQ
  have ev : (cs.map rf).toArray.any (fun y => decide (kOf cs (adr y) = [c.2.1, c.2.2])) = decide (c.2 ∈ cs.map (·.2)) := any_cells fun d hm => by
    have e1 : kOf cs (adr (rf d)) = [d.2.1, d.2.2] := kk d hm
    rw [e1]
    exact decide_eq_decide.mpr ⟨fun z => by simp at z; exact Prod.ext z.1 z.2, fun z => by rw [z]⟩
  rcases hq with hq | hq
  · obtain ⟨its, r, pl, hz⟩ := I.list hq
    obtain rfl := vals_rv r
    cases neg with
    | false => exact SeqAt.in_listAt _ pl.isList eq ⟨.bl _, H, I, by rw [ev]; rfl, q⟩
    | true => exact SeqAt.notIn_listAt _ pl.isList eq ⟨.bl _, H, I, by rw [ev]; rfl, q⟩
  · obtain ⟨its, r, pl, hz⟩ := I.tuple hq
    obtain rfl := vals_rv r
    cases neg with
    | false => exact SeqAt.in_tupleAt _ pl eq ⟨.bl _, H, I, by rw [ev]; rfl, q⟩
    | true => exact SeqAt.notIn_tupleAt _ pl eq ⟨.bl _, H, I, by rw [ev]; rfl, q⟩
theorem op_inC (hu : X.A.units + 64 < cLine) (hK : X.K = K := by rfl) : OpR X (compareOp .In) (rInC K false) := by subst hK; exact in_cells (neg := false) hu
theorem op_notInC (hu : X.A.units + 64 < cLine) (hK : X.K = K := by rfl) : OpR X (compareOp .NotIn) (rInC K true) := by subst hK; exact in_cells (neg := true) hu
/-- the signs of a text, one by one -/
def Its (x : Str) : It := ⟨fun i _ => i < x.cps.size, fun i H v H' => H' = H ∧ ∃ c, x.cps[i]? = some c ∧ v = .str ⟨#[c]⟩, fun i _ => x.cps.size ≤ i⟩
theorem turn_str {P : Program} {w : World} {tg : Expr} (it : Addr) (x : Str) (t : Tok) : Turn P w K tg (Its x) [it] it (fun i h => i ≤ x.cps.size ∧ h.IsStrIter it "str_ascii_iterator" x t i) where
  mem := by simp
  obj := fun i h st b hb => by
    have e : b = it := by simpa using hb
    subst e
    obtain ⟨_, o, e, c, d⟩ := st
    exact ⟨o, e, fun v z => by rw [d] at z; cases z⟩
  keep := fun i h h' st k => ⟨st.1, let ⟨o, ho, r⟩ := st.2; ⟨o, k it (by simp) o ho, r⟩⟩
  item := by
    intro X hP hw hK hc i pins s σ H E I hf st hg
    subst hP hw hK
    obtain ⟨f0, f1, f2, f3, f4, f5⟩ := hf it (by simp)
    have hg : i < x.cps.size := hg
    refine wpAny_pyNext_ascii_item st.2 (c := x.cps[i]) (by simp [hg]) fun h' st' sb => ?_
    have I1 : Inv X pins σ H { s with heap := h', toks := s.toks + 1 } := I.turned (t' := s.toks + 1) (fun b o hb e => (sb.2 b hb).trans e) f0 f1 f3 f4 f5
    obtain ⟨o, e, c, d⟩ := id st'
    exact ⟨_, rfl, go_of (s := { s with heap := h', toks := s.toks + 1 }) e c d (by decide) ⟨.str ⟨#[x.cps[i]]⟩, H, I1, ⟨_, rfl⟩, ⟨rfl, _, by simp [hg], rfl⟩, ⟨hg, st'⟩, fun b hb => (hf b hb).1⟩⟩
  done := by
    intro X hP hw hK hc i pins s σ H E I hf st hg
    subst hP hw hK
    obtain ⟨f0, f1, f2, f3, f4, f5⟩ := hf it (by simp)
    have hg : x.cps.size ≤ i := hg
    exact wpAny_pyNext_ascii_end (I.ok.hd hc) st.2 (by simp [hg]) fun h' eb => ⟨rfl, I.turned (t' := s.toks) (fun b o hb e => eb b o hb e) f0 f1 f3 f4 f5⟩
  self := fun _ _ _ _ _ st h => wpAny_pyIter_striter_ascii st.2 h
def iStr (te : TE) : TI := fun σ H R => te σ H fun v H1 => ∃ x, v = .str x ∧ x.cps.all (· < 128) = true ∧ R (Its x) H1
theorem pi_str {tg e : Expr} {te : TE} (he : PE X e te) : PI X tg e (iStr te) := by
  intro pins s σ H R I h
  refine thn (he pins s σ H _ I h) fun v s1 ⟨x, H1, I1, r1, z, ex, ha, q⟩ => ?_
  subst ex
  obtain ⟨t, rfl⟩ := r1
  refine wpAny_pyIter_ascii ha ?_
  have hfr : H1 s1.heap.objs.size = none := I1.hok.fresh (Nat.le_refl _)
  refine ⟨s1.heap.objs.size, [s1.heap.objs.size], _, Its z, H1, rfl, I1.kept (t' := s1.toks) fun b o e => Heap.get?_push_of_some _ e, turn_str s1.heap.objs.size z t, ⟨Nat.zero_le _, _, Heap.get?_push_size _ rfl, rfl, rfl⟩, fun b hb => ?_, q⟩
  have e : b = s1.heap.objs.size := by simpa using hb
  subst e
  exact I1.fpOk (Nat.le_refl _) hfr
theorem qstr {tg e : Expr} {te : TE} (he : SE X e te) : SI X tg e (iStr te) := ⟨pi_str he.h⟩
end
section
variable {σ σc : St} {H : Hp} {g : TG} {tt : TT} {te : TE} {Qd : List V → Hp → Prop}
theorem rd_istr {R : It → Hp → Prop} (h : te σ H fun v H1 => ∃ x, v = .str x ∧ x.cps.all (· < 128) = true ∧ R (Its x) H1) : iStr te σ H R := h
theorem comp_str {x : Str} (Pv : Nat → List V → St → Hp → Prop) (h0 : Pv 0 [] σc H)
    (hl : ∀ i ys σ H, i < x.cps.size → Pv i ys σ H → ys.length < sizeLine)
    (hs : ∀ i c ys σ H, x.cps[i]? = some c → Pv i ys σ H → g (.str ⟨#[c]⟩) σ H fun σ2 H2 => tt σ2 H2 fun c H3 => if c = true then te σ2 H3 fun y H4 => Pv (i + 1) (ys ++ [y]) σ2 H4 else Pv (i + 1) ys σ2 H3)
    (hd : ∀ ys σ H, Pv x.cps.size ys σ H → Qd ys H) : tCompL (Its x) g tt te σc H Qd := by
  refine ⟨fun i m ys σ H => m = x.cps.size - i ∧ i ≤ x.cps.size ∧ Pv i ys σ H, ⟨x.cps.size, by simp, Nat.zero_le _, h0⟩, ?_⟩
  rintro i m ys σ H ⟨rfl, hi, p⟩
  by_cases hlt : i < x.cps.size
  · refine .inr ⟨hlt, hl i ys σ H hlt p, Pv (i + 1), fun zs σ' H' p' => ⟨x.cps.size - (i + 1), by omega, rfl, hlt, p'⟩, fun v H' y => ?_⟩
    obtain ⟨e, c, hc, rfl⟩ := y
    subst e
    exact hs i c ys σ _ hc p
  · have e : i = x.cps.size := by omega
    subst e
    exact .inl ⟨Nat.le_refl _, hd ys σ H p⟩
end
end L2

set_option Elab.async false
set_option linter.all false
set_option maxRecDepth 100000
set_option maxHeartbeats 2000000
namespace TX
open PySem PySem.Builtin PySem.Builtin.Str
abbrev ls (x : Str) : List Nat := x.cps.toList
theorem str_ext {x y : Str} (h : ls x = ls y) : x = y := by
  cases x; cases y
  exact congrArg Str.mk (Array.toList_inj.mp h)
/-- parts with a sign between -/
def jn (c : Nat) : List (List Nat) → List Nat
  | [] => []
  | a :: l => a ++ l.flatMap fun p => c :: p
theorem fold_ls (g : Array Nat) : ∀ (l : List Str) (a : Array Nat), (l.foldl (fun acc p => acc ++ g ++ p.cps) a).toList = a.toList ++ l.flatMap fun p => g.toList ++ p.cps.toList
  | [], a => by simp
  | p :: l, a => by rw [List.foldl_cons, fold_ls g l]; simp
theorem glued_ls (c : Nat) (ps : List Str) : ls (glued ⟨#[c]⟩ ps) = jn c (ps.map ls) := by
  cases ps with
  | nil => rfl
  | cons p ps =>
    show ((List.drop 1 (p :: ps)).foldl (fun acc q => acc ++ (#[c] : Array Nat) ++ q.cps) ((p :: ps).headD Str.empty).cps).toList = _
    rw [fold_ls]
    simp only [jn, List.map_cons, List.flatMap_map, List.drop_one, List.tail_cons, List.headD_cons]
    rfl
theorem fm_tw (c : Nat) : ∀ (l : List (List Nat)), (l.flatMap fun p => c :: p).takeWhile (· != c) = []
  | [] => rfl
  | p :: l => by simp
theorem tw_app {c : Nat} {a b : List Nat} (h : c ∉ a) (hb : b.takeWhile (· != c) = []) : (a ++ b).takeWhile (· != c) = a := by
  induction a with
  | nil => simpa using hb
  | cons x a ih =>
    have hx : (x != c) = true := by simp; exact fun e => h (by simp [e])
    rw [List.cons_append, List.takeWhile_cons, if_pos hx, ih fun m => h (.tail _ m)]
theorem jn_inj {c : Nat} : ∀ (l m : List (List Nat)) (a b : List Nat), (∀ p ∈ a :: l, c ∉ p) → (∀ p ∈ b :: m, c ∉ p) → (a ++ l.flatMap fun p => c :: p) = (b ++ m.flatMap fun p => c :: p) → a = b ∧ l = m
  | l, m, a, b, hl, hm, e => by
    have ha : a = b := by
      have := congrArg (List.takeWhile (· != c)) e
      rw [tw_app (hl a (.head _)) (fm_tw c l), tw_app (hm b (.head _)) (fm_tw c m)] at this
      exact this
    subst ha
    have e2 := List.append_cancel_left e
    cases l with
    | nil =>
      cases m with
      | nil => exact ⟨rfl, rfl⟩
      | cons q m => simp at e2
    | cons p l =>
      cases m with
      | nil => simp at e2
      | cons q m =>
        simp only [List.flatMap_cons, List.cons_append] at e2
        have e3 := (List.cons.inj e2).2
        obtain ⟨r1, r2⟩ := jn_inj l m p q (fun x hx => hl x (.tail _ hx)) (fun x hx => hm x (.tail _ hx)) e3
        exact ⟨rfl, by rw [r1, r2]⟩
termination_by l => l.length
theorem join_split (x : Str) (c : Nat) : glued ⟨#[c]⟩ (Txt.split x ⟨#[c]⟩) = x := by
  unfold Txt.split
  split
  · exact str_ext (by rw [glued_ls]; simp [jn])
  · split
    · exact str_ext (by rw [glued_ls]; simp [jn])
    · exact StrLaws.glued_between_self x ⟨#[c]⟩ _
theorem split_of {x : Str} {c : Nat} {p : Str} {ps : List Str} (h : ls x = jn c ((p :: ps).map ls)) (hc : ∀ q ∈ p :: ps, c ∉ ls q) : Txt.split x ⟨#[c]⟩ = p :: ps := by
  have hs := join_split x c
  have hf := StrLaws.split_free x c
  cases hq : Txt.split x ⟨#[c]⟩ with
  | nil =>
    have := PyProof.Rows.split_pos x ⟨#[c]⟩
    rw [hq] at this
    simp at this
  | cons q qs =>
    rw [hq] at hs hf
    have e : jn c ((q :: qs).map ls) = jn c ((p :: ps).map ls) := by rw [← glued_ls, hs, h]
    obtain ⟨e1, e2⟩ := jn_inj (qs.map ls) (ps.map ls) (ls q) (ls p) (fun z hz => by
        rcases List.mem_cons.mp hz with rfl | hz
        · exact hf q (.head _)
        · obtain ⟨y, hy, rfl⟩ := List.mem_map.mp hz; exact hf y (.tail _ hy)) (fun z hz => by
        rcases List.mem_cons.mp hz with rfl | hz
        · exact hc p (.head _)
        · obtain ⟨y, hy, rfl⟩ := List.mem_map.mp hz; exact hc y (.tail _ hy)) e
    have inj : ∀ (a b : List Str), a.map ls = b.map ls → a = b := fun a b => by
      induction a generalizing b with
      | nil => intro h; cases b with | nil => rfl | cons _ _ => simp at h
      | cons x a ih =>
        intro h
        cases b with
        | nil => simp at h
        | cons y b =>
          simp only [List.map_cons, List.cons.injEq] at h
          rw [str_ext h.1, ih b h.2]
    rw [str_ext e1, inj _ _ e2]
/-- a number's figures -/
def dg (m : Nat) : List Nat := (Nat.toDigits 10 m).map Char.toNat
theorem dg_step {m : Nat} (h : 10 ≤ m) : dg m = dg (m / 10) ++ [(Nat.digitChar (m % 10)).toNat] := by
  have hm : m % 10 < 10 := Nat.mod_lt m (by decide)
  have t : Nat.toDigits 10 (m / 10) ++ Nat.toDigits 10 (m % 10) = Nat.toDigits 10 (10 * (m / 10) + m % 10) := Nat.toDigits_append_toDigits (by decide) (by omega) hm
  rw [Nat.div_add_mod] at t
  unfold dg
  rw [← t, List.map_append, Nat.toDigits_of_lt_base hm]
  rfl
theorem dg_one {m : Nat} (h : m < 10) : dg m = [(Nat.digitChar m).toNat] := by
  unfold dg
  rw [Nat.toDigits_of_lt_base h]; rfl
theorem dc : ∀ d : Nat, d < 10 → (Nat.digitChar d).toNat = 48 + d := by decide
theorem dg_all (m : Nat) : ∀ c ∈ dg m, 48 ≤ c ∧ c ≤ 57 := by
  induction m using Nat.strongRecOn with
  | _ m ih =>
    by_cases h : m < 10
    · rw [dg_one h]; intro c hc; rw [List.mem_singleton.mp hc, dc m h]; omega
    · rw [dg_step (by omega)]
      intro c hc
      rcases List.mem_append.mp hc with z | z
      · exact ih (m / 10) (by omega) c z
      · rw [List.mem_singleton.mp z, dc _ (Nat.mod_lt m (by decide))]; have := Nat.mod_lt m (show 0 < 10 by decide); omega
theorem dg_len : ∀ (k m : Nat), 1 ≤ k → m < 10 ^ k → 1 ≤ (dg m).length ∧ (dg m).length ≤ k
  | 0, m, h, _ => by omega
  | 1, m, _, h => by rw [dg_one (by simpa using h)]; simp
  | k + 2, m, _, h => by
    by_cases c : m < 10
    · rw [dg_one c]; simp
    · rw [dg_step (by omega), List.length_append]
      have := dg_len (k + 1) (m / 10) (by omega) (by rw [Nat.div_lt_iff_lt_mul (by decide)]; rw [Nat.pow_succ] at h; exact h)
      simp; omega
theorem dg_head (m : Nat) : ∃ c r, dg m = c :: r ∧ (m = 0 → r = [] ∧ c = 48) ∧ (m ≠ 0 → c ≠ 48) := by
  induction m using Nat.strongRecOn with
  | _ m ih =>
    by_cases h : m < 10
    · refine ⟨_, [], dg_one h, fun z => ⟨rfl, by rw [z]; rfl⟩, fun z => by rw [dc m h]; omega⟩
    · obtain ⟨c, r, e, _, h2⟩ := ih (m / 10) (by omega)
      exact ⟨c, r ++ [_], by rw [dg_step (by omega), e]; rfl, fun z => by omega, fun _ => h2 (by omega)⟩
def nm (n : Int) : List Nat := if n < 0 then 45 :: dg n.natAbs else dg n.natAbs
theorem nm_is (n : Int) : ls (Str.ofString (toString n)) = nm n := by
  cases n with
  | ofNat m => 
    have : nm (Int.ofNat m) = dg m := by unfold nm; rw [if_neg (by simp)]; rfl
    rw [this]; exact PySem.W.KIN.signs_num m
  | negSucc m =>
    have e0 : nm (Int.negSucc m) = 45 :: dg (m + 1) := by unfold nm; rw [if_pos (Int.negSucc_lt_zero m)]; rfl
    rw [e0]
    show (Str.ofString ("-" ++ Nat.repr (m + 1))).cps.toList = _
    rw [PyProof.Rows.signs_ofString, String.toList_append, List.map_append]
    unfold dg
    rw [Nat.toList_repr]
    rfl
theorem nm_reads {n : Int} (h : n.natAbs < 10 ^ 20) : intText? (Str.ofString (toString n)) = some n := by
  have hl := dg_len 20 n.natAbs (by decide) h
  have hne : dg n.natAbs ≠ [] := fun e => by rw [e] at hl; simp at hl
  have lz : (Str.ofString (toString n)).length = (nm n).length := by rw [← nm_is]; simp [Str.length]
  have vb := PySem.W.KIN.val_back n.natAbs
  unfold nm at lz
  by_cases c : n < 0
  · rw [if_pos c] at lz
    have e := intText_neg (x := Str.ofString (toString n)) (cs := dg n.natAbs) (by rw [show (Str.ofString (toString n)).cps.toList = nm n from nm_is n]; unfold nm; rw [if_pos c]) (dg_all _) hne (by rw [lz]; simp; omega)
    rw [e]
    have   : NumText.digitsVal (dg n.natAbs) = n.natAbs := vb
    rw [this]
    congr 1; omega
  · rw [if_neg c] at lz
    have en : (Str.ofString (toString n)).cps.toList = dg n.natAbs := by rw [show (Str.ofString (toString n)).cps.toList = nm n from nm_is n]; unfold nm; rw [if_neg c]
    have e := intText_digits (x := Str.ofString (toString n)) (by rw [en]; exact dg_all _) (by rw [en]; exact hne) (by rw [lz]; omega)
    rw [e, en]
    have   : NumText.digitsVal (dg n.natAbs) = n.natAbs := vb
    rw [this]
    congr 1; omega
end TX

set_option Elab.async false
set_option linter.all false
set_option maxRecDepth 100000
set_option maxHeartbeats 2000000
namespace L2
open PySem PySem.Spec PyProof.Rows TS
section
variable {X : Cx} {K : PySem.W.Frag}
theorem picked_from (z : Str) (n : Nat) (tk : Tok) : slicePicked z (some ((n : Int), tk)) none none = (List.range (z.length - n)).map fun k => n + k := by
  unfold slicePicked Builtin.Str.strSliceIndices
  simp only [Option.map_some, Option.map_none, Option.getD_none]
  rw [if_pos (by decide), if_neg (by omega), if_pos (by decide)]
  unfold sliceRange
  rw [if_pos (by decide)]
  rcases Nat.lt_or_ge n z.length with c | c
  · have e1 : max (0 : Int) (min (n : Int) (z.length : Int)) = n := by omega
    rw [e1, if_pos (by omega)]
    have e2 : (((z.length : Int) - n + 1 - 1) / 1).toNat = z.length - n := by omega
    dsimp only
    rw [e2]
    refine List.map_congr_left fun k _ => ?_
    omega
  · have e1 : max (0 : Int) (min (n : Int) (z.length : Int)) = z.length := by omega
    rw [e1, if_neg (by omega)]
    rw [show z.length - n = 0 by omega]
    rfl
theorem picked_ls (z : Str) (n : Nat) : (((List.range (z.length - n)).map fun k => n + k).filterMap (z.cps[·]?)) = z.cps.toList.drop n := by
  rw [List.filterMap_map]
  refine List.ext_getElem? fun i => ?_
  rw [List.getElem?_drop]
  have e : ∀ (m : Nat), m ≤ z.length - n → (List.range m).filterMap ((fun x => z.cps[x]?) ∘ fun k => n + k) = (z.cps.toList.drop n).take m := fun m => by
    induction m with
    | zero => intro _; simp
    | succ m ih =>
      intro hm
      have hz : n + m < z.cps.size := by have : z.length = z.cps.size := rfl; omega
      rw [List.range_succ, List.filterMap_append, ih (by omega), List.take_succ]
      congr 1
      simp [hz]
  rw [e _ (Nat.le_refl _), List.take_of_length_le (by simp [Str.length]), List.getElem?_drop]
def rSlS : V → Option Int → Option Int → Hp → VK → Prop := fun x lo hi H Q => ∃ (z : Str) (n : Nat), x = .str z ∧ lo = some (n : Int) ∧ hi = none ∧ z.length ≤ 100000 ∧ Q (.str ⟨(z.cps.toList.drop n).toArray⟩) H
theorem sl_str : SlR X rSlS := by
  intro pins s σ H x v vl vu lo hi sl Q I rx hs pl pu h
  obtain ⟨z, n, rfl, rfl, rfl, hz, q⟩ := h
  obtain ⟨t, rfl⟩ := rx
  cases pu
  obtain ⟨tk, rfl⟩ : ∃ tk, vl = .int n tk := by cases pl with | int i tk => exact ⟨tk, rfl⟩
  refine ⟨"str", _, PySem.F.slot_str_getitem.lookup, typeIs_str s z t, wpAny_getItem_str_slice (l := some ((n : Int), tk)) (u := none) (st := none) hs rfl ?_⟩
  unfold sliceMade
  rw [picked_from, picked_ls]
  split
  · rename_i c
    have e : z.cps.toList.drop n = z.cps.toList := by
      simp only [Bool.and_eq_true, beq_iff_eq, List.length_map, List.length_range] at c
      rcases Nat.eq_zero_or_pos n with h0 | h0
      · rw [h0]; rfl
      · have : z.length = 0 := by omega
        have : z.cps.toList = [] := List.length_eq_zero_iff.mp (by simpa [Str.length] using this)
        rw [this]; simp
    rw [e] at q
    exact ⟨.str _, H, I, ⟨t, rfl⟩, q⟩
  · refine ⟨?_, ⟨.str _, H, I.tok _, ⟨_, rfl⟩, q⟩⟩
    show ((z.cps.toList.drop n).toArray).size ≤ _
    rw [sizeLine_eq]
    simp
    have : z.length = z.cps.size := rfl
    omega
/-- a statement that is not reached -/
theorem ss_never {st : Stmt} : SS X st (fun _ _ _ => False) := ⟨fun _ _ _ _ _ _ h => h.elim⟩
theorem pe_glob' {x : Str} {v : V} {u : Value} {pos : Pos} (hg : Gl X x) (hm : X.mg x = some u) (r : RelV v u) (hd : (x == ("__debug__" : Str)) = false := by decide) : SE X (.Name x pos) (tC v) := ⟨pe_glob hg hm r hd⟩
variable {σ : St} {H : Hp} {Q : VK}
theorem rd_slS {z : Str} {n : Nat} (hz : z.length ≤ 100000) (h : Q (.str ⟨(z.cps.toList.drop n).toArray⟩) H) : rSlS (.str z) (some (n : Int)) none H Q := ⟨z, n, rfl, rfl, rfl, hz, h⟩
theorem rd_join {sep : Str} {a : Addr} {ys : List Str} (hq : SqL K H a (ys.map V.str)) (h1 : sep.length ≤ 16) (h2 : (ys.map (·.length)).sum + ys.length ≤ 1048576) (h : Q (.str (Txt.join sep ys)) H) : rJoin K (.str sep) [.ref a] H Q := ⟨sep, a, ys, rfl, rfl, hq, h1, h2, h⟩
end
end L2

set_option Elab.async false
set_option linter.all false
set_option maxRecDepth 100000
set_option maxHeartbeats 2000000
namespace TX
open PySem PySem.Builtin PySem.Builtin.Str TS L2
def tn (n : Int) : Str := Str.ofString (toString n)
abbrev sC : Str := Str.ofString ","
abbrev sB : Str := Str.ofString " "
abbrev sD : Str := Str.ofString "."
abbrev sM : Str := Str.ofString "-"
theorem eC : sC = ⟨#[44]⟩ := by rfl
theorem eB : sB = ⟨#[32]⟩ := by rfl
theorem eM : sM = ⟨#[45]⟩ := by rfl
def wd (p : Int × Int) : Str := Txt.join sC [tn p.1, tn p.2]
def txt (ps : List (Int × Int)) : Str := if ps = [] then sD else Txt.join sB (ps.map wd)
theorem nm_sign {n : Int} {c : Nat} (h : c ∈ nm n) : c = 45 ∨ (48 ≤ c ∧ c ≤ 57) := by
  unfold nm at h
  split at h
  · rcases List.mem_cons.mp h with z | z
    · exact .inl z
    · exact .inr (dg_all _ c z)
  · exact .inr (dg_all _ c h)
theorem ls_tn (n : Int) : ls (tn n) = nm n := nm_is n
theorem ls_wd (p : Int × Int) : ls (wd p) = nm p.1 ++ 44 :: nm p.2 := by
  unfold wd Txt.join
  rw [eC, glued_ls]
  simp [jn, ls_tn]
theorem wd_sign {p : Int × Int} {c : Nat} (h : c ∈ ls (wd p)) : c = 44 ∨ c = 45 ∨ (48 ≤ c ∧ c ≤ 57) := by
  rw [ls_wd] at h
  rcases List.mem_append.mp h with z | z
  · exact .inr (nm_sign z)
  · rcases List.mem_cons.mp z with z | z
    · exact .inl z
    · exact .inr (nm_sign z)
theorem split_wd (p : Int × Int) : Txt.split (wd p) sC = [tn p.1, tn p.2] := by
  rw [eC]
  refine split_of (by rw [ls_wd]; simp [jn, ls_tn]) fun q hq => ?_
  have : ∀ n : Int, 44 ∉ ls (tn n) := fun n h => by rw [ls_tn] at h; have := nm_sign h; omega
  rcases List.mem_cons.mp hq with rfl | hq
  · exact this _
  · rw [List.mem_singleton.mp hq]; exact this _
theorem split_txt {ps : List (Int × Int)} (h : ps ≠ []) : Txt.split (txt ps) sB = ps.map wd := by
  cases ps with
  | nil => exact absurd rfl h
  | cons p ps =>
    rw [eB, List.map_cons]
    refine split_of ?_ fun q hq => ?_
    · unfold txt Txt.join
      rw [if_neg h, eB, glued_ls]
      rfl
    · obtain ⟨r, _, rfl⟩ := List.mem_map.mp (show q ∈ (p :: ps).map wd from hq)
      intro m
      have := wd_sign m
      omega
theorem nm_len {n : Int} (h : n.natAbs ≤ 10 ^ 18) : 1 ≤ (nm n).length ∧ (nm n).length ≤ 20 := by
  have := dg_len 19 n.natAbs (by decide) (Nat.lt_of_le_of_lt h (by decide))
  unfold nm
  split
  · simp; omega
  · omega
theorem len_ls (x : Str) : x.length = (ls x).length := by simp [Str.length]
theorem wd_len {p : Int × Int} (h1 : p.1.natAbs ≤ 10 ^ 18) (h2 : p.2.natAbs ≤ 10 ^ 18) : 3 ≤ (wd p).length ∧ (wd p).length ≤ 41 := by
  rw [len_ls, ls_wd]
  have := nm_len h1
  have := nm_len h2
  simp; omega
abbrev Bds (ps : List (Int × Int)) : Prop := ∀ p ∈ ps, p.1.natAbs ≤ 10 ^ 18 ∧ p.2.natAbs ≤ 10 ^ 18
theorem fm_len : ∀ {ps : List (Int × Int)}, Bds ps → (ps.flatMap fun p => 32 :: ls (wd p)).length ≤ 42 * ps.length
  | [], _ => by simp
  | p :: ps, h => by
    have a := fm_len fun q hq => h q (.tail _ hq)
    have b := wd_len (h p (.head _)).1 (h p (.head _)).2
    rw [List.flatMap_cons, List.length_append, List.length_cons, List.length_cons, ← len_ls]
    omega
theorem ls_txt {ps : List (Int × Int)} (h : ps ≠ []) : 32 :: ls (txt ps) = ps.flatMap fun p => 32 :: ls (wd p) := by
  cases ps with
  | nil => exact absurd rfl h
  | cons p ps =>
    unfold txt Txt.join
    rw [if_neg h, eB, glued_ls]
    simp [jn, List.flatMap_map]
theorem txt_len {ps : List (Int × Int)} (h : Bds ps) (hz : ps.length ≤ 40) : (txt ps).length ≤ 1700 := by
  by_cases e : ps = []
  · subst e; show (sD).length ≤ _; decide
  · have := fm_len h
    rw [← ls_txt e, List.length_cons, ← len_ls] at this
    omega
theorem txt_ne {ps : List (Int × Int)} (h : Bds ps) (e : ps ≠ []) : txt ps ≠ sD := fun z => by
  cases ps with
  | nil => exact e rfl
  | cons p ps =>
    have l := ls_txt e
    rw [z] at l
    have l2 := congrArg List.length l
    rw [List.flatMap_cons, List.length_append, List.length_cons, List.length_cons, ← len_ls (wd p)] at l2
    have b := wd_len (h p (.head _)).1 (h p (.head _)).2
    have : (ls sD).length = 1 := by rfl
    omega
theorem sw_tn (n : Int) : Txt.startswith (tn n) sM = decide (n < 0) := by
  have e := ls_tn n
  obtain ⟨c, r, ec, _⟩ := dg_head n.natAbs
  have key : ∀ (z : Str) (a : Nat) (b : List Nat), ls z = a :: b → Txt.startswith z sM = decide (a = 45) := fun z a b h => by
    unfold Txt.startswith
    have h1 : decide (0 + sM.length ≤ z.length) = true := decide_eq_true (by rw [len_ls z, h]; show 1 ≤ _; simp)
    rw [h1, Bool.true_and]
    unfold subAt
    have h2 : z.cps.extract 0 (0 + sM.length) = #[a] := by
      apply Array.toList_inj.mp
      rw [Array.toList_extract]
      show List.take (0 + 1 - 0) (List.drop 0 (ls z)) = [a]
      rw [h]; rfl
    rw [h2]
    show (#[a] == (sM).cps) = _
    rw [eM]
    rw [Bool.eq_iff_iff]
    simp
  by_cases c0 : n < 0
  · rw [key _ 45 (dg n.natAbs) (by rw [e]; unfold nm; rw [if_pos c0]), decide_eq_true c0]; rfl
  · have := dg_all n.natAbs c (by rw [ec]; simp)
    rw [key _ c r (by rw [e]; unfold nm; rw [if_neg c0, ec]), decide_eq_false c0]
    exact decide_eq_false (by omega)
/-- the figures alone -/
def tdg (n : Int) : Str := ⟨(dg n.natAbs).toArray⟩
theorem ls_tdg (n : Int) : ls (tdg n) = dg n.natAbs := rfl
theorem cut_neg {n : Int} (h : n < 0) : (⟨((tn n).cps.toList.drop 1).toArray⟩ : Str) = tdg n := by
  have e : (tn n).cps.toList = 45 :: dg n.natAbs := by rw [show (tn n).cps.toList = nm n from ls_tn n]; unfold nm; rw [if_pos h]
  rw [e]; rfl
theorem cut_pos {n : Int} (h : ¬ n < 0) : tn n = tdg n := str_ext (by rw [ls_tn, ls_tdg]; unfold nm; rw [if_neg h])
theorem tn_zero : tn 0 = Str.ofString "0" := rfl
theorem tdg_ascii (n : Int) : (tdg n).cps.all (· < 128) = true := by
  rw [← Array.all_toList]
  rw [List.all_eq_true]
  intro c hc
  have := dg_all n.natAbs c hc
  exact decide_eq_true (by omega)
end TX

set_option Elab.async false
set_option linter.all false
set_option maxRecDepth 100000
set_option maxHeartbeats 4000000
namespace Law
open PySem PySem.Spec PyProof.Rows L2
def top (i : Nat) : Stmt := PySem.Challenge.pw_healfloor_k43_islands_written_and_read.main.body.getD i (.Pass ⟨0, 0, 0, 0⟩)
/-- what the top has not rebound -/
structure Txt (K : PySem.W.Frag) (mg : Str → Option Value) : Prop where
  b_all : mg "all" = none
  b_bool : mg "bool" = none
  b_int : mg "int" = none
  b_isinstance : mg "isinstance" = none
  b_len : mg "len" = none
  b_list : mg "list" = none
  b_max : mg "max" = none
  b_range : mg "range" = none
  b_reversed : mg "reversed" = none
  b_set : mg "set" = none
  b_sorted : mg "sorted" = none
  b_str : mg "str" = none
  b_tuple : mg "tuple" = none
  b_zip : mg "zip" = none
  c_EMPTY : ∃ u, mg "EMPTY" = some u ∧ RelV (.str (Str.ofString ".")) u
  c_MOST_FIGURES : ∃ u, mg "MOST_FIGURES" = some u ∧ RelV (.int 19) u
local macro_rules | `(tactic| walk_at "rd1") => `(tactic| with_reducible first
  | refine rd_seq ?_ | refine rd_asg ?_ | refine rd_name ?_ | refine rd_gcons ?_ | refine rd_gnil ?_ | refine rd_ret ?_ | refine rd_retN ?_ | refine rd_next ?_ | refine rd_drop ?_ | refine rd_ifs ?_ | refine rd_par ?_ | refine rd_dput ?_
  | refine rd_c ?_ | refine rd_op ?_ | refine rd_un ?_ | refine rd_rU ?_ | refine rd_if ?_ | refine rd_test ?_ | refine rd_B ?_ | refine rd_not ?_ | refine rd_and ?_ | refine rd_or ?_ | refine rd_andV ?_ | refine rd_orV ?_ | refine rd_notV ?_ | refine rd_yes ?_
  | refine rd_nil ?_ | refine rd_cons ?_ | refine rd_I0 ?_ | refine rd_call ?_ | refine rd_CB ?_ | refine rd_dget ?_ | refine rd_bm0 ?_ | refine rd_bm ?_ | refine rd_sl ?_ | refine rd_noPart ?_ | refine rd_part ?_ | refine rd_bl ?_ | refine rd_int ?_ | refine rd_tup ?_ | refine rd_lst ?_ | refine rd_for ?_ | refine rd_ilist ?_ | refine rd_itup ?_ | refine rd_irng1 ?_ | refine rd_irng2 ?_ | refine rd_comp ?_ | refine rd_listrev ?_ | refine rd_disp ?_ | refine rd_pcons ?_ | refine rd_pnil ?_ | refine rd_tru ?_ | refine rd_chain ?_ | refine rd_isiI ?_ | refine rd_isiB ?_ | refine iteNT ?_ | refine iteNF ?_ | refine iteT ?_ | refine iteF ?_
  | ((show tVar _ _ _ _); with_unfolding_all refine ⟨_, rfl, ?_⟩))
local macro_rules | `(tactic| walk_at "rd") => `(tactic| ((repeat walk_at "rd1"); try (with_reducible first | change rI _ _ _ _ _ _ | change rEq _ _ _ _ | change rNe _ _ _ _ | change rIxT _ _ _ _ _ | change rIxL _ _ _ _ _ | change rEqD _ _ _ _ _ _ | change rSlT _ _ _ _ _ _ | change rSlL _ _ _ _ _ _ | change rLenQ _ _ _ _ | change rIsi _ _ _ _ _ _ | change rAll _ _ _ _ | change rAny _ _ _ _ | change gTup _ _ _ _ _ _ _ | change gLst _ _ _ _ _ _ _ | change And _ _ | change Exists _ | change ite _ _ _)))

local macro_rules | `(tactic| walk_at "bn1") => `(tactic| ((with_reducible change BN _ _); first | assumption | exact BN.lit' rfl | with_reducible refine' BN.mul ?_ ?_ | with_reducible refine' BN.add ?_ ?_ | with_reducible refine' BN.sub ?_ ?_ | with_reducible refine' BN.neg ?_))
local macro_rules | `(tactic| walk_at "bn") => `(tactic| (refine' BN.mono ?h ?l; (case h => repeat' walk_at "bn1"); (case l => decide)))
local macro_rules | `(tactic| walk_at "ix") => `(tactic| ((with_reducible change rIxT _ _ _ _ _); (refine' rd_ixT (SqT.of ?h) ?e ?_); (case h => assumption); (case e => rfl)))
local macro_rules | `(tactic| walk_at "mu") => `(tactic| ((with_reducible change rI _ _ _ _ _ _); (refine rd_I ⟨?a, ?b⟩ ?_); (case a => walk_at "bn"); (case b => walk_at "bn")))
local macro_rules | `(tactic| walk_at "pw") => `(tactic| ((with_reducible change rI CPow _ _ _ _ _); (refine rd_I ⟨?a, ?b, ?c⟩ ?_); (case a => decide); (case b => decide); (case c => decide)))
local macro_rules | `(tactic| walk_at "rx") => `(tactic| ((repeat (first | walk_at "rd1" | walk_at "ix" | walk_at "pw" | walk_at "mu")); try walk_at "rd"))

open TS TX
/-- an island: its tuple, its cells -/
structure Isl (H : Hp) (t : Addr) (cs : Cells) : Prop where
  t : H t = some (.tup (rv cs))
  c : ∀ c ∈ cs, CH H c
  z : cs.length ≤ 40
theorem Isl.same {H H' : Hp} {t : Addr} {cs : Cells} (h : Isl H t cs) (s : Same H H') : Isl H' t cs := ⟨s _ _ h.t, ch_all h.c s, h.z⟩
theorem Isl.kp {H H' : Hp} {t d l : Addr} {cs : Cells} (h : Isl H t cs) (s : Kp d l H H') (hD : Deal H d l) : Isl H' t cs := ⟨s.tup hD h.t, fun c hc => s.tup hD (h.c c hc), h.z⟩
theorem Deal.up {H : Hp} {d l q : Addr} {o : HO} (h : Deal H d l) (h1 : q ≠ d) (h2 : q ≠ l) : Deal (upd H q o) d l := by
  obtain ⟨s, n, ls, a, b, c⟩ := h
  exact ⟨s, n, ls, by rw [upd_ne (Ne.symm h1)]; exact a, by rw [upd_ne (Ne.symm h2)]; exact b, c⟩
theorem ch_up {H : Hp} {q : Addr} {xs ys : List V} {c : Addr × Int × Int} (h : CH H c) (hq : H q = some (.lst xs)) : CH (upd H q (.lst ys)) c := by
  have e : c.1 ≠ q := fun z => by
    have := h
    unfold CH at this
    rw [z, hq] at this
    cases this
  unfold CH
  rw [upd_ne e]
  exact h
theorem far_lt {wd : Int} (h : wd ≤ 10 ^ 18) : 2 * wd + 1 < 2 ^ 200 := Int.lt_of_le_of_lt (b := 3 * 10 ^ 18) (by omega) (by decide)

def Sds (l : List (Int × Int)) : Prop := l.Pairwise fun a b => plt a b = true
theorem sds_of {l : List (Int × Int)} (h : Sd l) (n : l.Nodup) : Sds l := (h.and n).imp fun {a b} q => by
  obtain ⟨q1, q2⟩ := q
  unfold PL at q1
  unfold plt
  refine decide_eq_true ?_
  have : ¬ (a.1 = b.1 ∧ a.2 = b.2) := fun z => q2 (Prod.ext z.1 z.2)
  omega
def spWhole : Sp := fun vs H Q _ => ∃ (n : Int), vs = [.int n] ∧ Q (.bl true) H
def spRis : Sp := fun vs H Q _ => ∃ (t : Addr) (cs : Cells), vs = [.ref t] ∧ Isl H t cs ∧ cs ≠ [] ∧ Sds (cs.map (·.2)) ∧ ∀ H', Same H H' → Q (.bl true) H'
def spNum : Sp := fun vs H Q _ => ∃ (n : Int), vs = [.str (tn n), .int 19] ∧ n.natAbs ≤ 10 ^ 18 ∧ ∀ H', Same H H' → Q (.bl true) H'
def spRdN : Sp := fun vs H Q _ => ∃ (x y : Int), vs = [.str (wd (x, y)), .int 2, .int 19] ∧ x.natAbs ≤ 10 ^ 18 ∧ y.natAbs ≤ 10 ^ 18 ∧ ∀ p H', H' p = some (.tup [.int x, .int y]) → Same H H' → Q (.ref p) H'
def spShN : Sp := fun vs H Q _ => ∃ (t : Addr) (x y : Int), vs = [.ref t] ∧ H t = some (.tup [.int x, .int y]) ∧ x.natAbs ≤ 10 ^ 18 ∧ y.natAbs ≤ 10 ^ 18 ∧ ∀ H', Same H H' → Q (.str (wd (x, y))) H'
def spShI : Sp := fun vs H Q _ => ∃ (t : Addr) (cs : Cells), vs = [.ref t] ∧ Isl H t cs ∧ Bds (cs.map (·.2)) ∧ ∀ H', Same H H' → Q (.str (txt (cs.map (·.2)))) H'
def spRdI : Sp := fun vs H Q _ => ∃ (ps : List (Int × Int)), vs = [.str (txt ps)] ∧ Bds ps ∧ Sds ps ∧ ps.length ≤ 40 ∧ ∀ (p : Addr) (ds : Cells) (H' : Hp), Isl H' p ds → ds.map (·.2) = ps → Same H H' → Q (.ref p) H'
def spIsl : Sp := fun vs H Q _ => ∃ (d l : Addr), vs = [.ref d] ∧ Deal H d l ∧ ∀ (p : Addr) (cs : Cells) (H' : Hp), Isl H' p cs → Bds (cs.map (·.2)) → Sds (cs.map (·.2)) → Deal H' d l → Kp d l H H' → Q (.ref p) H'
def spRight : Sp := fun vs H Q _ => ∃ (t : Addr) (cs : Cells), vs = [.ref t] ∧ Isl H t cs ∧ Bds (cs.map (·.2)) ∧ Sds (cs.map (·.2)) ∧ ∀ H', Same H H' → Q (.bl true) H'
def spLaw (K : PySem.W.Frag) : Sp := fun vs H Q _ => ∃ (a : Addr) (ns : List Int), vs = [.ref a] ∧ SqL K H a (ns.map V.int) ∧ ns.length ≤ 63 ∧ ∀ H', Q (.bl true) H'
theorem tn_len {n : Int} (h : n.natAbs ≤ 10 ^ 18) : (tn n).length ≤ 20 := by rw [len_ls, ls_tn]; exact (nm_len h).2
theorem tdg_len {n : Int} (h : n.natAbs ≤ 10 ^ 18) : 1 ≤ (tdg n).length ∧ (tdg n).length ≤ 19 := by
  rw [len_ls, ls_tdg]
  exact dg_len 19 _ (by decide) (Nat.lt_of_le_of_lt h (by decide))
theorem sIx_one {n : Nat} (h : 0 < n) : HT.sIx n 0 (some 1) = 1 := by
  unfold HT.sIx
  simp
  omega
theorem rv_drop (cs : Cells) (n : Nat) : (rv cs).drop n = rv (cs.drop n) := by simp [rv]
theorem lex_plt (a b : Int × Int) : HT.lexLt [a.1, a.2] [b.1, b.2] = plt a b := by
  unfold plt
  rw [HT.lexLt_cons, HT.lexLt_cons, HT.lexLt_nil_nil]
  by_cases e : a.1 = b.1
  · rw [if_pos e]
    by_cases e2 : a.2 = b.2
    · rw [if_pos e2]; simp [e, e2]
    · rw [if_neg e2]; simp [e]
  · rw [if_neg e]; simp [e]
theorem sds_get {l : List (Int × Int)} (h : Sds l) {i j : Nat} {a b : Int × Int} (hi : i < j) (ha : l[i]? = some a) (hb : l[j]? = some b) : plt a b = true := by
  obtain ⟨h1, rfl⟩ := List.getElem?_eq_some_iff.mp ha
  obtain ⟨h2, rfl⟩ := List.getElem?_eq_some_iff.mp hb
  exact List.pairwise_iff_getElem.mp h i j h1 h2 hi
theorem one_lt (a b : Nat) : ([a] < [b]) ↔ a < b := by simp [List.cons_lt_cons_iff]
theorem le_sgn {c : Nat} {l : List Nat} (e : [48] = l) (h : 48 ≤ c) : (!decide ((⟨#[c]⟩ : Str).cps.toList < l)) = true := by
  subst e
  show (!decide ([c] < [48])) = true
  rw [decide_eq_false (by rw [one_lt]; omega)]; rfl
theorem sgn_le {c : Nat} {l : List Nat} (e : [57] = l) (h : c ≤ 57) : (!decide (l < (⟨#[c]⟩ : Str).cps.toList)) = true := by
  subst e
  show (!decide ([57] < [c])) = true
  rw [decide_eq_false (by rw [one_lt]; omega)]; rfl
theorem sum_wd : ∀ {cs : Cells}, Bds (cs.map (·.2)) → ((cs.map fun c => wd c.2).map (·.length)).sum ≤ 41 * cs.length
  | [], _ => by simp
  | c :: cs, h => by
    have a := sum_wd (cs := cs) fun p hp => h p (by simp only [List.map_cons, List.mem_cons]; exact .inr hp)
    have b := h c.2 (by simp)
    have d := (wd_len b.1 b.2).2
    simp only [List.map_cons, List.sum_cons, List.length_cons]
    omega
theorem ls_app (x y : Str) : ls (x ++ y) = ls x ++ ls y := by
  show (x.cps ++ y.cps).toList = _
  simp
theorem len_app (x y : Str) : (x ++ y).length = x.length + y.length := by
  rw [len_ls, ls_app, List.length_append, ← len_ls, ← len_ls]
theorem cat_small {n : Nat} (h : n ≤ 100000) : n ≤ sizeLine := Nat.le_trans h (by decide)
theorem rd_isiS {K : PySem.W.Frag} {H : Hp} {Q : VK} {x : Str} (h : Q (.bl true) H) : rIsi K "str" true [.str x, .ty "str"] H Q := ⟨_, _, rfl, .str x, rfl, h⟩
theorem bd_log {n : Int} (h : n.natAbs ≤ 10 ^ 18) : n.natAbs.log2 < 1920 := by
  by_cases z : n.natAbs = 0
  · rw [z]; decide
  · exact (Nat.log2_lt z).mpr (Nat.lt_of_le_of_lt h (by decide))

section
variable {P : Program} {w : World} {K : PySem.W.Frag} {mg : Str → Option Value} {base : Heap}
abbrev s_is_rising : Stmt := top 4
theorem sc_is_rising : FnScope ["cells"] ["cells"] (defScope s_is_rising) := ⟨rfl, rfl, rfl, by decide +kernel, rfl, by decide +kernel, by decide +kernel⟩
theorem ok_is_rising {f : Addr} {fd : FuncData} (F : Fun K "is_rising" "is_rising" s_is_rising f fd) (T : Txt K mg) : FnOk P w K mg base CX0 1 f fd ["cells"] (spRis) := by
  refine F.ok (k := 0) sc_is_rising (fun vs H Q E h => ?_) (fun cdv A outer s H vs Q E hr h => ?_)
  · obtain ⟨_, _, rfl, _⟩ := h; rfl
  · obtain ⟨t, cs, rfl, ht, ne, sd, k⟩ := h
    have hu := hu_of hr
    have hu64 := hr.units
    have hu1 := hr.units0
    have nd := sc_is_rising.nd
    refine ⟨_, SSs.h (pss_one' (ps_ret' (qcallB' (call_allK (K := K) rfl) (by rfl) T.b_all PyProof.Rows.boot_all (qa' (qlcomp' rfl (CompScope.mk' (sc := defScope s_is_rising) (N := ["cells"]) (own := ["one", "other"]) (fre := []) (ix := []) rfl rfl (by decide +kernel)) (qzk true true rfl T.b_zip (qa' (pv' 0) (qa' (pe_slice' (sl_tupK (K := K)) (pv' 0) (po_some' pe_int') po_none') pa_nil'))) (fun cl C s0 H0 fp => (qtupK (K := K) rfl (qgs' (pg_name' (j := 0) (show (["one", "other"] : List Str).Nodup by decide +kernel) rfl (Or.inl rfl) (Or.inr rfl)) (qgs' (pg_name' (j := 1) (show (["one", "other"] : List Str).Nodup by decide +kernel) rfl (Or.inl rfl) (Or.inr rfl)) pgs_nil')))) (fun cl C s0 H0 fp => pifs_nil') (fun cl C s0 H0 fp => (pe_cmpR' (op_ltTK (K := K) hu1) (pv' 0) (pv' 1) (nomark _)))) pa_nil')))), ?_⟩
    walk_at "rd"
    refine rd_izk ?_
    walk_at "rd"
    have hn : 0 < cs.length := List.length_pos_iff.mpr ne
    refine rd_slT (ys := rv (cs.drop 1)) (.of ht.t) ?_ ?_ fun p H1 np hp s1 => ?_
    · rw [rv_len, sIx_one hn]
      rfl
    · unfold cutV
      rw [rv_len, sIx_one hn]
      show ((rv cs).drop 1).take (cs.length - 1) = _
      rw [rv_drop]
      exact List.take_of_length_le (by simp [rv])
    walk_at "rd"
    have ht1 := ht.same s1
    refine ⟨t, p, rfl, ⟨_, ht1.t⟩, ⟨_, hp⟩, ?_⟩
    refine comp_zk (b1 := true) (b2 := true) (xs := rv cs) (ys := rv (cs.drop 1)) (n := cs.length - 1) (fun n ys σ H' => (∃ v1 v2, σ = [v1, v2]) ∧ Same H1 H' ∧ ys = (List.replicate n true).map V.bl) (by simp [rv]) ⟨⟨_, _, rfl⟩, .refl _, rfl⟩ ?_ ?_ ?_
    · rintro n ys σ H' hn ⟨_, z, rfl⟩
      have := ht1.z
      exact ⟨z _ _ ht1.t, z _ _ hp, fun _ => small1000 (by simp; omega)⟩
    · rintro n x y zs σ H' T hx hy ⟨⟨w1, w2, rfl⟩, z, rfl⟩ nT
      obtain ⟨c, ec, hcm, rfl⟩ := rv_get hx
      obtain ⟨d, ed, hdm, rfl⟩ := rv_get hy
      rw [List.getElem?_drop] at ed
      generalize eG : upd _ T _ = G1
      obtain ⟨hT, z1⟩ := newG nT eG
      clear eG
      refine rd_gtup (K := K) (.of hT) rfl ?_
      walk_at "rd"
      have h1 := (ht1.c c hcm).same (z.trans z1)
      have h2 := (ht1.c d (List.mem_of_mem_drop hdm)).same (z.trans z1)
      refine ⟨c.1, d.1, [c.2.1, c.2.2], [d.2.1, d.2.2], rfl, rfl, .of h1, .of h2, ?_⟩
      rw [lex_plt, sds_get sd (i := n) (j := 1 + n) (by omega) (by rw [List.getElem?_map, ec]; rfl) (by rw [List.getElem?_map, ed]; rfl)]
      refine ⟨⟨_, _, rfl⟩, z.trans z1, ?_⟩
      rw [List.replicate_succ', List.map_append]
      rfl
    rintro ys σ' H2 ⟨_, z2, rfl⟩ l nl
    generalize eG : upd _ l _ = H3
    obtain ⟨hl, s3⟩ := newG nl eG
    clear eG
    walk_at "rd"
    refine ⟨l, _, rfl, .of hl, ?_⟩
    rw [show (List.replicate (cs.length - 1) true).all id = true from List.all_eq_true.mpr fun b hb => (List.mem_replicate.mp hb).2]
    exact k H3 ((s1.trans z2).trans s3)
abbrev s_is_number : Stmt := top 6
theorem sc_is_number : FnScope ["text", "figures", "digits"] ["text", "figures"] (defScope s_is_number) := ⟨rfl, rfl, rfl, by decide +kernel, rfl, by decide +kernel, by decide +kernel⟩
theorem ok_is_number {f : Addr} {fd : FuncData} (F : Fun K "is_number" "is_number" s_is_number f fd) (T : Txt K mg) : FnOk P w K mg base CX0 1 f fd ["text", "figures"] (spNum) := by
  refine F.ok (k := 0) sc_is_number (fun vs H Q E h => ?_) (fun cdv A outer s H vs Q E hr h => ?_)
  · obtain ⟨_, rfl, _⟩ := h; rfl
  · obtain ⟨n, rfl, bn, k⟩ := h
    have hu := hu_of hr
    have hu64 := hr.units
    have hu1 := hr.units0
    have nd := sc_is_number.nd
    refine ⟨_, SSs.h (pss_cons' (qset' (j := 2) nd rfl (by first | exact Or.inl rfl | exact Or.inr rfl) (pe_ifExp' (qtruthK (K := K) (pe_bmK (K := K) PySem.F.plainAttrs_str PySem.F.slot_str_startswith PySem.F.type_str_startswith mt_startswith (pv' 0) (qa' pe_str' pa_nil'))) (pe_slice' sl_str (pv' 0) (po_some' pe_int') po_none') (pv' 0)))
      (pss_cons' (ps_if' (pt_not' (pt_chain' op_le op_le pe_int' (qcallB' call_len_str (by rfl) T.b_len PySem.boot_len (qa' (pv' 2) pa_nil')) (pv' 1)))
        (pss_one' (ps_ret' pe_bl'))
        pss_nil')
      (pss_cons' (ps_if' (pt_not' (qval' (qcallB' (call_allK (K := K) rfl) (by rfl) T.b_all PyProof.Rows.boot_all (qa' (qlcomp' rfl (CompScope.mk' (sc := defScope s_is_number) (N := ["text", "figures", "digits"]) (own := ["sign"]) (fre := []) (ix := []) rfl rfl (by decide +kernel)) (qstr (pv' 2)) (fun cl C s0 H0 fp => (pg_name' (j := 0) (show (["sign"] : List Str).Nodup by decide +kernel) rfl (Or.inl rfl) (Or.inr rfl))) (fun cl C s0 H0 fp => pifs_nil') (fun cl C s0 H0 fp => (pe_chain' op_le_str op_le_str pe_str' (pv' 0) pe_str'))) pa_nil'))))
        (pss_one' (ps_ret' pe_bl'))
        pss_nil')
      (pss_one' (ps_ret' (pe_or' (pe_cmpR' op_eq (pv' 0) pe_str' (nomark _)) (pe_one' (pe_cmpR' op_ne (qix' ix_str (pv' 2) pe_int') pe_str' (nomark _))))))))), ?_⟩
    walk_at "rd"
    refine ⟨rfl, ?_⟩
    walk_at "rd"
    refine ⟨_, _, rfl, rfl, ?_⟩
    rw [sw_tn]
    refine ⟨_, rfl, ?_⟩
    have l19 := tdg_len bn
    refine rd_ite (fun g => ?_) (fun g => ?_)
    · walk_at "rd"
      refine rd_slS (n := 1) (by have := tn_len bn; omega) ?_
      rw [cut_neg g]
      walk_at "rd"
      refine ⟨_, rfl, Nat.le_of_lt (small1000 (by omega)), ?_⟩
      walk_at "rd"
      rw [if_pos (decide_eq_true (by omega))]
      walk_at "rd"
      rw [if_neg (by rw [decide_eq_true (by omega)]; decide)]
      walk_at "rd"
      refine rd_istr ?_
      walk_at "rd"
      refine ⟨_, rfl, tdg_ascii n, ?_⟩
      refine comp_str (fun i ys σ H' => (∃ v, σ = [v]) ∧ H' = H ∧ ys = (List.replicate i true).map V.bl) ⟨⟨_, rfl⟩, rfl, rfl⟩ ?_ ?_ ?_
      · rintro i ys σ H' hi ⟨_, rfl, rfl⟩
        have e : (tdg n).cps.size = (tdg n).length := rfl
        exact small1000 (by simp; omega)
      · rintro i c ys σ H' hc ⟨⟨w, rfl⟩, rfl, rfl⟩
        have b := dg_all n.natAbs c (by rw [← ls_tdg]; exact Array.mem_toList_iff.mpr (Array.mem_of_getElem? hc))
        walk_at "rd"
        refine ⟨_, _, rfl, rfl, ?_⟩
        rw [le_sgn (show ([48] : List Nat) = (Str.ofString "0").cps.toList from rfl) b.1]
        refine ⟨_, rfl, ?_⟩
        walk_at "rd"
        refine ⟨_, _, rfl, rfl, ?_⟩
        rw [sgn_le (show ([57] : List Nat) = (Str.ofString "9").cps.toList from rfl) b.2]
        refine ⟨⟨_, rfl⟩, rfl, ?_⟩
        rw [List.replicate_succ', List.map_append]
        rfl
      rintro ys σ' H2 ⟨_, rfl, rfl⟩ l nl
      generalize eG : upd _ l _ = H3
      obtain ⟨hl, s3⟩ := newG nl eG
      clear eG
      walk_at "rd"
      refine ⟨l, _, rfl, .of hl, ?_⟩
      rw [show (List.replicate (tdg n).cps.size true).all id = true from List.all_eq_true.mpr fun b hb => (List.mem_replicate.mp hb).2]
      walk_at "rd"
      refine rd_eq rfl ?_
      refine ⟨_, rfl, ?_⟩
      refine rd_iteB (fun _ => k H3 s3) (fun g2 => ?_)
      have z : n.natAbs ≠ 0 := fun z => by
        obtain rfl : n = 0 := by omega
        exact absurd rfl (of_decide_eq_false g2)
      walk_at "rd"
      obtain ⟨c, r, e, _, hc⟩ := dg_head n.natAbs
      refine ⟨_, _, c, rfl, rfl, Nat.le_of_lt (small1000 (by omega)), ?_, ?_⟩
      · show atI (dg n.natAbs) 0 = some c
        rw [e]; exact atI_nat (j := 0) rfl
      refine rd_ne rfl ?_
      rw [decide_eq_false (fun w => hc z (by
        have w1 := congrArg ls (V.str.inj w)
        exact List.head_eq_of_cons_eq w1))]
      exact k H3 s3
    · walk_at "rd"
      rw [cut_pos g]
      walk_at "rd"
      refine ⟨_, rfl, Nat.le_of_lt (small1000 (by omega)), ?_⟩
      walk_at "rd"
      rw [if_pos (decide_eq_true (by omega))]
      walk_at "rd"
      rw [if_neg (by rw [decide_eq_true (by omega)]; decide)]
      walk_at "rd"
      refine rd_istr ?_
      walk_at "rd"
      refine ⟨_, rfl, tdg_ascii n, ?_⟩
      refine comp_str (fun i ys σ H' => (∃ v, σ = [v]) ∧ H' = H ∧ ys = (List.replicate i true).map V.bl) ⟨⟨_, rfl⟩, rfl, rfl⟩ ?_ ?_ ?_
      · rintro i ys σ H' hi ⟨_, rfl, rfl⟩
        have e : (tdg n).cps.size = (tdg n).length := rfl
        exact small1000 (by simp; omega)
      · rintro i c ys σ H' hc ⟨⟨w, rfl⟩, rfl, rfl⟩
        have b := dg_all n.natAbs c (by rw [← ls_tdg]; exact Array.mem_toList_iff.mpr (Array.mem_of_getElem? hc))
        walk_at "rd"
        refine ⟨_, _, rfl, rfl, ?_⟩
        rw [le_sgn (show ([48] : List Nat) = (Str.ofString "0").cps.toList from rfl) b.1]
        refine ⟨_, rfl, ?_⟩
        walk_at "rd"
        refine ⟨_, _, rfl, rfl, ?_⟩
        rw [sgn_le (show ([57] : List Nat) = (Str.ofString "9").cps.toList from rfl) b.2]
        refine ⟨⟨_, rfl⟩, rfl, ?_⟩
        rw [List.replicate_succ', List.map_append]
        rfl
      rintro ys σ' H2 ⟨_, rfl, rfl⟩ l nl
      generalize eG : upd _ l _ = H3
      obtain ⟨hl, s3⟩ := newG nl eG
      clear eG
      walk_at "rd"
      refine ⟨l, _, rfl, .of hl, ?_⟩
      rw [show (List.replicate (tdg n).cps.size true).all id = true from List.all_eq_true.mpr fun b hb => (List.mem_replicate.mp hb).2]
      walk_at "rd"
      refine rd_eq rfl ?_
      refine ⟨_, rfl, ?_⟩
      refine rd_iteB (fun _ => k H3 s3) (fun g2 => ?_)
      have z : n.natAbs ≠ 0 := fun z => by
        obtain rfl : n = 0 := by omega
        exact absurd rfl (of_decide_eq_false g2)
      walk_at "rd"
      obtain ⟨c, r, e, _, hc⟩ := dg_head n.natAbs
      refine ⟨_, _, c, rfl, rfl, Nat.le_of_lt (small1000 (by omega)), ?_, ?_⟩
      · show atI (dg n.natAbs) 0 = some c
        rw [e]; exact atI_nat (j := 0) rfl
      refine rd_ne rfl ?_
      rw [decide_eq_false (fun w => hc z (by
        have w1 := congrArg ls (V.str.inj w)
        exact List.head_eq_of_cons_eq w1))]
      exact k H3 s3

abbrev s_read_numbers : Stmt := top 7
theorem sc_read_numbers : FnScope ["text", "many", "figures", "words"] ["text", "many", "figures"] (defScope s_read_numbers) := ⟨rfl, rfl, rfl, by decide +kernel, rfl, by decide +kernel, by decide +kernel⟩
theorem ok_read_numbers {f : Addr} {fd : FuncData} (F : Fun K "read_numbers" "read_numbers" s_read_numbers f fd) (T : Txt K mg) (C_is_number : Cal P w K mg base "is_number" 1 ["text", "figures"] (spNum)) : FnOk P w K mg base CX0 2 f fd ["text", "many", "figures"] (spRdN) := by
  refine F.ok (k := 1) sc_read_numbers (fun vs H Q E h => ?_) (fun cdv A outer s H vs Q E hr h => ?_)
  · obtain ⟨_, _, rfl, _⟩ := h; rfl
  · obtain ⟨x, y, rfl, b1, b2, k⟩ := h
    have hu := hu_of hr
    have hu64 := hr.units
    have hu1 := hr.units0
    have nd := sc_read_numbers.nd
    refine ⟨_, SSs.h (pss_cons' (qset' (j := 3) nd rfl (by first | exact Or.inl rfl | exact Or.inr rfl) (pe_bmK (K := K) PySem.F.plainAttrs_str PySem.F.slot_str_split PySem.F.type_str_split mt_split (pv' 0) (qa' pe_str' pa_nil')))
      (pss_cons' (ps_if' (pw_pt' (pw_or' (pt_cmpR' op_ne (qcallB' (call_lenK (K := K)) (by rfl) T.b_len PySem.boot_len (qa' (pv' 3) pa_nil')) (pv' 1) (nomark _)) (pw_or1' (pt_not' (qval' (qcallB' (call_allK (K := K) rfl) (by rfl) T.b_all PyProof.Rows.boot_all (qa' (qlcomp' rfl (CompScope.mk' (sc := defScope s_read_numbers) (N := ["text", "many", "figures", "words"]) (own := ["word"]) (fre := ["figures"]) (ix := [2]) rfl rfl (by decide +kernel)) (pi_listK (K := K) (pv' 3)) (fun cl C s0 H0 fp => (pg_name' (j := 0) (show (["word", "figures"] : List Str).Nodup by decide +kernel) rfl (Or.inl rfl) (Or.inr rfl))) (fun cl C s0 H0 fp => pifs_nil') (fun cl C s0 H0 fp => (qcal' C_is_number (hr.mono (by decide)) rfl (qa' (pv' 0) (qa' (pv' 1) pa_nil'))))) pa_nil')))))))
        (pss_one' (ps_ret' pe_non'))
        pss_nil')
      (pss_one' (ps_ret' (qcallT' (call_tupleK (K := K)) (by rfl) T.b_tuple PyProof.Rows.boot_tuple (qa' (qlcomp' rfl (CompScope.mk' (sc := defScope s_read_numbers) (N := ["text", "many", "figures", "words"]) (own := ["word"]) (fre := []) (ix := []) rfl rfl (by decide +kernel)) (pi_listK (K := K) (pv' 3)) (fun cl C s0 H0 fp => (pg_name' (j := 0) (show (["word"] : List Str).Nodup by decide +kernel) rfl (Or.inl rfl) (Or.inr rfl))) (fun cl C s0 H0 fp => pifs_nil') (fun cl C s0 H0 fp => (qcallT' call_intS (by rfl) T.b_int PyProof.Rows.boot_int (qa' (pv' 0) pa_nil')))) pa_nil')))))), ?_⟩
    walk_at "rd"
    refine ⟨rfl, ?_⟩
    walk_at "rd"
    have bl := (wd_len (p := (x, y)) b1 b2).2
    refine ⟨_, _, rfl, rfl, by decide, by omega, by rw [split_wd]; exact Nat.le_of_lt (small1000 (show 2 ≤ 1000 by decide)), fun l nl => ?_⟩
    rw [split_wd]
    generalize eG : upd _ l _ = H1
    obtain ⟨hl, s1⟩ := newG nl eG
    clear eG
    walk_at "rd"
    refine rd_lenL (.of hl) ?_
    walk_at "rd"
    refine rd_ne rfl ?_
    walk_at "rd"
    rw [if_neg (by simp)]
    walk_at "rd"
    refine ⟨l, rfl, ⟨_, .of hl⟩, ?_⟩
    refine comp_list (K := K) (xs := [.str (tn x), .str (tn y)]) (fun n ys σ H' => (∃ v, σ = [v, some (.int 19)]) ∧ Same H1 H' ∧ ys = (List.replicate n true).map V.bl) ⟨⟨_, rfl⟩, .refl _, rfl⟩ ?_ ?_ ?_
    · rintro n ys σ H' hn ⟨_, z, rfl⟩
      exact ⟨.of (z _ _ hl), fun _ => small1000 (by simp at hn ⊢; omega)⟩
    · rintro n v ys σ H' hv ⟨⟨w, rfl⟩, z, rfl⟩
      obtain ⟨i, rfl, bi⟩ : ∃ i, v = .str (tn i) ∧ i.natAbs ≤ 10 ^ 18 := by
        match n, hv with
        | 0, hv => cases hv; exact ⟨x, rfl, b1⟩
        | 1, hv => cases hv; exact ⟨y, rfl, b2⟩
      walk_at "rd"
      refine ⟨i, rfl, bi, fun H2 s2 => ?_⟩
      refine ⟨⟨_, rfl⟩, z.trans s2, ?_⟩
      rw [List.replicate_succ', List.map_append]
      rfl
    rintro ys σ' H2 ⟨_, z2, rfl⟩ l2 nl2
    generalize eG : upd _ l2 _ = H3
    obtain ⟨hl2, s3⟩ := newG nl2 eG
    clear eG
    walk_at "rd"
    refine ⟨l2, [true, true], rfl, .of hl2, ?_⟩
    walk_at "rd"
    rw [if_neg (by decide)]
    walk_at "rd"
    have hl3 := (z2.trans s3) _ _ hl
    refine ⟨l, rfl, ⟨_, .of hl3⟩, ?_⟩
    refine comp_list (K := K) (xs := [.str (tn x), .str (tn y)]) (fun n ys σ H' => (∃ v, σ = [v]) ∧ H' = H3 ∧ ys = ([x, y].take n).map V.int) ⟨⟨_, rfl⟩, rfl, rfl⟩ ?_ ?_ ?_
    · rintro n ys σ H' hn ⟨_, rfl, rfl⟩
      exact ⟨.of hl3, fun _ => small1000 (by simp; omega)⟩
    · rintro n v ys σ H' hv ⟨⟨w, rfl⟩, rfl, rfl⟩
      obtain ⟨i, ei, rfl, bi⟩ : ∃ i, [x, y][n]? = some i ∧ v = .str (tn i) ∧ i.natAbs ≤ 10 ^ 18 := by
        match n, hv with
        | 0, hv => cases hv; exact ⟨x, rfl, rfl, b1⟩
        | 1, hv => cases hv; exact ⟨y, rfl, rfl, b2⟩
      walk_at "rd"
      refine ⟨_, i, rfl, nm_reads (Nat.lt_of_le_of_lt bi (by decide)), by have := tn_len bi; omega, ?_⟩
      refine ⟨⟨_, rfl⟩, rfl, ?_⟩
      rw [take_next _ ei]
    rintro ys σ' H4 ⟨_, rfl, rfl⟩ l4 nl4
    generalize eG : upd _ l4 _ = H5
    obtain ⟨hl4, s5⟩ := newG nl4 eG
    clear eG
    walk_at "rd"
    refine rd_tupL (.of hl4) fun p np => ?_
    generalize eG : upd _ p _ = H6
    obtain ⟨hp, s6⟩ := newG np eG
    clear eG
    exact k p H6 hp ((((s1.trans z2).trans s3).trans s5).trans s6)
abbrev s_show_numbers : Stmt := top 8
theorem sc_show_numbers : FnScope ["numbers"] ["numbers"] (defScope s_show_numbers) := ⟨rfl, rfl, rfl, by decide +kernel, rfl, by decide +kernel, by decide +kernel⟩
theorem ok_show_numbers {f : Addr} {fd : FuncData} (F : Fun K "show_numbers" "show_numbers" s_show_numbers f fd) (T : Txt K mg) : FnOk P w K mg base CX0 1 f fd ["numbers"] (spShN) := by
  refine F.ok (k := 0) sc_show_numbers (fun vs H Q E h => ?_) (fun cdv A outer s H vs Q E hr h => ?_)
  · obtain ⟨_, _, _, rfl, _⟩ := h; rfl
  · obtain ⟨t, x, y, rfl, ht, b1, b2, k⟩ := h
    have hu := hu_of hr
    have hu64 := hr.units
    have hu1 := hr.units0
    have nd := sc_show_numbers.nd
    refine ⟨_, SSs.h (pss_one' (ps_ret' (pe_bmK (K := K) PySem.F.plainAttrs_str PySem.F.slot_str_join PySem.F.type_str_join (mt_join (K := K)) pe_str' (qa' (qlcomp' rfl (CompScope.mk' (sc := defScope s_show_numbers) (N := ["numbers"]) (own := ["number"]) (fre := []) (ix := []) rfl rfl (by decide +kernel)) (pi_tupK (K := K) (pv' 0)) (fun cl C s0 H0 fp => (pg_name' (j := 0) (show (["number"] : List Str).Nodup by decide +kernel) rfl (Or.inl rfl) (Or.inr rfl))) (fun cl C s0 H0 fp => pifs_nil') (fun cl C s0 H0 fp => (qcallT' call_str_int (by rfl) T.b_str PyProof.Rows.boot_str (qa' (pv' 0) pa_nil')))) pa_nil')))), ?_⟩
    walk_at "rd"
    refine ⟨rfl, ?_⟩
    walk_at "rd"
    refine ⟨t, rfl, ⟨_, .of ht⟩, ?_⟩
    refine comp_tup (K := K) (xs := [.int x, .int y]) (fun n ys σ H' => (∃ v, σ = [v]) ∧ H' = H ∧ ys = (([x, y].take n).map tn).map V.str) ⟨⟨_, rfl⟩, rfl, by simp⟩ ?_ ?_ ?_
    · rintro n ys σ H' hn ⟨_, rfl, rfl⟩
      exact ⟨.of ht, fun _ => small1000 (by simp; omega)⟩
    · rintro n v ys σ H' hv ⟨⟨w, rfl⟩, rfl, rfl⟩
      obtain ⟨i, ei, rfl, bi⟩ : ∃ i, [x, y][n]? = some i ∧ v = .int i ∧ i.natAbs ≤ 10 ^ 18 := by
        match n, hv with
        | 0, hv => cases hv; exact ⟨x, rfl, rfl, b1⟩
        | 1, hv => cases hv; exact ⟨y, rfl, rfl, b2⟩
      walk_at "rd"
      refine ⟨i, rfl, bd_log bi, ?_⟩
      refine ⟨⟨_, rfl⟩, rfl, ?_⟩
      rw [take_next _ ei, List.map_append]
      rfl
    rintro ys σ' H1 ⟨_, rfl, rfl⟩ l nl
    generalize eG : upd _ l _ = H2
    obtain ⟨hq, s2⟩ := newG nl eG
    clear eG
    walk_at "rd"
    refine rd_join (ys := [tn x, tn y]) (.of hq) (by decide) ?_ ?_
    · have := tn_len b1
      have := tn_len b2
      simp
      omega
    · exact k H2 s2
abbrev s_show_island : Stmt := top 12
theorem sc_show_island : FnScope ["island"] ["island"] (defScope s_show_island) := ⟨rfl, rfl, rfl, by decide +kernel, rfl, by decide +kernel, by decide +kernel⟩
theorem ok_show_island {f : Addr} {fd : FuncData} (F : Fun K "show_island" "show_island" s_show_island f fd) (T : Txt K mg) (C_show_numbers : Cal P w K mg base "show_numbers" 1 ["numbers"] (spShN)) : FnOk P w K mg base CX0 2 f fd ["island"] (spShI) := by
  refine F.ok (k := 1) sc_show_island (fun vs H Q E h => ?_) (fun cdv A outer s H vs Q E hr h => ?_)
  · obtain ⟨_, _, rfl, _⟩ := h; rfl
  · obtain ⟨t, cs, rfl, ht, bs, k⟩ := h
    have hu := hu_of hr
    obtain ⟨_, hc_EMPTY, rc_EMPTY⟩ := T.c_EMPTY
    have hu64 := hr.units
    have hu1 := hr.units0
    have nd := sc_show_island.nd
    refine ⟨_, SSs.h (pss_cons' (ps_if' (pt_cmpR' (op_eqDK (K := K) hu64) (pv' 0) (pe_tup' pa_nil') (nomark _))
        (pss_one' (ps_ret' (pe_glob' rfl hc_EMPTY rc_EMPTY)))
        pss_nil')
      (pss_one' (ps_ret' (pe_bmK (K := K) PySem.F.plainAttrs_str PySem.F.slot_str_join PySem.F.type_str_join (mt_join (K := K)) pe_str' (qa' (qlcomp' rfl (CompScope.mk' (sc := defScope s_show_island) (N := ["island"]) (own := ["cell"]) (fre := []) (ix := []) rfl rfl (by decide +kernel)) (pi_tupK (K := K) (pv' 0)) (fun cl C s0 H0 fp => (pg_name' (j := 0) (show (["cell"] : List Str).Nodup by decide +kernel) rfl (Or.inl rfl) (Or.inr rfl))) (fun cl C s0 H0 fp => pifs_nil') (fun cl C s0 H0 fp => (qcal' C_show_numbers (hr.mono (by decide)) rfl (qa' (pv' 0) pa_nil')))) pa_nil'))))), ?_⟩
    walk_at "rd"
    refine ⟨zle rfl, fun e n1 => ?_⟩
    generalize eG : upd _ e _ = H1
    obtain ⟨he, s1⟩ := newG n1 eG
    clear eG
    have ht1 := ht.same s1
    refine rd_eqC (ds := []) (.of ht1.t) (.of he) ht1.c (fun _ h => nomatch h) ?_
    walk_at "rd"
    refine rd_iteB (fun g => ?_) (fun g => ?_)
    · walk_at "rd"
      obtain rfl : cs = [] := by simpa using g
      exact k H1 s1
    · have ne : cs ≠ [] := by simpa using g
      walk_at "rd"
      refine ⟨rfl, ?_⟩
      walk_at "rd"
      refine ⟨t, rfl, ⟨_, .of ht1.t⟩, ?_⟩
      refine comp_tup (K := K) (xs := rv cs) (fun n ys σ H' => (∃ v, σ = [v]) ∧ Same H1 H' ∧ ys = ((cs.take n).map fun c => wd c.2).map V.str) ⟨⟨_, rfl⟩, .refl _, by simp⟩ ?_ ?_ ?_
      · rintro n ys σ H' hn ⟨_, z, rfl⟩
        have := ht1.z
        exact ⟨.of (z _ _ ht1.t), fun _ => small1000 (by simp; omega)⟩
      · rintro n v ys σ H' hv ⟨⟨w, rfl⟩, z, rfl⟩
        obtain ⟨c, ec, hcm, rfl⟩ := rv_get hv
        have b := bs c.2 (List.mem_map.mpr ⟨c, hcm, rfl⟩)
        walk_at "rd"
        refine ⟨c.1, c.2.1, c.2.2, rfl, (ht1.c c hcm).same z, b.1, b.2, fun H2 s2 => ?_⟩
        refine ⟨⟨_, rfl⟩, z.trans s2, ?_⟩
        rw [take_next _ ec, List.map_append]
        rfl
      rintro ys σ' H2 ⟨_, z2, rfl⟩ l nl
      generalize eG : upd _ l _ = H3
      obtain ⟨hl, s3⟩ := newG nl eG
      clear eG
      rw [rv_len, List.take_length] at hl
      walk_at "rd"
      refine rd_join (ys := cs.map fun c => wd c.2) (.of hl) (by decide) ?_ ?_
      · have := sum_wd (cs := cs) bs
        have := ht.z
        rw [List.length_map]
        omega
      · have e : Txt.join (Str.ofString " ") (cs.map fun c => wd c.2) = txt (cs.map (·.2)) := by
          unfold txt
          rw [if_neg (by simpa using ne), List.map_map]
          rfl
        rw [e]
        exact k H3 ((s1.trans z2).trans s3)
abbrev s_read_island : Stmt := top 13
theorem sc_read_island : FnScope ["text", "cells"] ["text"] (defScope s_read_island) := ⟨rfl, rfl, rfl, by decide +kernel, rfl, by decide +kernel, by decide +kernel⟩
theorem ok_read_island {f : Addr} {fd : FuncData} (F : Fun K "read_island" "read_island" s_read_island f fd) (T : Txt K mg) (C_read_numbers : Cal P w K mg base "read_numbers" 2 ["text", "many", "figures"] (spRdN)) (C_is_rising : Cal P w K mg base "is_rising" 1 ["cells"] (spRis)) : FnOk P w K mg base CX0 3 f fd ["text"] (spRdI) := by
  refine F.ok (k := 2) sc_read_island (fun vs H Q E h => ?_) (fun cdv A outer s H vs Q E hr h => ?_)
  · obtain ⟨_, rfl, _⟩ := h; rfl
  · obtain ⟨ps, rfl, bs, sd, hz, k⟩ := h
    have hu := hu_of hr
    obtain ⟨_, hc_EMPTY, rc_EMPTY⟩ := T.c_EMPTY
    obtain ⟨_, hc_MOST_FIGURES, rc_MOST_FIGURES⟩ := T.c_MOST_FIGURES
    have hu64 := hr.units
    have hu1 := hr.units0
    have nd := sc_read_island.nd
    refine ⟨_, SSs.h (pss_cons' (ps_if' (pt_cmpR' op_eq (pv' 0) (pe_glob' rfl hc_EMPTY rc_EMPTY) (nomark _))
        (pss_one' (ps_ret' (pe_tup' pa_nil')))
        pss_nil')
      (pss_cons' (qset' (j := 1) nd rfl (by first | exact Or.inl rfl | exact Or.inr rfl) (qcallT' (call_tupleK (K := K)) (by rfl) T.b_tuple PyProof.Rows.boot_tuple (qa' (qlcomp' rfl (CompScope.mk' (sc := defScope s_read_island) (N := ["text", "cells"]) (own := ["word"]) (fre := []) (ix := []) rfl rfl (by decide +kernel)) (pi_listK (K := K) (pe_bmK (K := K) PySem.F.plainAttrs_str PySem.F.slot_str_split PySem.F.type_str_split mt_split (pv' 0) (qa' pe_str' pa_nil'))) (fun cl C s0 H0 fp => (pg_name' (j := 0) (show (["word"] : List Str).Nodup by decide +kernel) rfl (Or.inl rfl) (Or.inr rfl))) (fun cl C s0 H0 fp => pifs_nil') (fun cl C s0 H0 fp => (qcal' C_read_numbers (hr.mono (by decide)) rfl (qa' (pv' 0) (qa' pe_int' (qa' (pe_glob' rfl hc_MOST_FIGURES rc_MOST_FIGURES) pa_nil')))))) pa_nil')))
      (pss_cut' (ps_if' (pw_pt' (pw_or' (pt_cmpR' (op_inN (K := K) hu64) pe_non' (pv' 1) (by with_unfolding_all rfl)) (pw_or1' (pt_not' (qval' (qcal' C_is_rising (hr.mono (by decide)) rfl (qa' (pv' 1) pa_nil')))))))
        (pss_one' ss_never)
        pss_nil')
      (pss_one' (ps_ret' (pv' 1)))))), ?_⟩
    walk_at "rd"
    refine rd_eq rfl ?_
    walk_at "rd"
    by_cases ne : ps = []
    · subst ne
      rw [if_pos (decide_eq_true (show V.str (txt []) = V.str (Str.ofString ".") from rfl))]
      walk_at "rd"
      refine ⟨zle rfl, fun e n1 => ?_⟩
      generalize eG : upd _ e _ = H1
      obtain ⟨he, s1⟩ := newG n1 eG
      clear eG
      exact k e [] H1 ⟨he, (fun _ h => nomatch h), by decide⟩ rfl s1
    · rw [if_neg (by rw [decide_eq_false (fun z => txt_ne bs ne (V.str.inj z))]; decide)]
      walk_at "rd"
      refine ⟨rfl, ?_⟩
      walk_at "rd"
      have tl := txt_len bs hz
      refine ⟨_, _, rfl, rfl, by decide, by omega, by rw [split_txt ne, List.length_map]; exact Nat.le_of_lt (small1000 (by omega)), fun l nl => ?_⟩
      rw [split_txt ne]
      generalize eG : upd _ l _ = H1
      obtain ⟨hl, s1⟩ := newG nl eG
      clear eG
      walk_at "rd"
      refine ⟨l, rfl, ⟨_, .of hl⟩, ?_⟩
      refine comp_list (K := K) (xs := (ps.map wd).map V.str) (fun n ys σ H' => (∃ v, σ = [v]) ∧ Same H1 H' ∧ ∃ ds : Cells, ys = rv ds ∧ ds.length = n ∧ (∀ c ∈ ds, CH H' c) ∧ ds.map (·.2) = ps.take n) ⟨⟨_, rfl⟩, .refl _, [], rfl, rfl, (fun _ h => nomatch h), by simp⟩ ?_ ?_ ?_
      · rintro n ys σ H' hn ⟨_, z, ds, rfl, hl2, _⟩
        simp at hn
        exact ⟨.of (z _ _ hl), fun _ => small1000 (by rw [rv_len]; omega)⟩
      · rintro n v ys σ H' hv ⟨⟨w, rfl⟩, z, ds, rfl, hl2, hall, hm⟩
        obtain ⟨p, ep, rfl⟩ : ∃ p, ps[n]? = some p ∧ v = .str (wd p) := by
          rw [List.map_map, List.getElem?_map] at hv
          cases e : ps[n]? with
          | none => rw [e] at hv; cases hv
          | some p => rw [e] at hv; exact ⟨p, rfl, (Option.some.inj hv).symm⟩
        have b := bs p (List.mem_of_getElem? ep)
        walk_at "rd"
        refine ⟨p.1, p.2, rfl, b.1, b.2, fun q H2 hq s2 => ?_⟩
        refine ⟨⟨_, rfl⟩, z.trans s2, ds ++ [(q, p.1, p.2)], by simp, by simp [hl2], ch_app hall s2 hq, ?_⟩
        rw [List.take_succ, ep, List.map_append, hm]
        rfl
      rintro ys σ' H2 ⟨_, z2, ds, rfl, hl2, hall, hm⟩ l2 nl2
      generalize eG : upd _ l2 _ = H3
      obtain ⟨hl3, s3⟩ := newG nl2 eG
      clear eG
      rw [List.length_map, List.length_map] at hl2 hm
      rw [List.take_length] at hm
      walk_at "rd"
      refine rd_tupL (.of hl3) fun t nt => ?_
      generalize eG : upd _ t _ = H4
      obtain ⟨ht, s4⟩ := newG nt eG
      clear eG
      have hI : Isl H4 t ds := ⟨ht, ch_all hall (s3.trans s4), by omega⟩
      walk_at "rd"
      refine ⟨fun σ' H' => σ' = [some (.str (txt ps)), some (.ref t)] ∧ Isl H' t ds ∧ Same H4 H', ?_, ?_⟩
      · walk_at "rd"
        refine ⟨t, rv ds, rfl, rfl, .of ht, fun v hv => ?_, ?_⟩
        · obtain ⟨c, hc, rfl⟩ := List.mem_map.mp hv
          exact ⟨c.1, _, rfl, .of (hI.c c hc)⟩
        walk_at "rd"
        refine ⟨t, ds, rfl, hI, fun z => ne (by rw [← hm, z]; rfl), by rw [hm]; exact sd, fun H5 s5 => ?_⟩
        walk_at "rd"
        exact ⟨rfl, hI.same s5, s5⟩
      rintro σ5 H5 ⟨rfl, hI5, s5⟩
      walk_at "rd"
      exact k t ds H5 hI5 hm ((((s1.trans z2).trans s3).trans s4).trans s5)
abbrev s__law_deal : Stmt := top 15
theorem sc__law_deal : FnScope ["_law_script", "_law_base", "_law_cells", "_law_number", "_law_cell"] ["_law_script", "_law_base"] (defScope s__law_deal) := ⟨rfl, rfl, rfl, by decide +kernel, rfl, by decide +kernel, by decide +kernel⟩
theorem ok__law_deal {f : Addr} {fd : FuncData} (F : Fun K "_law_deal" "_law_deal" s__law_deal f fd) (T : Txt K mg) : FnOk P w K mg base CX0 1 f fd ["_law_script", "_law_base"] (spDeal K) := by
  refine F.ok (k := 0) sc__law_deal (fun vs H Q E h => ?_) (fun cdv A outer s H vs Q E hr h => ?_)
  · obtain ⟨_, _, _, rfl, _⟩ := h; rfl
  · obtain ⟨a, ns, bs, rfl, hS, hlen, hbs, k⟩ := h
    have hu := hu_of hr
    have hu64 := hr.units
    have hu1 := hr.units0
    have nd := sc__law_deal.nd
    refine ⟨_, SSs.h (pss_cons' (qsetc' (j := 2) nd rfl (by first | exact Or.inl rfl | exact Or.inr rfl) rfl (CompScope.mk' (sc := defScope s__law_deal) (N := ["_law_script", "_law_base", "_law_cells", "_law_number", "_law_cell"]) (own := ["_law_cell"]) (fre := []) (ix := []) rfl rfl (by decide +kernel)) (pi_listK (K := K) (pe_slice' (sl_listK (K := K)) (pv' 0) (po_some' (pv' 1)) (po_some' pe_int'))) (fun cl C s0 H0 fp => (pg_name' (j := 0) (show (["_law_cell"] : List Str).Nodup by decide +kernel) rfl (Or.inl rfl) (Or.inr rfl))) (fun cl C s0 H0 fp => pifs_nil') (fun cl C s0 H0 fp => (qcallB' (call_max2 rfl) (by rfl) T.b_max PyProof.Rows.boot_max (qa' (pv' 0) (qa' (pe_op' op_sub pe_int' (pv' 0)) pa_nil')))))
      (pss_cons' (qset' (j := 3) nd rfl (by first | exact Or.inl rfl | exact Or.inr rfl) (pe_op' op_add pe_int' (pv' 1)))
      (pss_cons' (qfor' PassesOwn.never rfl (pi_listK (K := K) (pv' 2)) (pg_name' (j := 4) nd rfl (by first | exact Or.inl rfl | exact Or.inr rfl))
        (pss_one' (qset' (j := 3) nd rfl (by first | exact Or.inl rfl | exact Or.inr rfl) (pe_op' op_mod (pe_op' op_add (pe_op' op_mul (pv' 3) pe_int') (pe_op' op_mod (pv' 4) pe_int')) pe_int'))))
      (pss_one' (ps_ret' (pe_disp' (pps_cons' pe_str' (pv' 3) (pps_cons' pe_str' pe_int' (pps_cons' pe_str' (qlistrevK (K := K) rfl (qlcomp' rfl (CompScope.mk' (sc := defScope s__law_deal) (N := ["_law_script", "_law_base", "_law_cells", "_law_number", "_law_cell"]) (own := ["_law_cell"]) (fre := []) (ix := []) rfl rfl (by decide +kernel)) (pi_listK (K := K) (pv' 2)) (fun cl C s0 H0 fp => (pg_name' (j := 0) (show (["_law_cell"] : List Str).Nodup by decide +kernel) rfl (Or.inl rfl) (Or.inr rfl))) (fun cl C s0 H0 fp => (pifs_one' (pt_cmpR' op_ge (pv' 0) (pe_op' op_pow pe_int' pe_int') (nomark _)))) (fun cl C s0 H0 fp => (pv' 0))) rfl T.b_list rfl T.b_reversed) pps_nil'))) rfl rfl (by intro z; cases z) (by decide))))))), ?_⟩
    walk_at "rd"
    obtain ⟨zs, ez, lz⟩ := cut_ints ns (some (bs : Int)) (some 63)
    refine rd_slL hS ez fun p0 H0 _ hp0 s0 => ?_
    refine ⟨p0, rfl, ⟨_, .of hp0⟩, ?_⟩
    refine comp_list (K := K) (xs := zs.map V.int) (fun i ys σ H => (∃ v, σ = [v]) ∧ H = H0 ∧ ∃ ms : List Int, ys = ms.map V.int ∧ ms.length = i ∧ ∀ m ∈ ms, 0 ≤ m) ⟨⟨_, rfl⟩, rfl, [], rfl, rfl, fun _ h => nomatch h⟩ ?_ ?_ ?_
    · rintro i ys σ H' hi ⟨_, rfl, ms, rfl, hm, _⟩
      refine ⟨.of hp0, fun _ => ?_⟩
      rw [List.length_map] at hi ⊢
      exact small1000 (by omega)
    · rintro i x ys σ H' hx ⟨⟨v, rfl⟩, rfl, ms, rfl, hm, hall⟩
      obtain ⟨z, rfl⟩ : ∃ z, x = V.int z := by
        rw [List.getElem?_map] at hx
        cases e : zs[i]? with
        | none => rw [e] at hx; cases hx
        | some z => rw [e] at hx; exact ⟨z, (Option.some.inj hx).symm⟩
      walk_at "rd"
      refine ⟨z, 0 - z, rfl, ⟨_, rfl⟩, rfl, ms ++ [if 0 - z > z then 0 - z else z], by simp, by simp [hm], ?_⟩
      intro m hm'
      rcases List.mem_append.mp hm' with h' | h'
      · exact hall m h'
      · rw [List.mem_singleton.mp h']; split <;> omega
    rintro ys σ' H' ⟨_, rfl, ms, rfl, hm, hall⟩ c hc
    rw [List.length_map] at hm
    have hc1 : (upd H' c (.lst (ms.map V.int))) c = some (.lst (ms.map V.int)) := upd_same
    have s1 : Same H' (upd H' c (.lst (ms.map V.int))) := .upd hc
    generalize upd H' c (.lst (ms.map V.int)) = H1 at hc1 s1
    walk_at "rd"
    refine ⟨c, rfl, ⟨_, .of hc1⟩, ?_⟩
    refine for_list (K := K) (xs := ms.map V.int) (fun i σ H => H = H1 ∧ ∃ (num : Int) (v4 : Option V), σ = [some (.ref a), some (.int bs), some (.ref c), some (.int num), v4] ∧ 0 ≤ num ∧ num < 2147483647) ⟨rfl, 7919 + (bs : Int), none, rfl, by omega, by omega⟩ (fun i σ H _ ⟨e, _⟩ => by rw [e]; exact .of hc1) ?_ ?_
    · rintro i x σ H'' hx ⟨rfl, num, v4, rfl, n0, n1⟩
      obtain ⟨z, rfl⟩ : ∃ z, x = V.int z := by
        rw [List.getElem?_map] at hx
        cases e : ms[i]? with
        | none => rw [e] at hx; cases hx
        | some z => rw [e] at hx; exact ⟨z, (Option.some.inj hx).symm⟩
      walk_at "rd"
      refine rd_I (.inr ⟨by decide, by decide⟩) ?_
      walk_at "rd"
      refine rd_I (show (0 : Int) < 2147483629 by decide) ?_
      walk_at "rd"
      refine rd_I (show (0 : Int) < 2147483647 by decide) ?_
      walk_at "rd"
      exact ⟨rfl, _, _, rfl, Int.emod_nonneg _ (by decide), Int.emod_lt_of_pos _ (by decide)⟩
    rintro σ H'' ⟨rfl, num, v4, rfl, n0, n1⟩
    walk_at "rd"
    intro d hd
    have hd1 : (upd H'' d (.dK [])) d = some (.dK []) := upd_same
    have s2 : Same H'' (upd H'' d (.dK [])) := .upd hd
    generalize upd H'' d (.dK []) = H2 at hd1 s2
    walk_at "rd"
    refine ⟨c, rfl, ⟨_, .of (s2 _ _ hc1)⟩, ?_⟩
    refine comp_list (K := K) (xs := ms.map V.int) (fun i ys σ H => (∃ v, σ = [v]) ∧ H = H2 ∧ ∃ ls : List Int, ys = ls.map V.int ∧ ls.length ≤ i ∧ ∀ m ∈ ls, 0 ≤ m) ⟨⟨_, rfl⟩, rfl, [], rfl, Nat.le_refl _, fun _ h => nomatch h⟩ ?_ ?_ ?_
    · rintro i ys σ H' hi ⟨_, rfl, ls, rfl, hl, _⟩
      refine ⟨.of (s2 _ _ hc1), fun _ => ?_⟩
      rw [List.length_map] at hi ⊢
      exact small1000 (by omega)
    · rintro i x ys σ H' hx ⟨⟨v, rfl⟩, rfl, ls, rfl, hl, hla⟩
      obtain ⟨z, hz, rfl⟩ : ∃ z, z ∈ ms ∧ x = V.int z := by
        rw [List.getElem?_map] at hx
        cases e : ms[i]? with
        | none => rw [e] at hx; cases hx
        | some z => rw [e] at hx; exact ⟨z, List.mem_of_getElem? e, (Option.some.inj hx).symm⟩
      walk_at "rd"
      refine rd_I ⟨by decide, by decide, by decide⟩ ?_
      walk_at "rd"
      refine rd_ite (fun _ => ?_) (fun _ => ?_)
      · walk_at "rd"
        refine ⟨⟨_, rfl⟩, rfl, ls ++ [z], by simp, by simp; omega, fun m hm' => ?_⟩
        rcases List.mem_append.mp hm' with h' | h'
        · exact hla m h'
        · rw [List.mem_singleton.mp h']; exact hall z hz
      · exact ⟨⟨_, rfl⟩, rfl, ls, rfl, by omega, hla⟩
    rintro ys σ' H' ⟨_, rfl, ls, rfl, hl, hla⟩ e he
    rw [List.length_map] at hl
    have he1 : (upd H' e (.lst (ls.map V.int))) e = some (.lst (ls.map V.int)) := upd_same
    have s3 : Same H' (upd H' e (.lst (ls.map V.int))) := .upd he
    generalize upd H' e (.lst (ls.map V.int)) = H3 at he1 s3
    refine ⟨e, _, rfl, .of he1, fun l hl0 => ?_⟩
    have hl1 : (upd H3 l (.lst (ls.map V.int).reverse)) l = some (.lst ((ls.reverse).map V.int)) := by rw [List.map_reverse]; exact upd_same
    have s4 : Same H3 (upd H3 l (.lst (ls.map V.int).reverse)) := .upd hl0
    generalize upd H3 l (.lst (ls.map V.int).reverse) = H4 at hl1 s4
    walk_at "rd"
    have hd4 : H4 d = some (.dK []) := s4 _ _ (s3 _ _ hd1)
    refine ⟨hd4, dealKvs num 0 l, rfl, by show 3 ≤ 15; decide, ?_⟩
    have em : mergeK [] (dealKvs num 0 l) = dealKvs num 0 l := by
      have h1 : ((Sum.inr "seed" : Key) = (Sum.inr "number" : Key)) = False := eq_false (by decide +kernel)
      have h2 : ((Sum.inr "seed" : Key) = (Sum.inr "left" : Key)) = False := eq_false (by decide +kernel)
      have h3 : ((Sum.inr "number" : Key) = (Sum.inr "left" : Key)) = False := eq_false (by decide +kernel)
      simp [mergeK, dealKvs, putK, h1, h2, h3]
    rw [em]
    have sA : Same H H3 := ((s0.trans s1).trans s2).trans s3
    have ndl : l ≠ d := Ne.symm (ne_of_none (s3 _ _ hd1) hl0)
    refine k d l _ ((s0.trans s1).free hd) (sA.free hl0) ⟨num, 0, ls.reverse, upd_same, by rw [upd_ne ndl]; exact hl1, n0, n1, Int.le_refl _, fun m hm' => hla m (List.mem_reverse.mp hm'), by rw [List.length_reverse]; omega⟩ fun b o hb => ?_
    have nb : b ≠ d := ne_of_none ((s0.trans s1) _ _ hb) hd
    rw [upd_ne nb]
    exact (sA.trans s4) _ _ hb
abbrev s__law_draw : Stmt := top 16
theorem sc__law_draw : FnScope ["_law_deal_here", "_law_many", "_law_number", "_law_one", "_law_other"] ["_law_deal_here", "_law_many"] (defScope s__law_draw) := ⟨rfl, rfl, rfl, by decide +kernel, rfl, by decide +kernel, by decide +kernel⟩
theorem ok__law_draw {f : Addr} {fd : FuncData} (F : Fun K "_law_draw" "_law_draw" s__law_draw f fd) (T : Txt K mg) : FnOk P w K mg base CX0 1 f fd ["_law_deal_here", "_law_many"] (spDraw) := by
  refine F.ok (k := 0) sc__law_draw (fun vs H Q E h => ?_) (fun cdv A outer s H vs Q E hr h => ?_)
  · obtain ⟨_, _, _, rfl, _⟩ := h; rfl
  · obtain ⟨d, l, many, rfl, hD, hm, hm2, k⟩ := h
    have hu := hu_of hr
    have hu64 := hr.units
    have hu1 := hr.units0
    have nd := sc__law_draw.nd
    refine ⟨_, SSs.h (pss_cons' (ps_while' PassesOwn.never (pw_pt' (pw_and' (pt_cmpR' op_eq (qdget' hu (pv' 0) pe_str') pe_int' (nomark _)) (pw_and1' (pt_cmpR' op_gt (qcallB' (call_lenK (K := K)) (by rfl) T.b_len PySem.boot_len (qa' (qdget' hu (pv' 0) pe_str') pa_nil')) pe_int' (nomark _)))))
        (pss_one' (qdput' hu (pv' 0) pe_str' (qbm0K (K := K) PySem.F.plainAttrs_list PySem.F.slot_list_pop PySem.F.type_list_pop mt_pop (qdget' hu (pv' 0) pe_str')))))
      (pss_cons' (qset' (j := 2) nd rfl (by first | exact Or.inl rfl | exact Or.inr rfl) (qdget' hu (pv' 0) pe_str'))
      (pss_cons' (ps_if' (pt_cmpR' op_gt (pv' 2) pe_int' (nomark _))
        (pss_cons' (qdput' hu (pv' 0) pe_str' (pe_op' op_fdivL (pv' 2) (pv' 1)))
        (pss_one' (ps_ret' (pe_op' op_mod (pv' 2) (pv' 1)))))
        pss_nil')
      (pss_cons' (qset' (j := 3) nd rfl (by first | exact Or.inl rfl | exact Or.inr rfl) (pe_op' op_mod (pe_op' op_add (pe_op' op_mul (qdget' hu (pv' 0) pe_str') pe_int') pe_int') pe_int'))
      (pss_cons' (qdput' hu (pv' 0) pe_str' (pe_op' op_mod (pe_op' op_add (pe_op' op_mul (pv' 3) pe_int') pe_int') pe_int'))
      (pss_cons' (qset' (j := 4) nd rfl (by first | exact Or.inl rfl | exact Or.inr rfl) (pe_op' op_mod (pe_op' op_mul (qdget' hu (pv' 0) pe_str') (qdget' hu (pv' 0) pe_str')) pe_int'))
      (pss_one' (ps_ret' (pe_op' op_mod (pe_op' op_add (pe_op' op_mul (pe_op' op_mod (pe_op' op_mul (pv' 3) (pv' 3)) pe_int') pe_int') (pv' 4)) (pv' 1)))))))))), ?_⟩
    walk_at "rd"
    obtain ⟨s0, n0, ls0, h1, h2, ok0⟩ := id hD
    refine ⟨fun m σ H' => σ = [some (.ref d), some (.int many), none, none, none] ∧ ∃ s n ls, H' d = some (.dK (dealKvs s n l)) ∧ H' l = some (.lst (ls.map V.int)) ∧ DealOk s n ls ∧ ls.length = m ∧ Kp d l H H', ⟨ls0.length, rfl, s0, n0, ls0, h1, h2, ok0, rfl, .refl⟩, ?_⟩
    rintro m σ H' ⟨rfl, s, n, ls, h1, h2, ok, hl, kp⟩
    have ndl : l ≠ d := ne_of h2 h1 (by intro z; cases z)
    have fin : ∀ (H' : Hp) (s n : Int) (ls : List Int), H' d = some (.dK (dealKvs s n l)) → H' l = some (.lst (ls.map V.int)) → DealOk s n ls → Kp d l H H' → ∀ v2 v3 v4 : Option V, (tSeq (tAsg (tDGet (tVar 0) (tC (V.str "number"))) (gName 2)) (tSeq (tIfS (tTest (tOp (rI0 fun i j => V.bl (decide (j < i))) (tVar 2) (tC (V.int 0))))
        (tSeq (sDPut (tVar 0) (tC (V.str "number")) (tOp (rI (fun x j => 0 < j ∧ j.natAbs.log2 < 9000) fun i j => V.int (i / j)) (tVar 2) (tVar 1))) (tRet (tOp (rI (fun x j => 0 < j) fun i j => V.int (i % j)) (tVar 2) (tVar 1)))) tNext)
        (tSeq (tAsg (tOp (rI (fun x j => 0 < j) fun i j => V.int (i % j)) (tOp (rI0 fun i j => V.int (i + j)) (tOp (rI CMul fun i j => V.int (i * j)) (tDGet (tVar 0) (tC (V.str "seed"))) (tC (V.int 48271))) (tC (V.int 7919))) (tC (V.int 2147483647))) (gName 3))
        (tSeq (sDPut (tVar 0) (tC (V.str "seed")) (tOp (rI (fun x j => 0 < j) fun i j => V.int (i % j)) (tOp (rI0 fun i j => V.int (i + j)) (tOp (rI CMul fun i j => V.int (i * j)) (tVar 3) (tC (V.int 40692))) (tC (V.int 104729))) (tC (V.int 2147483399))))
        (tSeq (tAsg (tOp (rI (fun x j => 0 < j) fun i j => V.int (i % j)) (tOp (rI CMul fun i j => V.int (i * j)) (tDGet (tVar 0) (tC (V.str "seed"))) (tDGet (tVar 0) (tC (V.str "seed")))) (tC (V.int 2147483563))) (gName 4))
        (tRet (tOp (rI (fun x j => 0 < j) fun i j => V.int (i % j)) (tOp (rI0 fun i j => V.int (i + j)) (tOp (rI CMul fun i j => V.int (i * j)) (tOp (rI (fun x j => 0 < j) fun i j => V.int (i % j)) (tOp (rI CMul fun i j => V.int (i * j)) (tVar 3) (tVar 3)) (tC (V.int 2147483629))) (tC (V.int 2147483563))) (tVar 4)) (tVar 1)))))))) { nx := fun _ H' => Q .non H', rt := Q } [some (.ref d), some (.int many), v2, v3, v4] H' := by
      intro H' s n ls h1 h2 ok kp v2 v3 v4
      walk_at "rd"
      refine ⟨_, _, rfl, dg_number h1, ?_⟩
      walk_at "rd"
      refine rd_ite (fun hn => ?_) (fun hn => ?_)
      · walk_at "rd"
        refine rd_I ⟨hm, log2_small hm hm2⟩ ?_
        walk_at "rd"
        refine ⟨_, _, rfl, dp_number h1, ?_⟩
        walk_at "rd"
        refine rd_I hm ?_
        refine k (n % many) _ (Int.emod_nonneg _ (by omega)) (Int.emod_lt_of_pos _ hm) ⟨s, n / many, ls, upd_same, by rw [upd_ne ndl]; exact h2, ok.s0, ok.s1, Int.ediv_nonneg ok.n0 (by omega), ok.all, ok.len⟩ fun b o hb hb2 e => ?_
        rw [upd_ne hb]; exact kp b o hb hb2 e
      · walk_at "rd"
        refine ⟨_, _, rfl, dg_seed h1, ?_⟩
        walk_at "rd"
        refine rd_I (.inr ⟨by decide, by decide⟩) ?_
        walk_at "rd"
        refine rd_I (show (0 : Int) < 2147483647 by decide) ?_
        have o0 : 0 ≤ (s * 48271 + 7919) % 2147483647 := Int.emod_nonneg _ (by decide)
        have o1 : (s * 48271 + 7919) % 2147483647 < 2147483647 := Int.emod_lt_of_pos _ (by decide)
        generalize (s * 48271 + 7919) % 2147483647 = one at o0 o1
        walk_at "rd"
        refine rd_I (.inr ⟨by decide, by decide⟩) ?_
        walk_at "rd"
        refine rd_I (show (0 : Int) < 2147483399 by decide) ?_
        have p0 : 0 ≤ (one * 40692 + 104729) % 2147483399 := Int.emod_nonneg _ (by decide)
        have p1 : (one * 40692 + 104729) % 2147483399 < 2147483399 := Int.emod_lt_of_pos _ (by decide)
        generalize (one * 40692 + 104729) % 2147483399 = sd at p0 p1
        walk_at "rd"
        refine ⟨_, _, rfl, dp_seed h1, ?_⟩
        walk_at "rd"
        refine ⟨_, _, rfl, dg_seed (n := n) (l := l) upd_same, ?_⟩
        walk_at "rd"
        refine ⟨_, _, rfl, dg_seed (n := n) (l := l) upd_same, ?_⟩
        refine rd_I (.inl ⟨by omega, by omega⟩) ?_
        walk_at "rd"
        refine rd_I (show (0 : Int) < 2147483563 by decide) ?_
        walk_at "rd"
        refine rd_I (.inl ⟨by omega, by omega⟩) ?_
        walk_at "rd"
        refine rd_I (show (0 : Int) < 2147483629 by decide) ?_
        walk_at "rd"
        refine rd_I (.inr ⟨by decide, by decide⟩) ?_
        walk_at "rd"
        refine rd_I hm ?_
        refine k _ _ (Int.emod_nonneg _ (by omega)) (Int.emod_lt_of_pos _ hm) ⟨sd, n, ls, upd_same, by rw [upd_ne ndl]; exact h2, p0, by omega, ok.n0, ok.all, ok.len⟩ fun b o hb hb2 e => ?_
        rw [upd_ne hb]; exact kp b o hb hb2 e
    walk_at "rd"
    refine ⟨_, _, rfl, dg_number h1, ?_⟩
    walk_at "rd"
    refine rd_eq rfl ?_
    walk_at "rd"
    refine rd_iteI (fun hn => ?_) (fun hn => ?_)
    · walk_at "rd"
      refine ⟨_, _, rfl, dg_left h1, ?_⟩
      walk_at "rd"
      refine ⟨l, _, rfl, .inl (.of h2), ?_⟩
      walk_at "rd"
      refine rd_ite (fun hlen => ?_) (fun hlen => ?_)
      · refine ⟨fun σ' H'' => ∃ m', m' < m ∧ (σ' = [some (.ref d), some (.int many), none, none, none] ∧ ∃ s n ls, H'' d = some (.dK (dealKvs s n l)) ∧ H'' l = some (.lst (ls.map V.int)) ∧ DealOk s n ls ∧ ls.length = m' ∧ Kp d l H H''), fun _ _ h => h, ?_⟩
        walk_at "rd"
        refine ⟨_, _, rfl, dg_left h1, ?_⟩
        rw [List.length_map] at hlen
        obtain ⟨y, ey⟩ : ∃ y, ls[ls.length - 1]? = some y := ⟨ls[ls.length - 1]'(by omega), List.getElem?_eq_getElem (by omega)⟩
        refine ⟨.inl ⟨rfl, _, .of h2⟩, l, _, .int y, rfl, rfl, h2, by rw [List.length_map, List.getElem?_map, ey]; rfl, ?_⟩
        have h1' : (upd H' l (.lst (ls.map V.int).dropLast)) d = some (.dK (dealKvs s n l)) := by rw [upd_ne (Ne.symm ndl)]; exact h1
        walk_at "rd"
        refine ⟨_, _, rfl, dp_number h1', ?_⟩
        refine ⟨ls.dropLast.length, by rw [List.length_dropLast]; omega, rfl, s, y, ls.dropLast, upd_same, by rw [upd_ne ndl, upd_same, List.map_dropLast], ⟨ok.s0, ok.s1, ok.all y (List.mem_of_getElem? ey), fun i hi => ok.all i (List.dropLast_subset ls hi), by rw [List.length_dropLast]; have := ok.len; omega⟩, rfl, fun b o hb hb2 e => ?_⟩
        rw [upd_ne hb, upd_ne hb2]
        exact kp b o hb hb2 e
      · exact fin H' s n ls h1 h2 ok kp _ _ _
    · exact fin H' s n ls h1 h2 ok kp _ _ _
abbrev s__law_whole : Stmt := top 17
theorem sc__law_whole : FnScope ["_law_number"] ["_law_number"] (defScope s__law_whole) := ⟨rfl, rfl, rfl, by decide +kernel, rfl, by decide +kernel, by decide +kernel⟩
theorem ok__law_whole {f : Addr} {fd : FuncData} (F : Fun K "_law_whole" "_law_whole" s__law_whole f fd) (T : Txt K mg) : FnOk P w K mg base CX0 1 f fd ["_law_number"] (spWhole) := by
  refine F.ok (k := 0) sc__law_whole (fun vs H Q E h => ?_) (fun cdv A outer s H vs Q E hr h => ?_)
  · obtain ⟨_, rfl, _⟩ := h; rfl
  · obtain ⟨n, rfl, k⟩ := h
    have hu := hu_of hr
    have hu64 := hr.units
    have hu1 := hr.units0
    have nd := sc__law_whole.nd
    refine ⟨_, SSs.h (pss_one' (ps_ret' (pe_and' (qcallB' (call_isiK (K := K) (T := "int") true) (by rfl) T.b_isinstance PyProof.Rows.boot_isinstance (qa' (pv' 0) (qa' (pe_bltn' (v := .ty "int") rfl T.b_int PyProof.Rows.boot_int rfl) pa_nil'))) (pe_one' (pe_not' (qcallB' (call_isiK (K := K) (T := "bool") false) (by rfl) T.b_isinstance PyProof.Rows.boot_isinstance (qa' (pv' 0) (qa' (pe_bltn' (v := .ty "bool") rfl T.b_bool PyProof.Rows.boot_bool rfl) pa_nil')))))))), ?_⟩
    walk_at "rd"
    exact k
abbrev s__law_island : Stmt := top 18
theorem sc__law_island : FnScope ["_law_deal_here", "_law_some", "_law_k", "_law_far"] ["_law_deal_here"] (defScope s__law_island) := ⟨rfl, rfl, rfl, by decide +kernel, rfl, by decide +kernel, by decide +kernel⟩
theorem ok__law_island {f : Addr} {fd : FuncData} (F : Fun K "_law_island" "_law_island" s__law_island f fd) (T : Txt K mg) (C__law_draw : Cal P w K mg base "_law_draw" 1 ["_law_deal_here", "_law_many"] (spDraw)) : FnOk P w K mg base CX0 2 f fd ["_law_deal_here"] (spIsl) := by
  refine F.ok (k := 1) sc__law_island (fun vs H Q E h => ?_) (fun cdv A outer s H vs Q E hr h => ?_)
  · obtain ⟨_, _, rfl, _⟩ := h; rfl
  · obtain ⟨d, l, rfl, hD, k⟩ := h
    have hu := hu_of hr
    have hu64 := hr.units
    have hu1 := hr.units0
    have nd := sc__law_island.nd
    refine ⟨_, SSs.h (pss_cons' (qset' (j := 1) nd rfl (by first | exact Or.inl rfl | exact Or.inr rfl) (pe_lst' pa_nil'))
      (pss_cons' (qfor' PassesOwn.never rfl (qrange1' rfl T.b_range (qa' (qcal' C__law_draw (hr.mono (by decide)) rfl (qa' (pv' 0) (qa' (qix' (ix_listK (K := K)) (pe_lst' (qa' pe_int' (qa' pe_int' pa_nil'))) (qcal' C__law_draw (hr.mono (by decide)) rfl (qa' (pv' 0) (qa' pe_int' pa_nil')))) pa_nil'))) pa_nil')) (pg_name' (j := 2) nd rfl (by first | exact Or.inl rfl | exact Or.inr rfl))
        (pss_cons' (qset' (j := 3) nd rfl (by first | exact Or.inl rfl | exact Or.inr rfl) (qix' (ix_listK (K := K)) (pe_lst' (qa' pe_int' (qa' pe_int' (qa' (pe_op' op_pow pe_int' pe_int') (qa' (pe_op' op_pow pe_int' pe_int') pa_nil'))))) (qcal' C__law_draw (hr.mono (by decide)) rfl (qa' (pv' 0) (qa' pe_int' pa_nil')))))
        (pss_one' (qexpr' (pe_bmK (K := K) PySem.F.plainAttrs_list PySem.F.slot_list_append PySem.F.type_list_append mt_append (pv' 1) (qa' (pe_tup' (qa' (pe_op' op_sub (qcal' C__law_draw (hr.mono (by decide)) rfl (qa' (pv' 0) (qa' (pe_op' op_add (pe_op' op_mul pe_int' (pv' 3)) pe_int') pa_nil'))) (pv' 3)) (qa' (pe_op' op_sub (qcal' C__law_draw (hr.mono (by decide)) rfl (qa' (pv' 0) (qa' (pe_op' op_add (pe_op' op_mul pe_int' (pv' 3)) pe_int') pa_nil'))) (pv' 3)) pa_nil'))) pa_nil'))))))
      (pss_one' (ps_ret' (qcallT' (call_tupleK (K := K)) (by rfl) T.b_tuple PyProof.Rows.boot_tuple (qa' (qss (K := K) rfl hu64 (pv' 1) rfl T.b_sorted rfl T.b_set) pa_nil')))))), ?_⟩
    walk_at "rd"
    refine ⟨zle rfl, fun q n1 => ?_⟩
    generalize eG : upd _ q _ = G1
    obtain ⟨hq, z1⟩ := newG n1 eG
    clear eG
    walk_at "rd"
    refine ⟨zle rfl, fun q0 n2 => ?_⟩
    generalize eG : upd _ q0 _ = G2
    obtain ⟨hq0, z2⟩ := newG n2 eG
    clear eG
    walk_at "rd"
    have hD1 := hD.same z1
    have nq := hD.free n1
    have hD2 := hD1.same z2
    have nq0 := hD1.free n2
    refine ⟨d, l, 2, rfl, hD2, by decide, by decide, fun r H3 r0 r1 hD3 kp3 => ?_⟩
    have hq3 := kp3 q0 _ nq0.1 nq0.2 hq0
    obtain ⟨mm, em, m0, m1⟩ : ∃ mm : Int, atI [V.int 3, V.int 21] r = some (.int mm) ∧ 0 < mm ∧ mm ≤ 21 := by
      obtain rfl | rfl : r = 0 ∨ r = 1 := by omega
      · exact ⟨3, rfl, by decide, by decide⟩
      · exact ⟨21, rfl, by decide, by decide⟩
    refine rd_ixL (.of hq3) em ?_
    walk_at "rd"
    refine ⟨d, l, mm, rfl, hD3, by omega, Int.lt_of_le_of_lt m1 (by decide), fun nn H4 a4 b4 hD4 kp4 => ?_⟩
    obtain ⟨m, rfl⟩ : ∃ m : Nat, nn = m := ⟨nn.toNat, by omega⟩
    walk_at "rd"
    refine ⟨m, rfl, by omega, by omega, ?_⟩
    rw [show ((m : Int)).toNat = m from Int.toNat_natCast m]
    refine for_range (fun i σ H' => (∃ v w, σ = [some (.ref d), some (.ref q), v, w]) ∧ Deal H' d l ∧ Kp d l H H' ∧ ∃ ds : Cells, H' q = some (.lst (rv ds)) ∧ ds.length = i ∧ (∀ c ∈ ds, CH H' c) ∧ Bds (ds.map (·.2)))
      ⟨⟨_, _, rfl⟩, hD4, (((Kp.of z1).trans (.of z2)).trans kp3).trans kp4, [], kp4 q _ nq.1 nq.2 (kp3 q _ nq.1 nq.2 (z2 _ _ hq)), rfl, (fun _ h => nomatch h), (fun _ h => nomatch h)⟩ ?_ ?_
    · rintro i σ H' hi ⟨⟨v, w, rfl⟩, hD', kp, ds, hq', hl, hall, bds⟩
      walk_at "rd"
      refine rd_I ⟨by decide, by decide, by decide⟩ ?_
      walk_at "rd"
      refine rd_I ⟨by decide, by decide, by decide⟩ ?_
      walk_at "rd"
      refine ⟨zle rfl, fun f0 n5 => ?_⟩
      generalize eG : upd _ f0 _ = G5
      obtain ⟨hf0, z5⟩ := newG n5 eG
      clear eG
      walk_at "rd"
      have nf := hD'.free n5
      refine ⟨d, l, 4, rfl, hD'.same z5, by decide, by decide, fun r2 H6 r20 r21 hD6 kp6 => ?_⟩
      have hf6 := kp6 f0 _ nf.1 nf.2 hf0
      obtain ⟨fr, ew, w0, w1⟩ : ∃ fr : Int, atI [V.int 1, V.int 12, V.int (10 ^ (4 : Int).toNat), V.int (10 ^ (18 : Int).toNat)] r2 = some (.int fr) ∧ 0 < fr ∧ fr ≤ 10 ^ 18 := by
        obtain rfl | rfl | rfl | rfl : r2 = 0 ∨ r2 = 1 ∨ r2 = 2 ∨ r2 = 3 := by omega
        · exact ⟨1, rfl, by decide, by decide⟩
        · exact ⟨12, rfl, by decide, by decide⟩
        · exact ⟨10 ^ 4, rfl, by decide, by decide⟩
        · exact ⟨10 ^ 18, rfl, by decide, by decide⟩
      refine rd_ixL (.of hf6) ew ?_
      have kp06 : Kp d l H' H6 := (Kp.of z5).trans kp6
      have hq6 := kp06 q _ nq.1 nq.2 hq'
      walk_at "rd"
      refine ⟨.inl ⟨rfl, _, .of hq6⟩, ?_⟩
      walk_at "rd"
      refine rd_I (.inl ⟨by decide, by decide⟩) ?_
      walk_at "rd"
      refine ⟨d, l, _, rfl, hD6, by omega, far_lt w1, fun x H8 x0 x1 hD8 kp8 => ?_⟩
      walk_at "rd"
      refine rd_I (.inl ⟨by decide, by decide⟩) ?_
      walk_at "rd"
      refine ⟨d, l, _, rfl, hD8, by omega, far_lt w1, fun y H9 y0 y1 hD9 kp9 => ?_⟩
      walk_at "rd"
      refine ⟨zle rfl, fun c n10 => ?_⟩
      generalize eG : upd _ c _ = H10
      obtain ⟨hc, s10⟩ := newG n10 eG
      clear eG
      have hq9 := kp9 q _ nq.1 nq.2 (kp8 q _ nq.1 nq.2 hq6)
      have hq10 := s10 _ _ hq9
      have al : ∀ c' ∈ ds ++ [(c, x - fr, y - fr)], CH H10 c' := ch_app (fun c' hc' => kp9.tup hD8 (kp8.tup hD6 (kp06.tup hD' (hall c' hc')))) s10 hc
      walk_at "rd"
      refine ⟨q, rv ds, .ref c, rfl, rfl, hq10, small1000 (by rw [rv_len]; omega), ?_⟩
      refine ⟨⟨_, _, rfl⟩, Deal.up (hD9.same s10) nq.1 nq.2, fun b o hb hb2 e => ?_, ds ++ [(c, x - fr, y - fr)], ?_, by simp [hl], fun c' hc' => ch_up (al c' hc') hq10, ?_⟩
      · have nb : b ≠ q := fun z => by rw [z, n1] at e; cases e
        rw [upd_ne nb]
        exact s10 _ _ (kp9 b o hb hb2 (kp8 b o hb hb2 (kp06 b o hb hb2 (kp b o hb hb2 e))))
      · rw [upd_same]; simp
      · rw [List.map_append]
        intro p hp
        rcases List.mem_append.mp hp with z | z
        · exact bds p z
        · obtain rfl := List.mem_singleton.mp z
          exact ⟨by show (x - fr).natAbs ≤ _; omega, by show (y - fr).natAbs ≤ _; omega⟩
    rintro σ' H8 ⟨⟨v, w, rfl⟩, hD8, kp8, ds, hq8, hl8, hall8, bds⟩
    walk_at "rd"
    refine rd_ss ?_
    walk_at "rd"
    refine ⟨q, ds, rfl, .of hq8, hall8, by omega, fun l2 ds' n9 le sub sd nd2 => ?_⟩
    generalize eG : upd _ l2 _ = H9
    obtain ⟨h9, s9⟩ := newG n9 eG
    clear eG
    walk_at "rd"
    refine rd_tupL (.of h9) fun a na => ?_
    generalize eG : upd _ a _ = H10
    obtain ⟨ha, s10⟩ := newG na eG
    clear eG
    refine k a ds' H10 ⟨ha, fun c hc => (hall8 c (sub c hc)).same (s9.trans s10), by omega⟩ ?_ (sds_of sd nd2.1) (hD8.same (s9.trans s10)) (kp8.trans (.of (s9.trans s10)))
    intro p hp
    obtain ⟨c, hc, rfl⟩ := List.mem_map.mp hp
    exact bds c.2 (List.mem_map.mpr ⟨c, sub c hc, rfl⟩)
abbrev s__law_text : Stmt := top 19
theorem sc__law_text : FnScope ["_law_island_here", "_law_text_here", "_law_x", "_law_y"] ["_law_island_here"] (defScope s__law_text) := ⟨rfl, rfl, rfl, by decide +kernel, rfl, by decide +kernel, by decide +kernel⟩
theorem ok__law_text {f : Addr} {fd : FuncData} (F : Fun K "_law_text" "_law_text" s__law_text f fd) (T : Txt K mg) : FnOk P w K mg base CX0 1 f fd ["_law_island_here"] (spShI) := by
  refine F.ok (k := 0) sc__law_text (fun vs H Q E h => ?_) (fun cdv A outer s H vs Q E hr h => ?_)
  · obtain ⟨_, _, rfl, _⟩ := h; rfl
  · obtain ⟨t, cs, rfl, ht, bs, k⟩ := h
    have hu := hu_of hr
    have hu64 := hr.units
    have hu1 := hr.units0
    have nd := sc__law_text.nd
    refine ⟨_, SSs.h (pss_cons' (qset' (j := 1) nd rfl (by first | exact Or.inl rfl | exact Or.inr rfl) pe_str')
      (pss_cons' (qfor' PassesOwn.never rfl (pi_tupK (K := K) (pv' 0)) (qtupK (K := K) rfl (qgs' (pg_name' (j := 2) nd rfl (by first | exact Or.inl rfl | exact Or.inr rfl)) (qgs' (pg_name' (j := 3) nd rfl (by first | exact Or.inl rfl | exact Or.inr rfl)) pgs_nil')))
        (pss_one' (qset' (j := 1) nd rfl (by first | exact Or.inl rfl | exact Or.inr rfl) (pe_op' op_add_str (pe_op' op_add_str (pe_op' op_add_str (pe_op' op_add_str (pv' 1) pe_str') (qcallT' call_str_int (by rfl) T.b_str PyProof.Rows.boot_str (qa' (pv' 2) pa_nil'))) pe_str') (qcallT' call_str_int (by rfl) T.b_str PyProof.Rows.boot_str (qa' (pv' 3) pa_nil'))))))
      (pss_one' (ps_ret' (pe_ifExp' (pt_cmpR' (op_neDK (K := K) hu64) (pv' 0) (pe_tup' pa_nil') (nomark _)) (pe_slice' sl_str (pv' 1) (po_some' pe_int') po_none') pe_str'))))), ?_⟩
    walk_at "rd"
    refine ⟨t, rfl, ⟨_, .of ht.t⟩, ?_⟩
    refine for_tup (K := K) (xs := rv cs) (fun i σ H' => (∃ z v1 v2, σ = [some (.ref t), some (.str z), v1, v2] ∧ ls z = ((cs.map (·.2)).take i).flatMap fun p => 32 :: ls (wd p)) ∧ H' = H) ⟨⟨_, _, _, rfl, rfl⟩, rfl⟩ (fun i σ H' _ ⟨_, e⟩ => .of (by rw [e]; exact ht.t)) ?_ ?_
    · rintro i v σ H' hv ⟨⟨z, v1, v2, rfl, hz⟩, rfl⟩
      obtain ⟨c, ec, hcm, rfl⟩ := rv_get hv
      have b := bs c.2 (List.mem_map.mpr ⟨c, hcm, rfl⟩)
      have l1 := tn_len b.1
      have l2 := tn_len b.2
      have lz : z.length ≤ 1700 := by
        rw [len_ls, hz]
        refine Nat.le_trans (fm_len fun p hp => bs p (List.mem_of_mem_take hp)) ?_
        have := ht.z
        simp
        omega
      refine rd_gtup (K := K) (.of (ht.c c hcm)) rfl ?_
      walk_at "rd"
      refine ⟨_, _, rfl, rfl, cat_small (by rw [show (Str.ofString " ").length = 1 from rfl]; omega), ?_⟩
      walk_at "rd"
      refine ⟨_, rfl, bd_log b.1, ?_⟩
      refine ⟨_, _, rfl, rfl, cat_small (by rw [len_app, show (Str.ofString " ").length = 1 from rfl]; unfold tn at l1; omega), ?_⟩
      walk_at "rd"
      refine ⟨_, _, rfl, rfl, cat_small (by rw [len_app, len_app, show (Str.ofString " ").length = 1 from rfl, show (Str.ofString ",").length = 1 from rfl]; unfold tn at l1; omega), ?_⟩
      walk_at "rd"
      refine ⟨_, rfl, bd_log b.2, ?_⟩
      refine ⟨_, _, rfl, rfl, cat_small (by rw [len_app, len_app, len_app, show (Str.ofString " ").length = 1 from rfl, show (Str.ofString ",").length = 1 from rfl]; unfold tn at l1 l2; omega), ?_⟩
      walk_at "rd"
      refine ⟨⟨_, _, _, rfl, ?_⟩, rfl⟩
      have e2 : (cs.map (·.2)).take (i + 1) = (cs.map (·.2)).take i ++ [c.2] := by
        rw [List.take_succ, List.getElem?_map, ec]; rfl
      rw [e2, List.flatMap_append, ← hz, ls_app, ls_app, ls_app, ls_app]
      show ls z ++ [32] ++ ls (tn c.2.1) ++ [44] ++ ls (tn c.2.2) = ls z ++ [c.2].flatMap _
      rw [ls_tn, ls_tn]
      simp [ls_wd]
    rintro σ H' ⟨⟨z, v1, v2, rfl, hz⟩, rfl⟩
    rw [rv_len] at hz
    rw [List.take_of_length_le (by simp)] at hz
    walk_at "rd"
    refine ⟨zle rfl, fun e n1 => ?_⟩
    generalize eG : upd _ e _ = H1
    obtain ⟨he, s1⟩ := newG n1 eG
    clear eG
    have ht1 := ht.same s1
    refine rd_neC (ds := []) (.of ht1.t) (.of he) ht1.c (fun _ h => nomatch h) ?_
    walk_at "rd"
    refine rd_iteBn (fun g => ?_) (fun g => ?_)
    · have ne : cs.map (·.2) ≠ [] := by simpa using g
      have lz : z.length ≤ 1700 := by
        rw [len_ls, hz]
        refine Nat.le_trans (fm_len bs) ?_
        have := ht.z
        simp
        omega
      walk_at "rd"
      refine rd_slS (n := 1) (by omega) ?_
      have e : (⟨(z.cps.toList.drop 1).toArray⟩ : Str) = txt (cs.map (·.2)) := str_ext (by
        show (ls z).drop 1 = _
        rw [hz, ← ls_txt ne]
        rfl)
      rw [e]
      exact k H1 s1
    · walk_at "rd"
      obtain rfl : cs = [] := by simpa using g
      exact k H1 s1
abbrev s__law_right : Stmt := top 20
theorem sc__law_right : FnScope ["_law_island_here", "_law_text_here", "_law_found"] ["_law_island_here"] (defScope s__law_right) := ⟨rfl, rfl, rfl, by decide +kernel, rfl, by decide +kernel, by decide +kernel⟩
theorem ok__law_right {f : Addr} {fd : FuncData} (F : Fun K "_law_right" "_law_right" s__law_right f fd) (T : Txt K mg) (C_show_island : Cal P w K mg base "show_island" 2 ["island"] (spShI)) (C_read_island : Cal P w K mg base "read_island" 3 ["text"] (spRdI)) (C__law_text : Cal P w K mg base "_law_text" 1 ["_law_island_here"] (spShI)) (C__law_whole : Cal P w K mg base "_law_whole" 1 ["_law_number"] (spWhole)) : FnOk P w K mg base CX0 4 f fd ["_law_island_here"] (spRight) := by
  refine F.ok (k := 3) sc__law_right (fun vs H Q E h => ?_) (fun cdv A outer s H vs Q E hr h => ?_)
  · obtain ⟨_, _, rfl, _⟩ := h; rfl
  · obtain ⟨t, cs, rfl, ht, bs, sd, k⟩ := h
    have hu := hu_of hr
    have hu64 := hr.units
    have hu1 := hr.units0
    have nd := sc__law_right.nd
    refine ⟨_, SSs.h (pss_cons' (qset' (j := 1) nd rfl (by first | exact Or.inl rfl | exact Or.inr rfl) (qcal' C_show_island (hr.mono (by decide)) rfl (qa' (pv' 0) pa_nil')))
      (pss_cons' (ps_if' (pw_pt' (pw_or' (pt_not' (qval' (qcallB' (call_isiK (K := K) (T := "str") true) (by rfl) T.b_isinstance PyProof.Rows.boot_isinstance (qa' (pv' 1) (qa' (pe_bltn' (v := .ty "str") rfl T.b_str PyProof.Rows.boot_str rfl) pa_nil'))))) (pw_or1' (pt_cmpR' op_ne (pv' 1) (qcal' C__law_text (hr.mono (by decide)) rfl (qa' (pv' 0) pa_nil')) (nomark _)))))
        (pss_one' (ps_ret' pe_bl'))
        pss_nil')
      (pss_cons' (qset' (j := 2) nd rfl (by first | exact Or.inl rfl | exact Or.inr rfl) (qcal' C_read_island (hr.mono (by decide)) rfl (qa' (pv' 1) pa_nil')))
      (pss_cons' (ps_if' (pw_pt' (pw_or' (pt_not' (qval' (qcallB' (call_isiK (K := K) (T := "tuple") true) (by rfl) T.b_isinstance PyProof.Rows.boot_isinstance (qa' (pv' 2) (qa' (pe_bltn' (v := .ty "tuple") rfl T.b_tuple PyProof.Rows.boot_tuple rfl) pa_nil'))))) (pw_or1' (pt_cmpR' (op_neDK (K := K) hu64) (pv' 2) (pv' 0) (nomark _)))))
        (pss_one' (ps_ret' pe_bl'))
        pss_nil')
      (pss_one' (ps_ret' (qcallB' (call_allK (K := K) rfl) (by rfl) T.b_all PyProof.Rows.boot_all (qa' (qlcomp' rfl (CompScope.mk' (sc := defScope s__law_right) (N := ["_law_island_here", "_law_text_here", "_law_found"]) (own := ["_law_cell"]) (fre := []) (ix := []) rfl rfl (by decide +kernel)) (pi_tupK (K := K) (pv' 2)) (fun cl C s0 H0 fp => (pg_name' (j := 0) (show (["_law_cell"] : List Str).Nodup by decide +kernel) rfl (Or.inl rfl) (Or.inr rfl))) (fun cl C s0 H0 fp => pifs_nil') (fun cl C s0 H0 fp => (pe_and' (qcallB' (call_isiK (K := K) (T := "tuple") true) (by rfl) T.b_isinstance PyProof.Rows.boot_isinstance (qa' (pv' 0) (qa' (pe_bltn' (v := .ty "tuple") rfl T.b_tuple PyProof.Rows.boot_tuple rfl) pa_nil'))) (pe_and' (qcal' C__law_whole (hr.mono (by decide)) rfl (qa' (qix' (ix_tupK (K := K)) (pv' 0) pe_int') pa_nil')) (pe_one' (qcal' C__law_whole (hr.mono (by decide)) rfl (qa' (qix' (ix_tupK (K := K)) (pv' 0) pe_int') pa_nil'))))))) pa_nil')))))))), ?_⟩
    walk_at "rd"
    refine ⟨t, cs, rfl, ht, bs, fun H1 s1 => ?_⟩
    walk_at "rd"
    refine rd_isiS ?_
    walk_at "rd"
    have ht1 := ht.same s1
    refine ⟨t, cs, rfl, ht1, bs, fun H2 s2 => ?_⟩
    walk_at "rd"
    refine rd_ne rfl ?_
    walk_at "rd"
    rw [if_neg (by rw [decide_eq_true rfl]; decide)]
    have ht2 := ht1.same s2
    walk_at "rd"
    refine ⟨_, rfl, bs, sd, by rw [List.length_map]; exact ht.z, fun p ds H3 hI e s3 => ?_⟩
    have ht3 := ht2.same s3
    walk_at "rd"
    refine rd_isiT hI.t ?_
    walk_at "rd"
    refine rd_neC (.of hI.t) (.of ht3.t) hI.c ht3.c ?_
    rw [decide_eq_true e]
    walk_at "rd"
    refine ⟨p, rfl, ⟨_, .of hI.t⟩, ?_⟩
    refine comp_tup (K := K) (xs := rv ds) (fun n ys σ H' => (∃ v, σ = [v]) ∧ H' = H3 ∧ ys = (List.replicate n true).map V.bl) ⟨⟨_, rfl⟩, rfl, rfl⟩ ?_ ?_ ?_
    · rintro n ys σ H' hn ⟨_, rfl, rfl⟩
      have := hI.z
      rw [rv_len] at hn
      exact ⟨.of hI.t, fun _ => small1000 (by simp; omega)⟩
    · rintro n v ys σ H' hv ⟨⟨w, rfl⟩, rfl, rfl⟩
      obtain ⟨c, ec, hcm, rfl⟩ := rv_get hv
      walk_at "rd"
      refine rd_isiT (hI.c c hcm) ?_
      walk_at "rd"
      refine rd_ixT (.of (hI.c c hcm)) rfl ?_
      walk_at "rd"
      refine ⟨_, rfl, ?_⟩
      walk_at "rd"
      refine rd_ixT (.of (hI.c c hcm)) rfl ?_
      walk_at "rd"
      refine ⟨_, rfl, ?_⟩
      refine ⟨⟨_, rfl⟩, rfl, ?_⟩
      rw [List.replicate_succ', List.map_append]
      rfl
    rintro ys σ' H4 ⟨_, rfl, rfl⟩ l nl
    generalize eG : upd _ l _ = H5
    obtain ⟨hl, s5⟩ := newG nl eG
    clear eG
    walk_at "rd"
    refine ⟨l, _, rfl, .of hl, ?_⟩
    rw [show (List.replicate (rv ds).length true).all id = true from List.all_eq_true.mpr fun b hb => (List.mem_replicate.mp hb).2]
    exact k H5 (((s1.trans s2).trans s3).trans s5)
abbrev s_law : Stmt := top 21
theorem sc_law : FnScope ["_law_script", "_law_deal_here", "_law_one", "_law_other"] ["_law_script"] (defScope s_law) := ⟨rfl, rfl, rfl, by decide +kernel, rfl, by decide +kernel, by decide +kernel⟩
theorem ok_law {f : Addr} {fd : FuncData} (F : Fun K "law" "law" s_law f fd) (T : Txt K mg) (C__law_deal : Cal P w K mg base "_law_deal" 1 ["_law_script", "_law_base"] (spDeal K)) (C__law_island : Cal P w K mg base "_law_island" 2 ["_law_deal_here"] (spIsl)) (C__law_right : Cal P w K mg base "_law_right" 4 ["_law_island_here"] (spRight)) (C_read_island : Cal P w K mg base "read_island" 3 ["text"] (spRdI)) (C__law_text : Cal P w K mg base "_law_text" 1 ["_law_island_here"] (spShI)) : FnOk P w K mg base CX0 5 f fd ["_law_script"] (spLaw K) := by
  refine F.ok (k := 4) sc_law (fun vs H Q E h => ?_) (fun cdv A outer s H vs Q E hr h => ?_)
  · obtain ⟨_, _, rfl, _⟩ := h; rfl
  · obtain ⟨a, ns, rfl, hS, hlen, k⟩ := h
    have hu := hu_of hr
    have hu64 := hr.units
    have hu1 := hr.units0
    have nd := sc_law.nd
    refine ⟨_, SSs.h (pss_cons' (qset' (j := 1) nd rfl (by first | exact Or.inl rfl | exact Or.inr rfl) (qcal' C__law_deal (hr.mono (by decide)) rfl (qa' (pv' 0) (qa' pe_int' pa_nil'))))
      (pss_cons' (qpar' (i := 2) (j := 3) rfl nd rfl rfl (by decide) rfl rfl (qa' (qcal' C__law_island (hr.mono (by decide)) rfl (qa' (pv' 1) pa_nil')) (qa' (qcal' C__law_island (hr.mono (by decide)) rfl (qa' (pv' 1) pa_nil')) pa_nil')) rfl)
      (pss_cons' (ps_if' (pw_pt' (pw_or' (pt_not' (qval' (qcal' C__law_right (hr.mono (by decide)) rfl (qa' (pv' 2) pa_nil')))) (pw_or' (pt_not' (qval' (qcal' C__law_right (hr.mono (by decide)) rfl (qa' (pv' 3) pa_nil')))) (pw_or1' (pt_not' (qval' (qcal' C__law_right (hr.mono (by decide)) rfl (qa' (pe_tup' pa_nil') pa_nil'))))))))
        (pss_one' (ps_ret' pe_bl'))
        pss_nil')
      (pss_one' (ps_ret' (pe_and' (qcal' C__law_right (hr.mono (by decide)) rfl (qa' (pv' 2) pa_nil')) (pe_one' (pe_cmpR' (op_eqDK (K := K) hu64) (qcal' C_read_island (hr.mono (by decide)) rfl (qa' (qcal' C__law_text (hr.mono (by decide)) rfl (qa' (pv' 3) pa_nil')) pa_nil')) (pv' 3) (nomark _))))))))), ?_⟩
    walk_at "rd"
    refine ⟨a, ns, 0, rfl, hS, hlen, by decide, fun d l H1 nd0 nl0 hD1 s1 => ?_⟩
    walk_at "rd"
    refine ⟨d, l, rfl, hD1, fun i1 cs1 H2 hi1 bs1 sd1 hD2 kp2 => ?_⟩
    walk_at "rd"
    refine ⟨d, l, rfl, hD2, fun i2 cs2 H3 hi2 bs2 sd2 hD3 kp3 => ?_⟩
    have hi1 := hi1.kp kp3 hD2
    walk_at "rd"
    refine ⟨_, _, rfl, ?_⟩
    walk_at "rd"
    refine ⟨i1, cs1, rfl, hi1, bs1, sd1, fun H4 s4 => ?_⟩
    walk_at "rd"
    refine ⟨i2, cs2, rfl, hi2.same s4, bs2, sd2, fun H5 s5 => ?_⟩
    walk_at "rd"
    refine ⟨zle rfl, fun em n6 => ?_⟩
    generalize eG : upd _ em _ = H6
    obtain ⟨hem, s6⟩ := newG n6 eG
    clear eG
    walk_at "rd"
    refine ⟨em, [], rfl, ⟨hem, (fun _ h => nomatch h), by decide⟩, (fun _ h => nomatch h), .nil, fun H7 s7 => ?_⟩
    have s37 := ((s4.trans s5).trans s6).trans s7
    walk_at "rd"
    refine ⟨i1, cs1, rfl, hi1.same s37, bs1, sd1, fun H8 s8 => ?_⟩
    have hi2 := hi2.same (s37.trans s8)
    walk_at "rd"
    refine ⟨i2, cs2, rfl, hi2, bs2, fun H9 s9 => ?_⟩
    walk_at "rd"
    refine ⟨_, rfl, bs2, sd2, by rw [List.length_map]; exact hi2.z, fun p ds H10 hI e s10 => ?_⟩
    walk_at "rd"
    have hi2' := hi2.same (s9.trans s10)
    refine rd_eqC (.of hI.t) (.of hi2'.t) hI.c hi2'.c ?_
    rw [decide_eq_true e]
    exact k H10
end
theorem all_mk {l : PySem.W.OpenLaw} {w : World} {K : PySem.W.Frag} {h : Heap} {mg : Str → Option Value} {fa f0 f1 f2 f3 f4 f5 f6 f7 f8 f9 f10 f11 f12 : Addr} (X : K.In h) (G : h.Ns mainGlobals mg) (hfa : mg "law" = some (.ref fa))
    {od0 an0 od1 an1 od2 an2 od3 an3 od4 an4 od5 an5 od6 an6 od7 an7 od8 an8 od9 an9 od10 an10 od11 an11 od12 an12 : Option Addr} {sl0 sl1 sl2 sl3 sl4 sl5 sl6 sl7 sl8 sl9 sl10 sl11 sl12 : Array (Option Value)} {oc0 kV0 dc0 pm0 cd0 ct0 oc1 kV1 dc1 pm1 cd1 ct1 oc2 kV2 dc2 pm2 cd2 ct2 oc3 kV3 dc3 pm3 cd3 ct3 oc4 kV4 dc4 pm4 cd4 ct4 oc5 kV5 dc5 pm5 cd5 ct5 oc6 kV6 dc6 pm6 cd6 ct6 oc7 kV7 dc7 pm7 cd7 ct7 oc8 kV8 dc8 pm8 cd8 ct8 oc9 kV9 dc9 pm9 cd9 ct9 oc10 kV10 dc10 pm10 cd10 ct10 oc11 kV11 dc11 pm11 cd11 ct11 oc12 kV12 dc12 pm12 cd12 ct12 : Value}
    (a0 : PySem.W.nsIn K mainGlobals "is_rising" = some (some (.ref f0))) (l0 : K.lookup f0 = some ⟨oc0, od0, .func (PySem.W.fnOf "is_rising" "is_rising" (defArgs s_is_rising) (defBody s_is_rising) (defScope s_is_rising) .none kV0 dc0 pm0 an0 cd0 ct0), sl0⟩) (c0 : PySem.W.codeIn K cd0 "is_rising" = true) (k0 : PySem.W.keepIn K (.ref f0) = true)
    (a1 : PySem.W.nsIn K mainGlobals "is_number" = some (some (.ref f1))) (l1 : K.lookup f1 = some ⟨oc1, od1, .func (PySem.W.fnOf "is_number" "is_number" (defArgs s_is_number) (defBody s_is_number) (defScope s_is_number) .none kV1 dc1 pm1 an1 cd1 ct1), sl1⟩) (c1 : PySem.W.codeIn K cd1 "is_number" = true) (k1 : PySem.W.keepIn K (.ref f1) = true)
    (a2 : PySem.W.nsIn K mainGlobals "read_numbers" = some (some (.ref f2))) (l2 : K.lookup f2 = some ⟨oc2, od2, .func (PySem.W.fnOf "read_numbers" "read_numbers" (defArgs s_read_numbers) (defBody s_read_numbers) (defScope s_read_numbers) .none kV2 dc2 pm2 an2 cd2 ct2), sl2⟩) (c2 : PySem.W.codeIn K cd2 "read_numbers" = true) (k2 : PySem.W.keepIn K (.ref f2) = true)
    (a3 : PySem.W.nsIn K mainGlobals "show_numbers" = some (some (.ref f3))) (l3 : K.lookup f3 = some ⟨oc3, od3, .func (PySem.W.fnOf "show_numbers" "show_numbers" (defArgs s_show_numbers) (defBody s_show_numbers) (defScope s_show_numbers) .none kV3 dc3 pm3 an3 cd3 ct3), sl3⟩) (c3 : PySem.W.codeIn K cd3 "show_numbers" = true) (k3 : PySem.W.keepIn K (.ref f3) = true)
    (a4 : PySem.W.nsIn K mainGlobals "show_island" = some (some (.ref f4))) (l4 : K.lookup f4 = some ⟨oc4, od4, .func (PySem.W.fnOf "show_island" "show_island" (defArgs s_show_island) (defBody s_show_island) (defScope s_show_island) .none kV4 dc4 pm4 an4 cd4 ct4), sl4⟩) (c4 : PySem.W.codeIn K cd4 "show_island" = true) (k4 : PySem.W.keepIn K (.ref f4) = true)
    (a5 : PySem.W.nsIn K mainGlobals "read_island" = some (some (.ref f5))) (l5 : K.lookup f5 = some ⟨oc5, od5, .func (PySem.W.fnOf "read_island" "read_island" (defArgs s_read_island) (defBody s_read_island) (defScope s_read_island) .none kV5 dc5 pm5 an5 cd5 ct5), sl5⟩) (c5 : PySem.W.codeIn K cd5 "read_island" = true) (k5 : PySem.W.keepIn K (.ref f5) = true)
    (a6 : PySem.W.nsIn K mainGlobals "_law_deal" = some (some (.ref f6))) (l6 : K.lookup f6 = some ⟨oc6, od6, .func (PySem.W.fnOf "_law_deal" "_law_deal" (defArgs s__law_deal) (defBody s__law_deal) (defScope s__law_deal) .none kV6 dc6 pm6 an6 cd6 ct6), sl6⟩) (c6 : PySem.W.codeIn K cd6 "_law_deal" = true) (k6 : PySem.W.keepIn K (.ref f6) = true)
    (a7 : PySem.W.nsIn K mainGlobals "_law_draw" = some (some (.ref f7))) (l7 : K.lookup f7 = some ⟨oc7, od7, .func (PySem.W.fnOf "_law_draw" "_law_draw" (defArgs s__law_draw) (defBody s__law_draw) (defScope s__law_draw) .none kV7 dc7 pm7 an7 cd7 ct7), sl7⟩) (c7 : PySem.W.codeIn K cd7 "_law_draw" = true) (k7 : PySem.W.keepIn K (.ref f7) = true)
    (a8 : PySem.W.nsIn K mainGlobals "_law_whole" = some (some (.ref f8))) (l8 : K.lookup f8 = some ⟨oc8, od8, .func (PySem.W.fnOf "_law_whole" "_law_whole" (defArgs s__law_whole) (defBody s__law_whole) (defScope s__law_whole) .none kV8 dc8 pm8 an8 cd8 ct8), sl8⟩) (c8 : PySem.W.codeIn K cd8 "_law_whole" = true) (k8 : PySem.W.keepIn K (.ref f8) = true)
    (a9 : PySem.W.nsIn K mainGlobals "_law_island" = some (some (.ref f9))) (l9 : K.lookup f9 = some ⟨oc9, od9, .func (PySem.W.fnOf "_law_island" "_law_island" (defArgs s__law_island) (defBody s__law_island) (defScope s__law_island) .none kV9 dc9 pm9 an9 cd9 ct9), sl9⟩) (c9 : PySem.W.codeIn K cd9 "_law_island" = true) (k9 : PySem.W.keepIn K (.ref f9) = true)
    (a10 : PySem.W.nsIn K mainGlobals "_law_text" = some (some (.ref f10))) (l10 : K.lookup f10 = some ⟨oc10, od10, .func (PySem.W.fnOf "_law_text" "_law_text" (defArgs s__law_text) (defBody s__law_text) (defScope s__law_text) .none kV10 dc10 pm10 an10 cd10 ct10), sl10⟩) (c10 : PySem.W.codeIn K cd10 "_law_text" = true) (k10 : PySem.W.keepIn K (.ref f10) = true)
    (a11 : PySem.W.nsIn K mainGlobals "_law_right" = some (some (.ref f11))) (l11 : K.lookup f11 = some ⟨oc11, od11, .func (PySem.W.fnOf "_law_right" "_law_right" (defArgs s__law_right) (defBody s__law_right) (defScope s__law_right) .none kV11 dc11 pm11 an11 cd11 ct11), sl11⟩) (c11 : PySem.W.codeIn K cd11 "_law_right" = true) (k11 : PySem.W.keepIn K (.ref f11) = true)
    (a12 : PySem.W.nsIn K mainGlobals "law" = some (some (.ref f12))) (l12 : K.lookup f12 = some ⟨oc12, od12, .func (PySem.W.fnOf "law" "law" (defArgs s_law) (defBody s_law) (defScope s_law) .none kV12 dc12 pm12 an12 cd12 ct12), sl12⟩) (c12 : PySem.W.codeIn K cd12 "law" = true) (k12 : PySem.W.keepIn K (.ref f12) = true)
    (z0 : PySem.W.nsIn K mainGlobals "all" = some none)
    (z1 : PySem.W.nsIn K mainGlobals "bool" = some none)
    (z2 : PySem.W.nsIn K mainGlobals "int" = some none)
    (z3 : PySem.W.nsIn K mainGlobals "isinstance" = some none)
    (z4 : PySem.W.nsIn K mainGlobals "len" = some none)
    (z5 : PySem.W.nsIn K mainGlobals "list" = some none)
    (z6 : PySem.W.nsIn K mainGlobals "max" = some none)
    (z7 : PySem.W.nsIn K mainGlobals "range" = some none)
    (z8 : PySem.W.nsIn K mainGlobals "reversed" = some none)
    (z9 : PySem.W.nsIn K mainGlobals "set" = some none)
    (z10 : PySem.W.nsIn K mainGlobals "sorted" = some none)
    (z11 : PySem.W.nsIn K mainGlobals "str" = some none)
    (z12 : PySem.W.nsIn K mainGlobals "tuple" = some none)
    (z13 : PySem.W.nsIn K mainGlobals "zip" = some none)
    {tk0 : Tok} (e0 : PySem.W.nsIn K mainGlobals "EMPTY" = some (some (.str (Str.ofString ".") tk0)))
    {tk1 : Tok} (e1 : PySem.W.nsIn K mainGlobals "MOST_FIGURES" = some (some (.int 19 tk1)))
    : ∃ fd : FuncData, (∀ (s : Shared) (v : Value), BindsTo s fd ⟨[v], []⟩ [("_law_script", v)]) ∧ ∀ base : Heap, K.In base → base.Ns mainGlobals mg → FnOk l.prog w K mg base CX0 5 fa fd ["_law_script"] (spLaw K) := by
  have e := hfa.symm.trans (PySem.W.mg_of X G a12)
  cases e
  have T : Txt K mg := ⟨PySem.W.mg_none_of X G z0, PySem.W.mg_none_of X G z1, PySem.W.mg_none_of X G z2, PySem.W.mg_none_of X G z3, PySem.W.mg_none_of X G z4, PySem.W.mg_none_of X G z5, PySem.W.mg_none_of X G z6, PySem.W.mg_none_of X G z7, PySem.W.mg_none_of X G z8, PySem.W.mg_none_of X G z9, PySem.W.mg_none_of X G z10, PySem.W.mg_none_of X G z11, PySem.W.mg_none_of X G z12, PySem.W.mg_none_of X G z13, ⟨_, PySem.W.mg_of X G e0, ⟨_, rfl⟩⟩, ⟨_, PySem.W.mg_of X G e1, ⟨_, rfl⟩⟩⟩
  have F0 := fun_mk (st := s_is_rising) l0 c0 k0
  have F1 := fun_mk (st := s_is_number) l1 c1 k1
  have F2 := fun_mk (st := s_read_numbers) l2 c2 k2
  have F3 := fun_mk (st := s_show_numbers) l3 c3 k3
  have F4 := fun_mk (st := s_show_island) l4 c4 k4
  have F5 := fun_mk (st := s_read_island) l5 c5 k5
  have F6 := fun_mk (st := s__law_deal) l6 c6 k6
  have F7 := fun_mk (st := s__law_draw) l7 c7 k7
  have F8 := fun_mk (st := s__law_whole) l8 c8 k8
  have F9 := fun_mk (st := s__law_island) l9 c9 k9
  have F10 := fun_mk (st := s__law_text) l10 c10 k10
  have F11 := fun_mk (st := s__law_right) l11 c11 k11
  have F12 := fun_mk (st := s_law) l12 c12 k12
  refine ⟨PySem.W.fnOf "law" "law" (defArgs s_law) (defBody s_law) (defScope s_law) .none kV12 dc12 pm12 an12 cd12 ct12, fun s v => .of_eq rfl, fun base _ _ => ?_⟩
  have C_is_rising : Cal l.prog w K mg base "is_rising" 1 ["cells"] (spRis) := ⟨_, _, ok_is_rising F0 T, PySem.W.mg_of X G a0, F0.kp, F0.binds (ps := ["cells"]) fun _ _ _ _ _ _ us hl => match us, hl with | [_], _ => rfl⟩
  have C_is_number : Cal l.prog w K mg base "is_number" 1 ["text", "figures"] (spNum) := ⟨_, _, ok_is_number F1 T, PySem.W.mg_of X G a1, F1.kp, F1.binds (ps := ["text", "figures"]) fun _ _ _ _ _ _ us hl => match us, hl with | [_, _], _ => rfl⟩
  have C_show_numbers : Cal l.prog w K mg base "show_numbers" 1 ["numbers"] (spShN) := ⟨_, _, ok_show_numbers F3 T, PySem.W.mg_of X G a3, F3.kp, F3.binds (ps := ["numbers"]) fun _ _ _ _ _ _ us hl => match us, hl with | [_], _ => rfl⟩
  have C__law_deal : Cal l.prog w K mg base "_law_deal" 1 ["_law_script", "_law_base"] (spDeal K) := ⟨_, _, ok__law_deal F6 T, PySem.W.mg_of X G a6, F6.kp, F6.binds (ps := ["_law_script", "_law_base"]) fun _ _ _ _ _ _ us hl => match us, hl with | [_, _], _ => rfl⟩
  have C__law_draw : Cal l.prog w K mg base "_law_draw" 1 ["_law_deal_here", "_law_many"] (spDraw) := ⟨_, _, ok__law_draw F7 T, PySem.W.mg_of X G a7, F7.kp, F7.binds (ps := ["_law_deal_here", "_law_many"]) fun _ _ _ _ _ _ us hl => match us, hl with | [_, _], _ => rfl⟩
  have C__law_whole : Cal l.prog w K mg base "_law_whole" 1 ["_law_number"] (spWhole) := ⟨_, _, ok__law_whole F8 T, PySem.W.mg_of X G a8, F8.kp, F8.binds (ps := ["_law_number"]) fun _ _ _ _ _ _ us hl => match us, hl with | [_], _ => rfl⟩
  have C__law_text : Cal l.prog w K mg base "_law_text" 1 ["_law_island_here"] (spShI) := ⟨_, _, ok__law_text F10 T, PySem.W.mg_of X G a10, F10.kp, F10.binds (ps := ["_law_island_here"]) fun _ _ _ _ _ _ us hl => match us, hl with | [_], _ => rfl⟩
  have C_read_numbers : Cal l.prog w K mg base "read_numbers" 2 ["text", "many", "figures"] (spRdN) := ⟨_, _, ok_read_numbers F2 T C_is_number, PySem.W.mg_of X G a2, F2.kp, F2.binds (ps := ["text", "many", "figures"]) fun _ _ _ _ _ _ us hl => match us, hl with | [_, _, _], _ => rfl⟩
  have C_show_island : Cal l.prog w K mg base "show_island" 2 ["island"] (spShI) := ⟨_, _, ok_show_island F4 T C_show_numbers, PySem.W.mg_of X G a4, F4.kp, F4.binds (ps := ["island"]) fun _ _ _ _ _ _ us hl => match us, hl with | [_], _ => rfl⟩
  have C__law_island : Cal l.prog w K mg base "_law_island" 2 ["_law_deal_here"] (spIsl) := ⟨_, _, ok__law_island F9 T C__law_draw, PySem.W.mg_of X G a9, F9.kp, F9.binds (ps := ["_law_deal_here"]) fun _ _ _ _ _ _ us hl => match us, hl with | [_], _ => rfl⟩
  have C_read_island : Cal l.prog w K mg base "read_island" 3 ["text"] (spRdI) := ⟨_, _, ok_read_island F5 T C_read_numbers C_is_rising, PySem.W.mg_of X G a5, F5.kp, F5.binds (ps := ["text"]) fun _ _ _ _ _ _ us hl => match us, hl with | [_], _ => rfl⟩
  have C__law_right : Cal l.prog w K mg base "_law_right" 4 ["_law_island_here"] (spRight) := ⟨_, _, ok__law_right F11 T C_show_island C_read_island C__law_text C__law_whole, PySem.W.mg_of X G a11, F11.kp, F11.binds (ps := ["_law_island_here"]) fun _ _ _ _ _ _ us hl => match us, hl with | [_], _ => rfl⟩
  exact ok_law F12 T C__law_deal C__law_island C__law_right C_read_island C__law_text
theorem walk {l : PySem.W.OpenLaw} {q : Program} {loose : List Str} {XP : (Str → Option Value) → Heap → Prop} {YP : World → Heap → Prop} {d : DefRec} {K : Params → PySem.W.Frag} (hn : l.most = some 63) (hdf : d.params.defaults = [])
    (hY : ∀ (w : World) (h : Heap), YP w h → (K w.params).In h)
    (F : ∀ (w : World) (mg : Str → Option Value) (fa : Addr) (h : Heap), (K w.params).In h → h.Ns mainGlobals mg → mg d.name = some (.ref fa) →
      ∃ fd : FuncData, (∀ (s : Shared) (u : Value), BindsTo s fd ⟨[u], []⟩ [("_law_script", u)]) ∧ ∀ base : Heap, (K w.params).In base → base.Ns mainGlobals mg → FnOk l.prog w (K w.params) mg base CX0 5 fa fd ["_law_script"] (spLaw (K w.params))) :
    PySem.W.WalkO q loose XP YP l.row.toRowW d [] (fun f vs => PySem.call f vs) :=
  L2.walk_of (n := 63) (k := 5) (x := "_law_script") (CX := fun _ => CX0) (sp := fun w => spLaw (K w.params)) hn (by decide) hdf ⟨rfl, by decide, by decide⟩ hY F (fun _ _ a ns hl _ hS => ⟨a, ns, rfl, hS, hl, fun _ => rfl⟩) fun _ _ _ _ _ z => z
end Law
open PySem PySem.W PyProof.Rows
set_option maxRecDepth 100000 in
set_option maxHeartbeats 0 in
theorem PySem.Challenge.cw_healfloor_k43_islands_written_and_read_holds : PySem.Challenge.rw_healfloor_k43_islands_written_and_read.Holds := by
  w_on; o_law; k_head; (case hw => w_witness2)
  k_fill
  refine Law.walk (l := PySem.Challenge.rw_healfloor_k43_islands_written_and_read) rfl rfl (fun w h Y => PySem.W.kIn_of Y) ?F
  case F =>
    intro w mg fa h KX G hmg
    refine' Law.all_mk KX G hmg ?a0 ?l0 ?c0 ?k0 ?a1 ?l1 ?c1 ?k1 ?a2 ?l2 ?c2 ?k2 ?a3 ?l3 ?c3 ?k3 ?a4 ?l4 ?c4 ?k4 ?a5 ?l5 ?c5 ?k5 ?a6 ?l6 ?c6 ?k6 ?a7 ?l7 ?c7 ?k7 ?a8 ?l8 ?c8 ?k8 ?a9 ?l9 ?c9 ?k9 ?a10 ?l10 ?c10 ?k10 ?a11 ?l11 ?c11 ?k11 ?a12 ?l12 ?c12 ?k12 ?z0 ?z1 ?z2 ?z3 ?z4 ?z5 ?z6 ?z7 ?z8 ?z9 ?z10 ?z11 ?z12 ?z13 ?e0 ?e1
    (case a0 => k_is)
    (case l0 => k_is)
    (case c0 => k_is)
    (case k0 => k_is)
    (case a1 => k_is)
    (case l1 => k_is)
    (case c1 => k_is)
    (case k1 => k_is)
    (case a2 => k_is)
    (case l2 => k_is)
    (case c2 => k_is)
    (case k2 => k_is)
    (case a3 => k_is)
    (case l3 => k_is)
    (case c3 => k_is)
    (case k3 => k_is)
    (case a4 => k_is)
    (case l4 => k_is)
    (case c4 => k_is)
    (case k4 => k_is)
    (case a5 => k_is)
    (case l5 => k_is)
    (case c5 => k_is)
    (case k5 => k_is)
    (case a6 => k_is)
    (case l6 => k_is)
    (case c6 => k_is)
    (case k6 => k_is)
    (case a7 => k_is)
    (case l7 => k_is)
    (case c7 => k_is)
    (case k7 => k_is)
    (case a8 => k_is)
    (case l8 => k_is)
    (case c8 => k_is)
    (case k8 => k_is)
    (case a9 => k_is)
    (case l9 => k_is)
    (case c9 => k_is)
    (case k9 => k_is)
    (case a10 => k_is)
    (case l10 => k_is)
    (case c10 => k_is)
    (case k10 => k_is)
    (case a11 => k_is)
    (case l11 => k_is)
    (case c11 => k_is)
    (case k11 => k_is)
    (case a12 => k_is)
    (case l12 => k_is)
    (case c12 => k_is)
    (case k12 => k_is)
    (case z0 => k_is)
    (case z1 => k_is)
    (case z2 => k_is)
    (case z3 => k_is)
    (case z4 => k_is)
    (case z5 => k_is)
    (case z6 => k_is)
    (case z7 => k_is)
    (case z8 => k_is)
    (case z9 => k_is)
    (case z10 => k_is)
    (case z11 => k_is)
    (case z12 => k_is)
    (case z13 => k_is)
    (case e0 => k_is)
    (case e1 => k_is)
#print axioms PySem.Challenge.cw_healfloor_k43_islands_written_and_read_holds

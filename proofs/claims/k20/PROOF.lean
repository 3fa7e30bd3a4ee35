import PyProof.Rows.All
import Wide.All
import OpenK.AllK
import Wide.FinOn
import PyProof.EqAt
import PyProof.EqKinds
import PyProof.TupleCall
import KE.BitLaws
import KE.KSortTupG
import PyProof.ListRange
import PyProof.P3In
import PyProof.P3Eq
import PyProof.StationsW
import OpenK.KOwn
import PyProof.ExcClass2
import PyProof.NsDelKeeps
import KE.KTryMore
import PyProof.RulesAs
import KE.KIsAll
import PyProof.ExcArgsOwn
import PyProof.ListNew
import PyProof.WalksMore
import PyProof.Rows.SetFrom
import PyProof.SetRoads
import PySem.Challenge.RW_bracketwords_k20_sums_of_repeated_words
set_option Elab.async false
set_option linter.all false
set_option maxRecDepth 100000

/-! THE HAND LAYER, for ints, bools, texts, own classes, lists, tuples, dicts, comprehensions, walks over dicts, enumerate, zip, reversed, texts, calls, loops. Paste it whole ahead of your own text; what your proof does not reach may be deleted. -/
namespace L2
open PySem PySem.Spec PyProof.Rows

/-- a key: an int or a str -/
abbrev Key := Sum Int Str
def keyIs : Key → Value → Bool
  | .inl k, v => Value.isInt k v
  | .inr x, v => Value.isStrOf x v
def keyH (w : World) : Key → Int
  | .inl k => hashInt k
  | .inr x => hashStr w x
theorem keyIs_shape : ∀ {k : Key} {v : Value}, keyIs k v = true → (∃ i t, k = Sum.inl i ∧ v = Value.int i t) ∨ (∃ x t, k = Sum.inr x ∧ v = Value.str x t)
  | .inl i, v, h => by
    obtain ⟨t, e⟩ := Value.isInt_shape (k := i) (v := v) h
    exact .inl ⟨i, t, rfl, e⟩
  | .inr x, v, h => by
    obtain ⟨t, e⟩ := Value.isStrOf_shape (x := x) (v := v) h
    exact .inr ⟨x, t, rfl, e⟩
theorem keyIs_int (i : Int) (t : Tok) : keyIs (.inl i) (.int i t) = true := by simp [keyIs, Value.isInt]
theorem keyIs_str (x : Str) (t : Tok) : keyIs (.inr x) (.str x t) = true := by simp [keyIs, Value.isStrOf]
theorem key_ll (a b : Int) : decide ((Sum.inl a : Key) = Sum.inl b) = (a == b) := by
  by_cases e : a = b
  · subst e; simp
  · have h : ¬ (Sum.inl a : Key) = Sum.inl b := fun q => e (Sum.inl.inj q)
    rw [decide_eq_false h]
    exact (beq_eq_false_iff_ne.mpr e).symm
theorem key_rr (a b : Str) : decide ((Sum.inr a : Key) = Sum.inr b) = decide (a = b) := by
  by_cases e : a = b
  · subst e; simp
  · have h : ¬ (Sum.inr a : Key) = Sum.inr b := fun q => e (Sum.inr.inj q)
    rw [decide_eq_false h, decide_eq_false e]
theorem key_lr (a : Int) (b : Str) : decide ((Sum.inl a : Key) = Sum.inr b) = false := decide_eq_false (fun q => nomatch q)
theorem key_rl (a : Str) (b : Int) : decide ((Sum.inr a : Key) = Sum.inl b) = false := decide_eq_false (fun q => nomatch q)

def mixKind (prog : Program) (w : World) : PySem.KeyKind prog w Key where
  is := keyIs
  hash := keyH w
  inj := fun v a b ha hb => by
    rcases keyIs_shape ha with ⟨i, t, rfl, rfl⟩ | ⟨x, t, rfl, rfl⟩
    · rcases keyIs_shape hb with ⟨j, u, rfl, e⟩ | ⟨y, u, rfl, e⟩
      · injection e with e1 _; rw [e1]
      · exact nomatch e
    · rcases keyIs_shape hb with ⟨j, u, rfl, e⟩ | ⟨y, u, rfl, e⟩
      · exact nomatch e
      · injection e with e1 _; rw [e1]
  byValue := fun k v h => by
    rcases keyIs_shape h with ⟨i, t, rfl, rfl⟩ | ⟨x, t, rfl, rfl⟩ <;> rfl
  pyHash := fun hv h => by
    rcases keyIs_shape hv with ⟨i, t, rfl, rfl⟩ | ⟨x, t, rfl, rfl⟩
    · exact wpAny_pyHash_int h
    · exact wpAny_pyHash_str h
  eqBool := fun hu hv h => by
    rcases keyIs_shape hu with ⟨i, t, rfl, rfl⟩ | ⟨x, t, rfl, rfl⟩
    · rcases keyIs_shape hv with ⟨j, u, rfl, rfl⟩ | ⟨y, u, rfl, rfl⟩
      · rw [key_ll] at h; exact wpAny_eqBool_int h
      · rw [key_lr] at h; exact SeqAt.EqAt.int_str i t y u _ _ _ _ h
    · rcases keyIs_shape hv with ⟨j, u, rfl, rfl⟩ | ⟨y, u, rfl, rfl⟩
      · rw [key_rl] at h; exact SeqAt.EqAt.str_int x t j u _ _ _ _ h
      · rw [key_rr] at h; exact wpAny_eqBool_str h
  «strs» := fun k x t v h => by
    rcases keyIs_shape h with ⟨i, u, rfl, e⟩ | ⟨y, u, rfl, e⟩
    · exact nomatch e
    · injection e with e1 _
      subst e1
      cases v <;> rfl

theorem mixKind_int (prog : Program) (w : World) (i : Int) (t : Tok) : (mixKind prog w).is (.inl i) (.int i t) = true := keyIs_int i t
theorem mixKind_str (prog : Program) (w : World) (x : Str) (t : Tok) : (mixKind prog w).is (.inr x) (.str x t) = true := keyIs_str x t
end L2

namespace L2
open PySem PySem.Spec PyProof.Rows

/-- a value, without the heap -/
inductive V where
  | non | bl (b : Bool) | int (i : Int) | str (x : Str) | byt (b : Array UInt8) | flt (b : UInt64) | ref (a : Addr) | ty (n : String)
  deriving DecidableEq

def RelV : V → Value → Prop
  | .non, u => u = Value.none
  | .bl b, u => u = Value.bool b
  | .int i, u => ∃ t, u = Value.int i t
  | .str x, u => ∃ t, u = Value.str x t
  | .byt b, u => ∃ t, u = Value.bytes b t
  | .flt b, u => ∃ t, u = Value.float b t
  | .ref a, u => u = Value.ref a
  | .ty n, u => u = Value.type n

abbrev Vals : List V → List Value → Prop := Paired RelV
theorem Vals.length {xs : List V} {us : List Value} (r : Vals xs us) : xs.length = us.length := Paired.length r
theorem Vals.get : ∀ {xs : List V} {us : List Value} {i : Nat} {x : V}, Vals xs us → xs[i]? = some x → ∃ u, us[i]? = some u ∧ RelV x u
  | _, _, _, _, .nil, e => by simp at e
  | _, _, 0, _, .cons r _, e => by simp at e; subst e; exact ⟨_, rfl, r⟩
  | _, _, i + 1, x, .cons _ t, e => by
    obtain ⟨u, h1, h2⟩ := Vals.get (i := i) (x := x) t (by simpa using e)
    exact ⟨u, by simpa using h1, h2⟩
theorem Vals.set {x : V} {u : Value} (r : RelV x u) : ∀ {xs : List V} {us : List Value} (i : Nat), Vals xs us → Vals (xs.set i x) (us.set i u)
  | _, _, _, .nil => .nil
  | _, _, 0, .cons _ t => .cons r t
  | _, _, i + 1, .cons q t => .cons q (Vals.set r i t)
theorem Vals.append : ∀ {xs ys : List V} {us ws : List Value}, Vals xs us → Vals ys ws → Vals (xs ++ ys) (us ++ ws)
  | _, _, _, _, .nil, s => s
  | _, _, _, _, .cons r t, s => .cons r (Vals.append t s)
theorem Vals.take : ∀ {xs : List V} {us : List Value} (n : Nat), Vals xs us → Vals (xs.take n) (us.take n)
  | _, _, 0, _ => .nil
  | _, _, _ + 1, .nil => .nil
  | _, _, n + 1, .cons r t => .cons r (Vals.take n t)
theorem Vals.drop : ∀ {xs : List V} {us : List Value} (n : Nat), Vals xs us → Vals (xs.drop n) (us.drop n)
  | _, _, 0, r => r
  | _, _, _ + 1, .nil => .nil
  | _, _, n + 1, .cons _ t => Vals.drop n t
theorem Vals.none_of : ∀ {xs : List V} {us : List Value} {i : Nat}, Vals xs us → xs[i]? = none → us[i]? = none := fun {xs us i} r e => by
  have h1 := r.length
  have h2 : xs.length ≤ i := List.getElem?_eq_none_iff.mp e
  exact List.getElem?_eq_none_iff.mpr (by omega)

def RelO : Option V → Option Value → Prop
  | some v, some u => RelV v u
  | none, none => True
  | _, _ => False
def KV {κ : Type} : List (κ × V) → List (κ × Value) → Prop := Paired fun (p : κ × V) (q : κ × Value) => p.1 = q.1 ∧ RelV p.2 q.2

/-- a key of a dict (00_mix): an int or a text -/
def kV : Key → V
  | .inl i => .int i
  | .inr x => .str x

/-- what stands at a tracked address -/
inductive HO where
  /-- a list -/
  | lst (xs : List V)
  /-- a tuple (never changes) -/
  | tup (xs : List V)
  /-- a dict whose keys are ints and texts; one whose keys are tuples of ints and texts (the empty one is both) -/
  | dK (kvs : List (Key × V)) | dT (kvs : List (List Key × V))
  /-- a set of ints: its members, its size -/
  | set (S : Int → Bool) (n : Nat)
  /-- an instance of the class at C, its dict at dx, its attributes -/
  | ins (C dx : Addr) (fs : List (Str × V))
  /-- the dict of the instance at x -/
  | own (x : Addr)
  /-- the dict of an exception -/
  | xd (fs : List (Str × V))
  /-- a bound method, f of x -/
  | met (f x : Addr)
  /-- a range object lo, lo + 1, .. below hi -/
  | rng (lo hi : Int)
  /-- a thing that is known to the object (the script; a dict while a loop walks it): read, never written while it is so -/
  | frz (o : Obj) (u : HO)
  /-- a code object's table -/
  | tbl (ps : Array Value)
  /-- any other thing, by what is true of its one object (a def of one's own: SetO a S n := HO.ext fun h => ..) -/
  | ext (φ : Heap → Prop)

abbrev Hp := Addr → Option HO
def upd (H : Hp) (a : Addr) (o : HO) : Hp := fun b => if b = a then some o else H b
theorem upd_same {H : Hp} {a : Addr} {o : HO} : upd H a o a = some o := by unfold upd; rw [if_pos rfl]
theorem upd_ne {H : Hp} {a b : Addr} {o : HO} (h : b ≠ a) : upd H a o b = H b := by unfold upd; rw [if_neg h]
/-- two objects of different content stand apart -/
theorem ne_of {H : Hp} {a b : Addr} {o u : HO} (h : H a = some o) (h' : H b = some u) (d : o ≠ u) : a ≠ b := by
  intro e; subst e; rw [h] at h'; exact d (Option.some.inj h')
theorem ne_of_none {H : Hp} {a b : Addr} {o : HO} (h : H a = some o) (h' : H b = none) : a ≠ b := by
  intro e; subst e; rw [h] at h'; cases h'

/-- a tuple without a dict of its own -/
def IsTD (h : Heap) (a : Addr) (items : Array Value) : Prop := ∃ o, h.get? a = some o ∧ o.cls = .type "tuple" ∧ (∃ n, o.data = .seq items n) ∧ o.dict = Option.none
theorem IsTD.t {h : Heap} {a : Addr} {items : Array Value} (x : IsTD h a items) : IsTup h a items := let ⟨o, e, c, n, _⟩ := x; ⟨o, e, c, n⟩
theorem IsTD.lt {h : Heap} {a : Addr} {items : Array Value} (x : IsTD h a items) : a < h.objs.size := let ⟨_, e, _⟩ := x; Heap.lt_size e
theorem IsTD.new (h : Heap) (items : Array Value) {n : Nat} : IsTD (h.push { cls := .type "tuple", data := .seq items n }) h.objs.size items := ⟨_, Heap.get?_push_size _ rfl, rfl, ⟨_, rfl⟩, rfl⟩
section
variable (P : Program) (w : World)
def ObjOk (H : Hp) (h : Heap) (a : Addr) : HO → Prop
  | .lst xs => xs.length ≤ sizeLine ∧ ∃ (its : List Value) (n : Nat), Vals xs its ∧ h.get? a = some { cls := .type "list", data := .seq its.toArray n }
  | .tup xs => xs.length ≤ sizeLine ∧ ∃ its : List Value, Vals xs its ∧ IsTD h a its.toArray
  | .dK kvs => kvs.length ≤ sizeLine ∧ (a == sysModules) = false ∧ ∃ vs, KV kvs vs ∧ h.DictOf (mixKind P w) a vs
  | .dT kvs => kvs.length ≤ sizeLine ∧ (a == sysModules) = false ∧ ∃ xs : List (List Key × Addr × Value),
      Paired (fun (p : List Key × V) (q : List Key × Addr × Value) => p.1 = q.1 ∧ H q.2.1 = some (.tup (p.1.map kV)) ∧ RelV p.2 q.2.2) kvs xs ∧
      ∃ o es ep, h.get? a = some o ∧ o.ExactDict ∧ o.data = .dict es ep ∧ es.toList = xs.map (entryOfKey (tupleKind (mixKind P w))) ∧ (xs.map (·.1)).Nodup
  | .set S n => h.SetOf (intKind P w) a S n
  | .ins C dx fs => H dx = some (.own a) ∧ fs.length ≤ 1000 ∧ dx ≠ a ∧ h.get? a = some (PySem.W.instObj C dx) ∧
      ∃ mA, h.Ns1 dx mA ∧ (∀ f, RelO (fs.lookup f) (mA f)) ∧ PySem.Within mA (fs.map (·.1))
  | .own _ => ∃ o, h.get? a = some o
  | .xd fs => ∃ mA, h.Ns1 a mA ∧ ∀ f, RelO (fs.lookup f) (mA f)
  | .rng lo hi => ∃ t u v, h.get? a = some { cls := .type "range", data := .fields #[.int lo t, .int hi u, .int 1 v] }
  | .frz o u => h.get? a = some o ∧ ObjOk H h a u
  | .tbl ps => h.get? a = some { cls := .none, data := .fields ps }
  | .met f x => h.get? a = some (PySem.W.methodObj (.ref f) (.ref x))
  | .ext φ => φ h ∧ (∃ o, h.get? a = some o) ∧ ∀ h1 h2 : Heap, φ h1 → (∀ o, h1.get? a = some o → h2.get? a = some o) → φ h2
/-- the abstract heap is held -/
def HOk (H : Hp) (h : Heap) : Prop := ∀ a o, H a = some o → ObjOk P w H h a o
end

section
variable {P : Program} {w : World} {H H' : Hp} {h h' : Heap} {a : Addr} {o : HO}
theorem ObjOk.lt (x : ObjOk P w H h a o) : a < h.objs.size := by
  cases o with
  | lst xs => obtain ⟨_, _, _, _, e⟩ := x; exact Heap.lt_size e
  | tup xs => obtain ⟨_, _, _, p⟩ := x; exact p.lt
  | dK kvs => obtain ⟨_, _, _, _, o, _, _, e, _⟩ := x; exact Heap.lt_size e
  | dT kvs => obtain ⟨_, _, _, _, o, _, _, e, _⟩ := x; exact Heap.lt_size e
  | set S n => obtain ⟨o, _, _, _, e, _⟩ := x; exact Heap.lt_size e
  | ins C dx fs => obtain ⟨_, _, _, e, _⟩ := x; exact Heap.lt_size e
  | own y => obtain ⟨_, e⟩ := x; exact Heap.lt_size e
  | xd fs => obtain ⟨_, ⟨_, _, _, e, _⟩, _⟩ := x; exact Heap.lt_size e
  | rng lo hi => obtain ⟨_, _, _, e⟩ := x; exact Heap.lt_size e
  | frz ob u => obtain ⟨e, _⟩ := x; exact Heap.lt_size e
  | tbl ps => exact Heap.lt_size (show h.get? a = some _ from x)
  | met f y => exact Heap.lt_size (show h.get? a = some _ from x)
  | ext φ => obtain ⟨_, ⟨_, e⟩, _⟩ := x; exact Heap.lt_size e
theorem Paired.mapP {α β : Type} {F G : α → β → Prop} : ∀ {l₁ : List α} {l₂ : List β}, Paired F l₁ l₂ → (∀ a b, F a b → G a b) → Paired G l₁ l₂
  | _, _, .nil, _ => .nil
  | _, _, .cons r t, f => .cons (f _ _ r) (Paired.mapP t f)
theorem Paired.imp' {α β : Type} {F G : α → β → Prop} (f : ∀ a b, F a b → G a b) {l₁ : List α} {l₂ : List β} (r : Paired F l₁ l₂) : Paired G l₁ l₂ := Paired.mapP r f
/-- what an object's description leans on: its own object, its own dict, the tuples -/
theorem ObjOk.stay (x : ObjOk P w H h a o) (k : ∀ b u, (b = a ∨ H b = some (.own a)) → h.get? b = some u → h'.get? b = some u)
    (ho : ∀ b, H b = some (.own a) → H' b = some (.own a)) (ht : ∀ b xs, H b = some (.tup xs) → H' b = some (.tup xs)) : ObjOk P w H' h' a o := by
  induction o with
  | lst xs => obtain ⟨z, its, n, r, e⟩ := x; exact ⟨z, its, n, r, k _ _ (.inl rfl) e⟩
  | tup xs => obtain ⟨z, its, r, ob, e, c⟩ := x; exact ⟨z, its, r, ob, k _ _ (.inl rfl) e, c⟩
  | dK kvs => obtain ⟨z, y, vs, r, ob, es, ep, e, c⟩ := x; exact ⟨z, y, vs, r, ob, es, ep, k _ _ (.inl rfl) e, c⟩
  | dT kvs =>
    obtain ⟨z, y, xs, r, ob, es, ep, e, c⟩ := x
    exact ⟨z, y, xs, Paired.mapP r fun p q z => ⟨z.1, ht _ _ z.2.1, z.2.2⟩, ob, es, ep, k _ _ (.inl rfl) e, c⟩
  | set S n => obtain ⟨ob, es, ep, t, e, c⟩ := x; exact ⟨ob, es, ep, t, k _ _ (.inl rfl) e, c⟩
  | ins C dx fs =>
    obtain ⟨d, z, ne, e, mA, ⟨od, es, ep, e2, c⟩, r⟩ := x
    exact ⟨ho _ d, z, ne, k _ _ (.inl rfl) e, mA, ⟨od, es, ep, k _ _ (.inr d) e2, c⟩, r⟩
  | own y => obtain ⟨ob, e⟩ := x; exact ⟨ob, k _ _ (.inl rfl) e⟩
  | xd fs => obtain ⟨mA, ⟨od, es, ep, e, c⟩, r⟩ := x; exact ⟨mA, ⟨od, es, ep, k _ _ (.inl rfl) e, c⟩, r⟩
  | rng lo hi => obtain ⟨t, u, v, e⟩ := x; exact ⟨t, u, v, k _ _ (.inl rfl) e⟩
  | frz ob u ih => obtain ⟨e, q⟩ := x; exact ⟨k _ _ (.inl rfl) e, ih q⟩
  | tbl ps =>
    have e : h.get? a = some { cls := .none, data := .fields ps } := x
    show h'.get? a = some { cls := .none, data := .fields ps }
    exact k a _ (.inl rfl) e
  | met f y =>
    have e : h.get? a = some (PySem.W.methodObj (.ref f) (.ref y)) := x
    show h'.get? a = some (PySem.W.methodObj (.ref f) (.ref y))
    exact k a _ (.inl rfl) e
  | ext φ => obtain ⟨p, ⟨o, e⟩, st⟩ := x; exact ⟨st _ _ p fun o q => k _ _ (.inl rfl) q, ⟨o, k _ _ (.inl rfl) e⟩, st⟩
theorem HOk.lt (x : HOk P w H h) (e : H a = some o) : a < h.objs.size := (x a o e).lt
theorem HOk.fresh (x : HOk P w H h) (e : h.objs.size ≤ a) : H a = none := by
  cases q : H a with
  | none => rfl
  | some u => exact absurd (Nat.lt_of_lt_of_le (x.lt q) e) (Nat.lt_irrefl _)
/-- every object of the heap is kept -/
theorem HOk.kept (x : HOk P w H h) (k : ∀ b u, h.get? b = some u → h'.get? b = some u) : HOk P w H h' := fun a o e =>
  (x a o e).stay (fun b u _ q => k b u q) (fun _ q => q) fun _ _ q => q
/-- a new object is laid and tracked -/
theorem HOk.laid (x : HOk P w H h) (k : ∀ b u, h.get? b = some u → h'.get? b = some u) (hp : h.objs.size ≤ a) (new : ObjOk P w (upd H a o) h' a o) : HOk P w (upd H a o) h' := fun b u e => by
  have hn := x.fresh hp
  by_cases hb : b = a
  · subst hb; rw [upd_same] at e; cases e; exact new
  · rw [upd_ne hb] at e
    exact (x b u e).stay (fun c v _ q => k c v q) (fun c q => by rw [upd_ne (ne_of_none q hn)]; exact q) fun c xs q => by rw [upd_ne (ne_of_none q hn)]; exact q
end

/-- what may be read as u: it is u, or a known u -/
def Rd (H : Hp) (a : Addr) (u : HO) : Prop := H a = some u ∨ ∃ o, H a = some (.frz o u)
theorem Rd.of {H : Hp} {a : Addr} {u : HO} (h : H a = some u) : Rd H a u := .inl h
theorem Rd.ok {P : Program} {w : World} {H : Hp} {h : Heap} {a : Addr} {u : HO} (r : Rd H a u) (x : HOk P w H h) : ObjOk P w H h a u := by
  rcases r with r | ⟨o, r⟩
  · exact x a u r
  · obtain ⟨_, q⟩ := x a _ r
    exact q
/-- what may be written -/
def Mut : Option HO → Prop
  | some (.lst _) => True
  | some (.dK _) => True
  | some (.dT _) => True
  | some (.set _ _) => True
  | some (.ins _ _ _) => True
  | some (.ext _) => True
  | _ => False
section
variable {P : Program} {w : World} {H : Hp} {h h' : Heap} {x e : Addr} {o' : HO}
/-- the object at e is changed: x itself, or the dict of the instance x -/
theorem HOk.write (ok : HOk P w H h) (mu : Mut (H x)) (he : e = x ∨ H e = some (.own x)) (k : ∀ b u, b ≠ e → h.get? b = some u → h'.get? b = some u) (heo : ∃ u, h'.get? e = some u)
    (new : ObjOk P w (upd H x o') h' x o') : HOk P w (upd H x o') h' := fun b u q => by
  have nown : ∀ c y, H c = some (.own y) → c ≠ x := fun c y r z => by subst z; rw [r] at mu; exact mu
  have ntup : ∀ c xs, H c = some (.tup xs) → c ≠ x := fun c xs r z => by subst z; rw [r] at mu; exact mu
  by_cases hb : b = x
  · subst hb; rw [upd_same] at q; cases q; exact new
  · rw [upd_ne hb] at q
    by_cases hbe : b = e
    · have q' : H b = some (.own x) := by
        rcases he with z | z
        · exact absurd (hbe.trans z) hb
        · rw [hbe]; exact z
      rw [q] at q'; cases q'
      obtain ⟨v, hv⟩ := heo
      exact ⟨v, by rw [hbe]; exact hv⟩
    · refine (ok b u q).stay (fun c v hc r => k c v ?_ r) (fun c r => by rw [upd_ne (nown c b r)]; exact r) fun c xs r => by rw [upd_ne (ntup c xs r)]; exact r
      rcases hc with rfl | hc
      · exact hbe
      · rintro rfl
        rcases he with z | z
        · exact nown c b hc z
        · rw [hc] at z; cases z; exact hb rfl
end

/-! ### kept unless tracked; of the frames at fs (the callers') the slots may change (an exception that passes writes there); of the records at ex (iterators) nothing is said -/
structure Un (fs ex : List Addr) (H H' : Hp) (h h' : Heap) : Prop where
  keep : ∀ b o, h.get? b = some o → H b = none → b ∉ fs → b ∉ ex → h'.get? b = some o
  slot : ∀ b o, h.get? b = some o → H b = none → b ∈ fs → b ∉ ex → ∃ sl, h'.get? b = some { o with slots := sl }
  free : ∀ b o, h.get? b = some o → H b = none → b ∉ ex → H' b = none
  there : ∀ b o, h.get? b = some o → b ∉ ex → ∃ o', h'.get? b = some o'
  tups : ∀ b xs, H b = some (.tup xs) → H' b = some (.tup xs)
  frzs : ∀ b o u, H b = some (.frz o u) → H' b = some (.frz o u)
  tbls : ∀ b ps, H b = some (.tbl ps) → ∃ more, H' b = some (.tbl (ps ++ more))
section
variable {fs fs' ex ex' : List Addr} {H H1 H2 : Hp} {h h1 h2 h' : Heap} {a x e : Addr} {o : HO}
theorem Un.any (u : Un fs ex H H1 h h1) {b : Addr} {ob : Obj} (q : h.get? b = some ob) (n : H b = none) (hx : b ∉ ex) : ∃ sl, h1.get? b = some { ob with slots := sl } := by
  by_cases hb : b ∈ fs
  · exact u.slot b ob q n hb hx
  · exact ⟨ob.slots, u.keep b ob q n hb hx⟩
theorem Un.trans (a : Un fs ex H H1 h h1) (b : Un fs ex H1 H2 h1 h2) : Un fs ex H H2 h h2 where
  keep := fun c ob q n hc hx => b.keep c ob (a.keep c ob q n hc hx) (a.free c ob q n hx) hc hx
  slot := fun c ob q n hc hx => by
    obtain ⟨sl, e1⟩ := a.slot c ob q n hc hx
    obtain ⟨sl', e2⟩ := b.slot c _ e1 (a.free c ob q n hx) hc hx
    exact ⟨sl', e2⟩
  free := fun c ob q n hx => by
    obtain ⟨o', e1⟩ := a.there c ob q hx
    exact b.free c o' e1 (a.free c ob q n hx) hx
  there := fun c ob q hx => by
    obtain ⟨o', e1⟩ := a.there c ob q hx
    exact b.there c o' e1 hx
  tups := fun c xs q => b.tups c xs (a.tups c xs q)
  frzs := fun c ob xs q => b.frzs c ob xs (a.frzs c ob xs q)
  tbls := fun c ps q => by
    obtain ⟨m1, e1⟩ := a.tbls c ps q
    obtain ⟨m2, e2⟩ := b.tbls c _ e1
    exact ⟨m1 ++ m2, by rw [e2, Array.append_assoc]⟩
theorem Un.kept (k : ∀ b u, h.get? b = some u → h'.get? b = some u) : Un fs ex H H h h' :=
  ⟨fun b ob q _ _ _ => k b ob q, fun b ob q _ _ _ => ⟨ob.slots, k b ob q⟩, fun _ _ _ n _ => n, fun b ob q _ => ⟨ob, k b ob q⟩, fun _ _ q => q, fun _ _ _ q => q, fun _ ps q => ⟨#[], by rw [q]; simp⟩⟩
theorem Un.refl : Un fs ex H H h h := Un.kept fun _ _ q => q
theorem Un.laid (k : ∀ b u, h.get? b = some u → h'.get? b = some u) (hp : h.objs.size ≤ a) (hn : H a = none) : Un fs ex H (upd H a o) h h' where
  keep := fun b u q _ _ _ => k b u q
  slot := fun b u q _ _ _ => ⟨u.slots, k b u q⟩
  free := fun b u q n _ => by rw [upd_ne (Nat.ne_of_lt (Nat.lt_of_lt_of_le (Heap.lt_size q) hp))]; exact n
  there := fun b u q _ => ⟨u, k b u q⟩
  tups := fun b xs q => by rw [upd_ne (ne_of_none q hn)]; exact q
  frzs := fun b u xs q => by rw [upd_ne (ne_of_none q hn)]; exact q
  tbls := fun b ps q => ⟨#[], by rw [upd_ne (ne_of_none q hn), q]; simp⟩
theorem Un.write (mu : Mut (H x)) (he : e = x ∨ H e = some (.own x)) (k : ∀ b u, b ≠ e → h.get? b = some u → h'.get? b = some u) (heo : ∃ u, h'.get? e = some u) : Un fs ex H (upd H x o) h h' := by
  have hx : ∀ b, H b = none → b ≠ x := fun b n z => by subst z; rw [n] at mu; exact mu
  have hb : ∀ b, H b = none → b ≠ e := fun b n z => by
    subst z
    rcases he with r | r
    · exact hx b n r
    · rw [n] at r; cases r
  have hm : ∀ b u, H b = some u → ¬ Mut (some u) → b ≠ x := fun b u q nm z => by subst z; rw [q] at mu; exact nm mu
  refine ⟨fun b u q n _ _ => k b u (hb b n) q, fun b u q n _ _ => ⟨u.slots, k b u (hb b n) q⟩, fun b u q n _ => by rw [upd_ne (hx b n)]; exact n, fun b u q _ => ?_,
    fun b xs q => by rw [upd_ne (hm b _ q fun z => z)]; exact q, fun b u xs q => by rw [upd_ne (hm b _ q fun z => z)]; exact q, fun b ps q => ⟨#[], by rw [upd_ne (hm b _ q fun z => z), q]; simp⟩⟩
  by_cases hbe : b = e
  · subst hbe; exact heo
  · exact ⟨u, k b u hbe q⟩
theorem Un.mono (u : Un fs ex H H1 h h1) (hs : ∀ b ∈ fs, b ∈ fs') (hx : ∀ b ∈ ex, b ∈ ex') : Un fs' ex' H H1 h h1 :=
  ⟨fun b ob q n hb he => u.keep b ob q n (fun z => hb (hs b z)) fun z => he (hx b z), fun _ _ q n _ he => u.any q n fun z => he (hx _ z), fun b ob q n he => u.free b ob q n fun z => he (hx b z), fun b ob q he => u.there b ob q fun z => he (hx b z), u.tups, u.frzs, u.tbls⟩
end

/-! ### the heap without what is tracked -/
def trk (h : Heap) (H : Hp) : List Addr := (List.range h.objs.size).filter fun a => (H a).isSome
def hidT (h : Heap) (H : Hp) : Heap := PySem.W.hideAll h (trk h H)
theorem hidT_size (h : Heap) (H : Hp) : (hidT h H).objs.size = h.objs.size := PySem.W.hideAll_size _ _
theorem hidT_get {h : Heap} {H : Hp} {b : Addr} {o : Obj} (e : h.get? b = some o) (n : H b = none) : (hidT h H).get? b = some o :=
  PySem.W.hideAll_get _ e fun hm => by
    have q : (H b).isSome = true := (List.mem_filter.mp hm).2
    rw [n] at q; simp at q
theorem of_hidT {h : Heap} {H : Hp} {b : Addr} {o : Obj} (e : (hidT h H).get? b = some o) : h.get? b = some o ∧ H b = none := by
  have e' : h.get? b = some o := PySem.W.of_hideAll (trk h H) e
  refine ⟨e', ?_⟩
  cases q : H b with
  | none => rfl
  | some x =>
    have hm : b ∈ trk h H := List.mem_filter.mpr ⟨List.mem_range.mpr (Heap.lt_size e'), by simp [q]⟩
    have z : (hidT h H).get? b = none := PySem.W.hideAll_none (trk h H) hm
    rw [z] at e; cases e

/-! ### OpenK's ledger, filled with every new object but one -/
def allNews (g h : Heap) (L : Addr) : List (Addr × Obj) := (List.range h.objs.size).filterMap fun a => if a = L ∨ (g.get? a).isSome = true then none else (h.get? a).map fun o => (a, o)
def rest (g h : Heap) (L d : Addr) : List (Addr × Obj) := (allNews g h L).filter fun p => decide (p.1 ≠ d)
end L2

namespace L2
open PySem PySem.Spec PyProof.Rows

/-- the module's facts, over the base: the heap at the law's entry without what is tracked there -/
structure Mod (K : PySem.W.Frag) (mg : Str → Option Value) (base : Heap) : Prop where
  kin : K.In base
  glob : base.Ns mainGlobals mg
  blt : ∃ mb, base.Ns builtinsNs mb ∧ ∀ x : Str, x ≠ "__name__" → mb x = bootBuiltins x
  nolimit : base.NoLimit

/-- the context: a def's body (or a comprehension's block) running. base: fixed through the whole law; s₀, H₀: the entry; outer: the frames whose slots others may change (a def's callers); stack: all frames that run;
   ex: iterators that were made ahead of the entry and are walked here (a comprehension's); fn: the names whose cells were made at the entry (a def: all; a comprehension's block: its own); calm: not within an except suite; pn: pins that every state bears; xe: what is wanted of an exception that leaves the code -/
structure Cx where
  prog : Program
  w : World
  K : PySem.W.Frag
  mg : Str → Option Value
  base : Heap
  A : Around
  N : List Str
  s_0 : Shared
  H_0 : Hp
  env : Env
  outer : List Env
  stack : List Env
  ex : List Addr
  fn : Str → Bool
  calm : Bool
  pn : List (Addr × Obj)
  xe : Value → Shared → Prop
/-- the callers' frames -/
def frs (l : List Env) : List Addr := l.filterMap (·.frame)
abbrev Cx.fs (X : Cx) : List Addr := frs X.outer

def Vis (sc : Scope) (x : Str) : Prop := sc.names.lookup x = some .local ∨ sc.names.lookup x = some .cell ∨ sc.names.lookup x = some .free
def Loc (sc : Scope) (x : Str) : Prop := sc.names.lookup x = some .local ∨ sc.names.lookup x = some .cell
def Look (env : Env) (h : Heap) (m : Str → Option Value) (x : Str) (u : Value) : Prop :=
  (env.kindOf x = some .local ∧ m x = some u) ∨ ((env.kindOf x = some .cell ∨ env.kindOf x = some .free) ∧ ∃ c, env.cells.lookup x = some c ∧ h.IsCell c (some u))

structure Cx.Ok (X : Cx) : Prop where
  mod : Mod X.K X.mg X.base
  kind : X.env.scope.kind = .function
  glob : X.env.globals = mainGlobals
  blt : X.env.builtins = builtinsNs
  above : X.s_0.heap.objs.size ≤ X.env.locals
  inj : ∀ x y c, X.env.cells.lookup x = some c → X.env.cells.lookup y = some c → x = y
  has : ∀ x, (X.env.kindOf x = some .cell ∨ X.env.kindOf x = some .free) → ∃ c, X.env.cells.lookup x = some c
  cab : ∀ x c, X.fn x = true → X.env.cells.lookup x = some c → X.s_0.heap.objs.size ≤ c
  hd : X.calm = true → X.A.handled = none
  frames : X.A.frames = some X.stack
  stk : X.stack = X.outer ∨ (X.stack = X.env :: X.outer ∧ X.env.frame = some X.env.locals)
  exf : ∀ b ∈ X.ex, b ≠ X.env.locals ∧ ∀ x c, X.env.cells.lookup x = some c → c ≠ b
  bs : ∀ b o, X.base.get? b = some o → X.s_0.heap.get? b = some o ∧ X.H_0 b = none
  bsz : X.base.objs.size ≤ X.s_0.heap.objs.size
  noex : ∀ b o, X.base.get? b = some o → b ∉ X.ex
  exfs : ∀ b ∈ X.ex, b ∉ X.fs
  funs : X.s_0.heap.FunFrames X.base X.outer
  frf : ∀ b ∈ X.fs, X.H_0 b = none

structure Inv (X : Cx) (pins : List (Addr × Obj)) (σ : List (Option V)) (H : Hp) (s : Shared) : Prop where
  ok : X.Ok
  os : s.os = X.s_0.os
  bare : AllBare s.gens
  base : Un X.fs X.ex X.H_0 H X.s_0.heap s.heap
  loc : ∃ m, s.heap.Ns X.env.locals m ∧ ∀ (i : Nat) (x : Str) (v : V), X.N[i]? = some x → σ[i]? = some (some v) → Vis X.env.scope x → ∃ u, RelV v u ∧ Look X.env s.heap m x u
  cell : ∀ x c, X.env.cells.lookup x = some c → ∃ v, s.heap.IsCell c v
  free : H X.env.locals = none
  freeC : ∀ x c, X.env.cells.lookup x = some c → H c = none
  pin : ∀ p ∈ X.pn ++ pins, s.heap.get? p.1 = some p.2 ∧ H p.1 = none ∧ p.1 ≠ X.env.locals ∧ p.1 ∉ X.fs ∧ ∀ v, p.2.data ≠ .cell v
  hok : HOk X.prog X.w H s.heap
  len : σ.length = X.N.length

section
variable {X : Cx} {pins : List (Addr × Obj)} {σ : List (Option V)} {H H' : Hp} {s : Shared} {h' : Heap}

theorem Cx.Ok.nofr (ok : X.Ok) {b : Addr} {o : Obj} (e : X.base.get? b = some o) : b ∉ X.fs := fun hb => by
  have := (ok.funs.mem hb).1
  rw [e] at this; cases this
theorem Inv.bs (I : Inv X pins σ H s) : ∀ b o, X.base.get? b = some o → s.heap.get? b = some o ∧ H b = none := fun b o e =>
  ⟨I.base.keep b o (I.ok.bs b o e).1 (I.ok.bs b o e).2 (I.ok.nofr e) (I.ok.noex b o e), I.base.free b o (I.ok.bs b o e).1 (I.ok.bs b o e).2 (I.ok.noex b o e)⟩
theorem Inv.bk (I : Inv X pins σ H s) : ∀ b o, X.base.get? b = some o → s.heap.get? b = some o := fun b o e => (I.bs b o e).1
theorem Inv.mod (I : Inv X pins σ H s) : Mod X.K X.mg X.base := I.ok.mod
theorem Inv.kIn (I : Inv X pins σ H s) : X.K.In s.heap := I.ok.mod.kin.keeps I.bk
theorem Inv.nolimit (I : Inv X pins σ H s) : s.heap.NoLimit := I.ok.mod.nolimit.keeps I.bk
/-- the frame over the base: for OpenK's rules (K.In X.base is I.mod.kin) -/
theorem Inv.fr (I : Inv X pins σ H s) : ∃ m, Fr X.base X.env.locals s.heap m :=
  let ⟨m, hn, _⟩ := I.loc
  ⟨m, hn, I.bk, Nat.le_trans I.ok.bsz I.ok.above⟩
theorem Inv.lt (I : Inv X pins σ H s) : X.env.locals < s.heap.objs.size := let ⟨_, hn, _⟩ := I.loc; hn.lt
theorem Inv.sz (I : Inv X pins σ H s) : X.s_0.heap.objs.size ≤ s.heap.objs.size := Nat.le_trans I.ok.above (Nat.le_of_lt I.lt)
theorem Inv.nofs (I : Inv X pins σ H s) {a : Addr} (h : s.heap.objs.size ≤ a) : a ∉ X.fs := fun hb => by
  obtain ⟨_, o, ho, _⟩ := I.ok.funs.mem hb
  exact absurd (Nat.lt_of_lt_of_le (Heap.lt_size ho) (Nat.le_trans I.sz h)) (Nat.lt_irrefl _)
theorem Inv.cne (I : Inv X pins σ H s) : ∀ x c, X.env.cells.lookup x = some c → c ≠ X.env.locals := fun x c e z => by
  obtain ⟨v, o, ho, hd⟩ := I.cell x c e
  obtain ⟨m, ⟨o', es, ep, ho', hd', _⟩, _⟩ := I.loc
  rw [z, ho'] at ho; cases ho; rw [hd'] at hd; cases hd
theorem Inv.funs (I : Inv X pins σ H s) : s.heap.FunFrames X.base X.outer := by
  have all : ∀ (l : List Env), (∀ b ∈ frs l, b ∈ X.fs) → X.s_0.heap.FunFrames X.base l → s.heap.FunFrames X.base l := by
    intro l
    induction l with
    | nil => intro _ _; trivial
    | cons env r ih =>
      intro hs hl
      obtain ⟨hk, ⟨L, o, hf, hn, ho, hd⟩, hr⟩ := hl
      have hL : L ∈ X.fs := hs L (by unfold frs; rw [List.filterMap_cons, hf]; exact List.mem_cons_self)
      obtain ⟨sl, e⟩ := I.base.slot L o ho (I.ok.frf L hL) hL fun z => I.ok.exfs L z hL
      exact ⟨hk, ⟨L, _, hf, hn, e, hd⟩, ih (fun b hb => hs b (by unfold frs; rw [List.filterMap_cons, hf]; exact List.mem_cons_of_mem _ hb)) hr⟩
  exact all X.outer (fun _ hb => hb) I.ok.funs

/-- the frames that run, for a call -/
theorem Inv.stack (I : Inv X pins σ H s) : s.heap.FunFrames X.base X.stack := by
  rcases I.ok.stk with e | ⟨e, hf⟩
  · rw [e]; exact I.funs
  · rw [e]
    obtain ⟨m, hn, _⟩ := I.loc
    refine .cons (by rw [I.ok.kind]; decide) hf hn ?_ I.funs
    exact Heap.get?_none_of_le (Nat.le_trans I.ok.bsz I.ok.above)
theorem Inv.stkSub (I : Inv X pins σ H s) : ∀ b ∈ frs X.stack, b ∈ X.env.locals :: X.fs := fun b hb => by
  rcases I.ok.stk with e | ⟨e, hf⟩
  · rw [e] at hb; exact List.mem_cons_of_mem _ hb
  · rw [e] at hb
    unfold frs at hb
    rw [List.filterMap_cons, hf] at hb
    exact hb
theorem Inv.stkFree (I : Inv X pins σ H s) : ∀ b ∈ frs X.stack, H b = none := fun b hb => by
  rcases List.mem_cons.mp (I.stkSub b hb) with e | hb
  · rw [e]; exact I.free
  · obtain ⟨_, o, ho, _⟩ := I.ok.funs.mem hb
    exact I.base.free b o ho (I.ok.frf b hb) fun z => I.ok.exfs b z hb

/-- THE STEP: the untracked objects but the frame and the records at ch are kept (the callers' frames up to slots), the frame's map is kept, the new abstract heap is held -/
theorem Inv.step {g' : Array GenState} {t' : Nat} {d' : Drawn} {ch : List Addr} (I : Inv X pins σ H s)
    (hch : ∀ b ∈ ch, (b ∈ X.ex ∨ X.s_0.heap.objs.size ≤ b) ∧ b ≠ X.env.locals ∧ (∀ x c, X.env.cells.lookup x = some c → c ≠ b) ∧ ∀ p ∈ X.pn ++ pins, p.1 ≠ b)
    (keep : ∀ b o, b ≠ X.env.locals → b ∉ X.fs → b ∉ ch → s.heap.get? b = some o → H b = none → h'.get? b = some o)
    (slot : ∀ b o, b ≠ X.env.locals → b ∈ X.fs → b ∉ ch → s.heap.get? b = some o → H b = none → ∃ sl, h'.get? b = some { o with slots := sl }) (free : ∀ b o, b ∉ ch → s.heap.get? b = some o → H b = none → H' b = none)
    (there : ∀ b o, b ∉ ch → s.heap.get? b = some o → ∃ o', h'.get? b = some o')
    (tups : ∀ b xs, H b = some (.tup xs) → H' b = some (.tup xs)) (frzs : ∀ b o u, H b = some (.frz o u) → H' b = some (.frz o u)) (tbls : ∀ b ps, H b = some (.tbl ps) → ∃ more, H' b = some (.tbl (ps ++ more)))
    (ns : ∀ m, s.heap.Ns X.env.locals m → h'.Ns X.env.locals m) (hok : HOk X.prog X.w H' h') (hg : AllBare g') :
    Inv X pins σ H' { s with heap := h', gens := g', drawn := d', toks := t' } := by
  have neL : ∀ b o, X.s_0.heap.get? b = some o → b ≠ X.env.locals := fun b o e => Nat.ne_of_lt (Nat.lt_of_lt_of_le (Heap.lt_size e) I.ok.above)
  have neC : ∀ b o, X.s_0.heap.get? b = some o → b ∉ X.ex → b ∉ ch := fun b o e hx hb => by
    rcases (hch b hb).1 with z | z
    · exact hx z
    · exact absurd (Nat.lt_of_lt_of_le (Heap.lt_size e) z) (Nat.lt_irrefl _)
  have cellK : ∀ x c, X.env.cells.lookup x = some c → ∀ v, s.heap.IsCell c v → h'.IsCell c v := fun x c e v ⟨o, ho, hd⟩ => by
    have nch : c ∉ ch := fun z => (hch c z).2.2.1 x c e rfl
    by_cases hc : c ∈ X.fs
    · obtain ⟨sl, q⟩ := slot c o (I.cne x c e) hc nch ho (I.freeC x c e)
      exact ⟨_, q, hd⟩
    · exact ⟨o, keep c o (I.cne x c e) hc nch ho (I.freeC x c e), hd⟩
  refine ⟨I.ok, I.os, hg, ⟨fun b o e n hb hx => ?_, fun b o e n hb hx => ?_, fun b o e n hx => ?_, fun b o e hx => ?_, fun b xs e => tups b xs (I.base.tups b xs e), fun b o xs e => frzs b o xs (I.base.frzs b o xs e), fun b ps e => ?_⟩, ?_, fun x c e => ?_, ?_, fun x c e => ?_, fun p hp => ?_, hok, I.len⟩
  · exact keep b o (neL b o e) hb (neC b o e hx) (I.base.keep b o e n hb hx) (I.base.free b o e n hx)
  · obtain ⟨sl, e1⟩ := I.base.slot b o e n hb hx
    obtain ⟨sl', e2⟩ := slot b _ (neL b o e) hb (neC b o e hx) e1 (I.base.free b o e n hx)
    exact ⟨sl', e2⟩
  · obtain ⟨o', e1⟩ := I.base.there b o e hx
    exact free b o' (neC b o e hx) e1 (I.base.free b o e n hx)
  · obtain ⟨o', e1⟩ := I.base.there b o e hx
    exact there b o' (neC b o e hx) e1
  · obtain ⟨m1, e1⟩ := I.base.tbls b ps e
    obtain ⟨m2, e2⟩ := tbls b _ e1
    exact ⟨m1 ++ m2, by rw [e2, Array.append_assoc]⟩
  · obtain ⟨m, hn, hl⟩ := I.loc
    refine ⟨m, ns m hn, fun i x v e1 e2 e3 => ?_⟩
    obtain ⟨u, r, l⟩ := hl i x v e1 e2 e3
    refine ⟨u, r, ?_⟩
    rcases l with l | ⟨k, c, e, z⟩
    · exact .inl l
    · exact .inr ⟨k, c, e, cellK x c e _ z⟩
  · obtain ⟨v, z⟩ := I.cell x c e
    exact ⟨v, cellK x c e v z⟩
  · obtain ⟨m, ⟨o, _, _, ho, _⟩, _⟩ := I.loc
    exact free _ o (fun z => (hch _ z).2.1 rfl) ho I.free
  · obtain ⟨v, o, ho, hd⟩ := I.cell x c e
    exact free c o (fun z => (hch c z).2.2.1 x c e rfl) ho (I.freeC x c e)
  · obtain ⟨e, n, ne, nf, d⟩ := I.pin p hp
    have nch : p.1 ∉ ch := fun z => (hch p.1 z).2.2.2 p hp rfl
    exact ⟨keep p.1 p.2 ne nf nch e n, free p.1 p.2 nch e n, ne, nf, d⟩
/-- .. where the frame's own object is kept too -/
theorem Inv.un {t' : Nat} (I : Inv X pins σ H s) (u : Un X.fs [] H H' s.heap h') (hok : HOk X.prog X.w H' h') : Inv X pins σ H' { s with heap := h', toks := t' } := by
  obtain ⟨m, ⟨o, es, ep, ho, r⟩, _⟩ := id I.loc
  obtain ⟨sl, hL⟩ := u.any ho I.free (by simp)
  exact I.step (g' := s.gens) (d' := s.drawn) (ch := []) (fun _ z => nomatch z) (fun b o _ hb _ e n => u.keep b o e n hb (by simp)) (fun b o _ hb _ e n => u.slot b o e n hb (by simp)) (fun b o _ e n => u.free b o e n (by simp)) (fun b o _ e => u.there b o e (by simp)) u.tups u.frzs u.tbls (fun m' hm => by
    obtain ⟨o', es', ep', ho', r'⟩ := hm
    rw [ho] at ho'; cases ho'
    exact ⟨_, es', ep', hL, r'⟩) hok I.bare
/-- behind a call (or a comprehension's block): the slots of this frame may have changed too, the records at ch may have turned -/
theorem Inv.call {g' : Array GenState} {t' : Nat} {d' : Drawn} {ch : List Addr} (I : Inv X pins σ H s) (u : Un (frs X.stack) ch H H' s.heap h') (hok : HOk X.prog X.w H' h') (hg : AllBare g')
    (hch : ∀ b ∈ ch, (b ∈ X.ex ∨ X.s_0.heap.objs.size ≤ b) ∧ b ≠ X.env.locals ∧ (∀ x c, X.env.cells.lookup x = some c → c ≠ b) ∧ ∀ p ∈ X.pn ++ pins, p.1 ≠ b) :
    Inv X pins σ H' { s with heap := h', gens := g', drawn := d', toks := t' } := by
  obtain ⟨m, ⟨o, es, ep, ho, r⟩, _⟩ := id I.loc
  obtain ⟨sl, hL⟩ := u.any ho I.free fun z => (hch _ z).2.1 rfl
  exact I.step (ch := ch) hch (fun b o hL hb hc e n => u.keep b o e n (fun z => (List.mem_cons.mp (I.stkSub b z)).elim hL hb) hc) (fun b o _ _ hc e n => u.any e n hc) (fun b o hc e n => u.free b o e n hc) (fun b o hc e => u.there b o e hc) u.tups u.frzs u.tbls (fun m' hm => by
    obtain ⟨o', es', ep', ho', r'⟩ := hm
    rw [ho] at ho'; cases ho'
    exact ⟨_, es', ep', hL, r'⟩) hok hg
/-- an untracked record of ours (an iterator) has turned -/
theorem Inv.turned {t' : Nat} {it : Addr} (I : Inv X pins σ H s) (k : ∀ b o, b ≠ it → s.heap.get? b = some o → h'.get? b = some o) (hn : H it = none) (hL : it ≠ X.env.locals)
    (h1 : it ∈ X.ex ∨ X.s_0.heap.objs.size ≤ it) (h2 : ∀ x c, X.env.cells.lookup x = some c → c ≠ it) (h3 : ∀ p ∈ X.pn ++ pins, p.1 ≠ it) : Inv X pins σ H { s with heap := h', toks := t' } := by
  have nit : ∀ b u, H b = some u → b ≠ it := fun b u e z => by rw [z, hn] at e; cases e
  refine I.step (g' := s.gens) (d' := s.drawn) (ch := [it]) (fun b hb => ?_) (fun b o _ _ hc e _ => k b o (fun z => hc (by simp [z])) e) (fun b o _ _ hc e _ => ⟨o.slots, k b o (fun z => hc (by simp [z])) e⟩) (fun _ _ _ _ n => n)
    (fun b o hc e => ⟨o, k b o (fun z => hc (by simp [z])) e⟩) (fun _ _ e => e) (fun _ _ _ e => e) (fun b ps e => ⟨#[], by rw [e]; simp⟩) (fun m hm => ?_) (fun b u e => ?_) I.bare
  · have e : b = it := by simpa using hb
    subst e
    exact ⟨h1, hL, h2, h3⟩
  · obtain ⟨o, es, ep, ho, r⟩ := hm
    exact ⟨o, es, ep, k _ o (Ne.symm hL) ho, r⟩
  · refine (I.hok b u e).stay (fun c v hc q => k c v ?_ q) (fun _ q => q) fun _ _ q => q
    rcases hc with z | z
    · rw [z]; exact nit b u e
    · exact nit c _ z
theorem Inv.tok (I : Inv X pins σ H s) (t : Nat) : Inv X pins σ H { s with toks := t } := I.un (h' := s.heap) (t' := t) Un.refl I.hok
/-- all objects kept -/
theorem Inv.kept {t' : Nat} (I : Inv X pins σ H s) (k : ∀ b u, s.heap.get? b = some u → h'.get? b = some u) : Inv X pins σ H { s with heap := h', toks := t' } := I.un (Un.kept k) (I.hok.kept k)
/-- a new object laid and tracked -/
theorem Inv.laid {a : Addr} {o : HO} {t' : Nat} (I : Inv X pins σ H s) (k : ∀ b u, s.heap.get? b = some u → h'.get? b = some u) (hp : s.heap.objs.size ≤ a) (new : ObjOk X.prog X.w (upd H a o) h' a o) :
    Inv X pins σ (upd H a o) { s with heap := h', toks := t' } := I.un (Un.laid k hp (I.hok.fresh hp)) (I.hok.laid k hp new)
/-- an object written -/
theorem Inv.write {x e : Addr} {o : HO} {t' : Nat} (I : Inv X pins σ H s) (mu : Mut (H x)) (he : e = x ∨ H e = some (.own x)) (k : ∀ b u, b ≠ e → s.heap.get? b = some u → h'.get? b = some u) (heo : ∃ u, h'.get? e = some u)
    (new : ObjOk X.prog X.w (upd H x o) h' x o) : Inv X pins σ (upd H x o) { s with heap := h', toks := t' } := I.un (Un.write mu he k heo) (I.hok.write mu he k heo new)
/-- forgetting slots, pins -/
theorem Inv.weak {σ' : List (Option V)} (I : Inv X pins σ H s) (hl : σ'.length = σ.length) (w : ∀ (i : Nat) v, σ'[i]? = some (some v) → σ[i]? = some (some v)) : Inv X pins σ' H s :=
  ⟨I.ok, I.os, I.bare, I.base, let ⟨m, hn, hl'⟩ := I.loc; ⟨m, hn, fun i x v e1 e2 e3 => hl' i x v e1 (w i v e2) e3⟩, I.cell, I.free, I.freeC, I.pin, I.hok, hl.trans I.len⟩
theorem Inv.pins_of {pins' : List (Addr × Obj)} (I : Inv X pins σ H s) (h : ∀ p ∈ pins', s.heap.get? p.1 = some p.2 ∧ H p.1 = none ∧ p.1 ≠ X.env.locals ∧ p.1 ∉ X.fs ∧ ∀ v, p.2.data ≠ .cell v) : Inv X pins' σ H s :=
  ⟨I.ok, I.os, I.bare, I.base, I.loc, I.cell, I.free, I.freeC, fun p hp => (List.mem_append.mp hp).elim (fun z => I.pin p (List.mem_append_left _ z)) (h p), I.hok, I.len⟩

theorem nodup_ix {N : List Str} (hN : N.Nodup) {i j : Nat} {x : Str} (a : N[i]? = some x) (b : N[j]? = some x) : i = j := by
  obtain ⟨h1, e1⟩ := List.getElem?_eq_some_iff.mp a
  obtain ⟨h2, e2⟩ := List.getElem?_eq_some_iff.mp b
  exact (List.getElem_inj hN).mp (e1.trans e2.symm)

/-- a name is stored; what changed -/
theorem store_ok2 {M : Model} {A : Around} {E : Value → Shared → Prop} {i : Nat} {x : Str} {v : V} {u : Value} {Q : Unit → Shared → Prop} (I : Inv X pins σ H s) (hN : X.N.Nodup) (hi : X.N[i]? = some x) (hx : Loc X.env.scope x) (r : RelV v u)
    (h : ∀ s', Inv X pins (σ.set i (some v)) H s' → (∃ a, Heap.SameBut a s.heap s'.heap ∧ (a = X.env.locals ∨ X.env.cells.lookup x = some a)) → Q () s') (hf : X.fn x = true ∨ X.env.scope.names.lookup x = some .local := by first | exact .inl rfl | exact .inr rfl | assumption) : wpAny M A (storeName X.env x u) Q E s := by
  obtain ⟨m, hn, hl⟩ := id I.loc
  have hcls : (X.env.scope.kind == .class || (X.env.scope.kind == .module && X.env.locals != X.env.globals)) = false := by rw [I.ok.kind]; rfl
  have hiσ : i < σ.length := by rw [I.len]; exact (List.getElem?_eq_some_iff.mp hi).1
  have cne := I.cne
  have tracked : ∀ {a : Addr} {h' : Heap}, (∃ o, s.heap.get? a = some o ∧ H a = none) → Heap.SameBut a s.heap h' → HOk X.prog X.w H h' := fun {a h'} ha hs b ob e => by
    obtain ⟨_, _, hfree⟩ := ha
    refine (I.hok b ob e).stay (fun c w' hc q => (hs.2 c ?_).trans q) (fun _ q => q) fun _ _ q => q
    rintro rfl
    rcases hc with rfl | hc
    · rw [hfree] at e; cases e
    · rw [hfree] at hc; cases hc
  rcases hx with hk | hk
  · refine wpAny_storeName_local hk hn (fun h' hn' hs => ?_) hcls
    obtain ⟨oL, _, _, hoL, _⟩ := id hn
    refine h _ ⟨I.ok, I.os, I.bare, ⟨fun b o e n hb hx => ?_, fun b o e n hb hx => ?_, I.base.free, fun b o e hx => ?_, I.base.tups, I.base.frzs, I.base.tbls⟩, ⟨_, hn', fun j y v' e1 e2 e3 => ?_⟩, fun y c e => ?_, I.free, I.freeC, fun p hp => ?_, tracked ⟨oL, hoL, I.free⟩ hs, by simpa using I.len⟩ ⟨_, hs, .inl rfl⟩
    · exact (hs.2 b (Nat.ne_of_lt (Nat.lt_of_lt_of_le (Heap.lt_size e) I.ok.above))).trans (I.base.keep b o e n hb hx)
    · obtain ⟨sl, e1⟩ := I.base.slot b o e n hb hx
      exact ⟨sl, (hs.2 b (Nat.ne_of_lt (Nat.lt_of_lt_of_le (Heap.lt_size e) I.ok.above))).trans e1⟩
    · obtain ⟨o', e1⟩ := I.base.there b o e hx
      exact ⟨o', (hs.2 b (Nat.ne_of_lt (Nat.lt_of_lt_of_le (Heap.lt_size e) I.ok.above))).trans e1⟩
    · by_cases hj : j = i
      · subst hj
        rw [hi] at e1; cases e1
        rw [List.getElem?_set_self hiσ] at e2
        cases e2
        exact ⟨u, r, .inl ⟨hk, by simp⟩⟩
      · rw [List.getElem?_set_ne (Ne.symm hj)] at e2
        obtain ⟨u', r', q⟩ := hl j y v' e1 e2 e3
        refine ⟨u', r', ?_⟩
        rcases q with ⟨k, e⟩ | ⟨k, c, e, z⟩
        · refine .inl ⟨k, ?_⟩
          have : y ≠ x := fun e => hj (nodup_ix hN e1 (e ▸ hi))
          simp [this, e]
        · exact .inr ⟨k, c, e, z.sameBut hs (cne y c e)⟩
    · obtain ⟨w', z⟩ := I.cell y c e
      exact ⟨w', z.sameBut hs (cne y c e)⟩
    · obtain ⟨e, n, ne, nf, d⟩ := I.pin p hp
      exact ⟨(hs.2 p.1 ne).trans e, n, ne, nf, d⟩
  · have hfn : X.fn x = true := by
      rcases hf with z | z
      · exact z
      · rw [z] at hk; cases hk
    obtain ⟨c, hc⟩ := I.ok.has x (.inl hk)
    obtain ⟨w', z⟩ := I.cell x c hc
    refine wpAny_storeName_cell I.ok.kind hk hc z (fun h' hc' hs => ?_)
    obtain ⟨oc, hoc, hocd⟩ := id z
    refine h { s with heap := h' } ⟨I.ok, I.os, I.bare, ⟨fun b o e n hb hx => ?_, fun b o e n hb hx => ?_, I.base.free, fun b o e hx => ?_, I.base.tups, I.base.frzs, I.base.tbls⟩, ⟨m, hn.sameBut hs (Ne.symm (cne x c hc)), fun j y v' e1 e2 e3 => ?_⟩, fun y c' e => ?_, I.free, I.freeC, fun p hp => ?_, tracked ⟨oc, hoc, I.freeC x c hc⟩ hs, by simpa using I.len⟩ ⟨c, hs, .inr hc⟩
    · exact (hs.2 b (Nat.ne_of_lt (Nat.lt_of_lt_of_le (Heap.lt_size e) (I.ok.cab x c hfn hc)))).trans (I.base.keep b o e n hb hx)
    · obtain ⟨sl, e1⟩ := I.base.slot b o e n hb hx
      exact ⟨sl, (hs.2 b (Nat.ne_of_lt (Nat.lt_of_lt_of_le (Heap.lt_size e) (I.ok.cab x c hfn hc)))).trans e1⟩
    · obtain ⟨o', e1⟩ := I.base.there b o e hx
      exact ⟨o', (hs.2 b (Nat.ne_of_lt (Nat.lt_of_lt_of_le (Heap.lt_size e) (I.ok.cab x c hfn hc)))).trans e1⟩
    · by_cases hj : j = i
      · subst hj
        rw [hi] at e1; cases e1
        rw [List.getElem?_set_self hiσ] at e2
        cases e2
        exact ⟨u, r, .inr ⟨.inl hk, c, hc, hc'⟩⟩
      · rw [List.getElem?_set_ne (Ne.symm hj)] at e2
        obtain ⟨u', r', q⟩ := hl j y v' e1 e2 e3
        refine ⟨u', r', ?_⟩
        rcases q with q | ⟨k, c', e, z'⟩
        · exact .inl q
        · refine .inr ⟨k, c', e, z'.sameBut hs ?_⟩
          rintro rfl
          exact hj (nodup_ix hN e1 (I.ok.inj _ _ _ e hc ▸ hi))
    · by_cases hcc : c' = c
      · subst hcc; exact ⟨_, hc'⟩
      · obtain ⟨w2, z2⟩ := I.cell y c' e
        exact ⟨w2, z2.sameBut hs hcc⟩
    · obtain ⟨e, n, ne, nf, d⟩ := I.pin p hp
      refine ⟨(hs.2 p.1 ?_).trans e, n, ne, nf, d⟩
      intro q
      rw [q, hoc] at e
      have q' : oc = p.2 := Option.some.inj e
      exact d w' (by rw [← q']; exact hocd)
theorem store_ok {M : Model} {A : Around} {E : Value → Shared → Prop} {i : Nat} {x : Str} {v : V} {u : Value} {Q : Unit → Shared → Prop} (I : Inv X pins σ H s) (hN : X.N.Nodup) (hi : X.N[i]? = some x) (hx : Loc X.env.scope x) (r : RelV v u)
    (h : ∀ s', Inv X pins (σ.set i (some v)) H s' → Q () s') (hf : X.fn x = true ∨ X.env.scope.names.lookup x = some .local := by first | exact .inl rfl | exact .inr rfl | assumption) : wpAny M A (storeName X.env x u) Q E s :=
  store_ok2 I hN hi hx r (fun s' I' _ => h s' I') hf
/-- behind a call or a block, the state as it is -/
theorem Inv.call' {s' : Shared} {ch : List Addr} (I : Inv X pins σ H s) (ho : s'.os = s.os) (u : Un (frs X.stack) ch H H' s.heap s'.heap) (hok : HOk X.prog X.w H' s'.heap) (hg : AllBare s'.gens)
    (hch : ∀ b ∈ ch, (b ∈ X.ex ∨ X.s_0.heap.objs.size ≤ b) ∧ b ≠ X.env.locals ∧ (∀ x c, X.env.cells.lookup x = some c → c ≠ b) ∧ ∀ p ∈ X.pn ++ pins, p.1 ≠ b) : Inv X pins σ H' s' := by
  obtain ⟨h', g', d', t', o'⟩ := s'
  have e : o' = s.os := ho
  subst e
  exact I.call (g' := g') (t' := t') (d' := d') u hok hg hch
end

/-! ### the judgements -/
/-- an exception: its class, its own dict's address (where it has one), the abstract heap behind it -/
abbrev XK := Value → Option Addr → Hp → Prop
abbrev St := List (Option V)
abbrev VK := V → Hp → Prop
/-- an expression's reading; a test's; an argument list's -/
abbrev TE := St → Hp → VK → Prop
abbrev TT := St → Hp → (Bool → Hp → Prop) → Prop
abbrev TA := St → Hp → (List V → Hp → Prop) → Prop
/-- what is wanted behind a statement -/
structure Ends where
  nx : St → Hp → Prop
  rt : VK
  bk : St → Hp → Prop := fun _ _ => False
  ct : St → Hp → Prop := fun _ _ => False
abbrev TS := Ends → St → Hp → Prop

def EP (X : Cx) (pins : List (Addr × Obj)) (σ : St) (Q : VK) (u : Value) (s' : Shared) : Prop := ∃ v H', Inv X pins σ H' s' ∧ RelV v u ∧ Q v H'
def TP (X : Cx) (pins : List (Addr × Obj)) (σ : St) (Q : Bool → Hp → Prop) (b : Bool) (s' : Shared) : Prop := ∃ H', Inv X pins σ H' s' ∧ Q b H'
def AP (X : Cx) (pins : List (Addr × Obj)) (σ : St) (Q : List V → Hp → Prop) (us : List Value) (s' : Shared) : Prop := ∃ vs H', Inv X pins σ H' s' ∧ Vals vs us ∧ Q vs H'
def SP (X : Cx) (pins : List (Addr × Obj)) (D : Ends) (f : Flow) (s' : Shared) : Prop :=
  match f with
  | .next => ∃ σ' H', Inv X pins σ' H' s' ∧ D.nx σ' H'
  | .brk => ∃ σ' H', Inv X pins σ' H' s' ∧ D.bk σ' H'
  | .cont => ∃ σ' H', Inv X pins σ' H' s' ∧ D.ct σ' H'
  | .ret u => ∃ v σ' H', Inv X pins σ' H' s' ∧ RelV v u ∧ D.rt v H'

def PE (X : Cx) (e : Expr) (t : TE) : Prop :=
  ∀ (pins : List (Addr × Obj)) (s : Shared) (σ : St) (H : Hp) (Q : VK), Inv X pins σ H s → t σ H Q → wpAny (model X.prog X.w) X.A (eval e X.env) (EP X pins σ Q) X.xe s
def PT (X : Cx) (e : Expr) (t : TT) : Prop :=
  ∀ (pins : List (Addr × Obj)) (s : Shared) (σ : St) (H : Hp) (Q : Bool → Hp → Prop), Inv X pins σ H s → t σ H Q → wpAny (model X.prog X.w) X.A (isTrue e X.env (eval e X.env)) (TP X pins σ Q) X.xe s
/-- a test whatever its 'whole' is (and, or) -/
def PW (X : Cx) (e : Expr) (t : TT) : Prop :=
  ∀ (whole : Sem Value) (pins : List (Addr × Obj)) (s : Shared) (σ : St) (H : Hp) (Q : Bool → Hp → Prop), Inv X pins σ H s → t σ H Q → wpAny (model X.prog X.w) X.A (isTrue e X.env whole) (TP X pins σ Q) X.xe s
theorem PW.pt {X : Cx} {e : Expr} {t : TT} (h : PW X e t) : PT X e t := h _
/-- an argument list (no star), from the left -/
def PA (X : Cx) (es : List Expr) (t : TA) : Prop :=
  ∀ (pos : Pos) (pins : List (Addr × Obj)) (s : Shared) (σ : St) (H : Hp) (Q : List V → Hp → Prop), Inv X pins σ H s → t σ H Q → wpAny (model X.prog X.w) X.A (spliced (backTo pos (starEach es X.env))) (AP X pins σ Q) X.xe s
def PS (X : Cx) (st : Stmt) (t : TS) : Prop :=
  ∀ (pins : List (Addr × Obj)) (s : Shared) (σ : St) (H : Hp) (D : Ends), Inv X pins σ H s → t D σ H → wpAny (model X.prog X.w) X.A (exec st X.env) (SP X pins D) X.xe s
def PSs (X : Cx) (st : List Stmt) (t : TS) : Prop :=
  ∀ (pins : List (Addr × Obj)) (s : Shared) (σ : St) (H : Hp) (D : Ends), Inv X pins σ H s → t D σ H → wpAny (model X.prog X.w) X.A (execs st X.env) (SP X pins D) X.xe s
/-- weaken the end -/
theorem thn {α : Type} {t : Sem α} {Q Q' : α → Shared → Prop} {M : Model} {A : Around} {E : Value → Shared → Prop} {s : Shared} (h : wpAny M A t Q E s) (hQ : ∀ a s, Q a s → Q' a s) : wpAny M A t Q' E s := wpAny_mono h hQ fun _ _ x => x
end L2

namespace L2
open PySem PySem.Spec PyProof.Rows
section
variable {X : Cx}

/-! ### names and constants -/
def tVar (i : Nat) : TE := fun σ H Q => ∃ v, σ[i]? = some (some v) ∧ Q v H
def tC (v : V) : TE := fun _ H Q => Q v H
theorem pe_var {i : Nat} {x : Str} {pos : Pos} (hN : X.N[i]? = some x) (hv : Vis X.env.scope x) (hd : (x == ("__debug__" : Str)) = false := by decide) (hcd : (x == ("__classdict__" : Str)) = false := by decide) : PE X (.Name x pos) (tVar i) := by
  intro pins s σ H Q I h
  obtain ⟨v, e, h⟩ := h
  obtain ⟨m, hn, hl⟩ := I.loc
  obtain ⟨u, r, l⟩ := hl i x v hN e hv
  have fin : EP X pins σ Q u s := ⟨v, H, I, r, h⟩
  rcases l with ⟨hk, hm⟩ | ⟨hk, c, hc, hcell⟩
  · exact wpAny_Name (wpAny_loadName_local I.ok.kind hk hn hm fin) hd
  · rcases hk with hk | hk
    · exact wpAny_Name (wpAny_loadName_cell I.ok.kind hk hc hcell fin) hd
    · exact wpAny_Name (wpAny_loadName_free I.ok.kind hk hc hcell fin hcd) hd
theorem pe_int {i j pos} : PE X (.Constant (.int i) j pos) (tC (.int i)) := fun _ _ _ H _ I h => wpAny_Constant_int ⟨.int i, H, I.tok _, ⟨_, rfl⟩, h⟩
theorem pe_bl {b j pos} : PE X (.Constant (.bool b) j pos) (tC (.bl b)) := fun _ _ _ H _ I h => Constant_bool ⟨.bl b, H, I, rfl, h⟩
theorem pe_non {j pos} : PE X (.Constant .none j pos) (tC .non) := fun _ _ _ H _ I h => Constant_none ⟨.non, H, I, rfl, h⟩
/-- a global name of the def -/
def Gl (X : Cx) (x : Str) : Prop := X.env.kindOf x = some .globalImplicit
theorem ld_glob {E : Value → Shared → Prop} {pins : List (Addr × Obj)} {s : Shared} {σ : St} {H : Hp} {x : Str} {u : Value} {pos : Pos} {Q : Value → Shared → Prop} (I : Inv X pins σ H s) (hg : Gl X x) (hm : X.mg x = some u) (h : Q u s)
    (hd : (x == ("__debug__" : Str)) = false := by decide) : wpAny (model X.prog X.w) X.A (eval (.Name x pos) X.env) Q E s :=
  Calls.Name_function_global I.ok.kind hg (Calls.loadGlobal_global (by rw [I.ok.glob]; exact I.mod.glob.keeps I.bk) hm h) hd
theorem ld_blt {E : Value → Shared → Prop} {pins : List (Addr × Obj)} {s : Shared} {σ : St} {H : Hp} {x : Str} {u : Value} {pos : Pos} {Q : Value → Shared → Prop} (I : Inv X pins σ H s) (hg : Gl X x) (hm : X.mg x = none) (hv : bootBuiltins x = some u) (h : Q u s)
    (hn : x ≠ "__name__" := by decide) (hd : (x == ("__debug__" : Str)) = false := by decide) : wpAny (model X.prog X.w) X.A (eval (.Name x pos) X.env) Q E s := by
  obtain ⟨mb, h1, h2⟩ := I.mod.blt
  exact Calls.Name_function_global I.ok.kind hg (Calls.loadGlobal_builtin (by rw [I.ok.glob]; exact I.mod.glob.keeps I.bk) hm (by rw [I.ok.blt]; exact h1.keeps I.bk) ((h2 x hn).trans hv) h) hd
/-- a module's constant, a class, a function, as a value -/
theorem pe_glob {x : Str} {v : V} {u : Value} {pos : Pos} (hg : Gl X x) (hm : X.mg x = some u) (r : RelV v u) (hd : (x == ("__debug__" : Str)) = false := by decide) : PE X (.Name x pos) (tC v) :=
  fun _ _ _ H _ I h => ld_glob I hg hm ⟨v, H, I, r, h⟩ hd
theorem pe_bltn {x : Str} {v : V} {u : Value} {pos : Pos} (hg : Gl X x) (hm : X.mg x = none) (hv : bootBuiltins x = some u) (r : RelV v u) (hn : x ≠ "__name__" := by decide) (hd : (x == ("__debug__" : Str)) = false := by decide) : PE X (.Name x pos) (tC v) :=
  fun _ _ _ H _ I h => ld_blt I hg hm hv ⟨v, H, I, r, h⟩ hn hd

/-! ### arithmetic -/
variable {a b : Expr} {ta tb : TE} {pos : Pos}
/-! ### comparisons -/
def PC (X : Cx) (op : CmpOp) (a b : Expr) (t : TE) : Prop :=
  ∀ (pins : List (Addr × Obj)) (s : Shared) (σ : St) (H : Hp) (Q : VK), Inv X pins σ H s → t σ H Q →
    wpAny (model X.prog X.w) X.A (eval a X.env) (fun v s₁ => wpAny (model X.prog X.w) X.A (eval b X.env) (fun u s₂ => wpAny (model X.prog X.w) X.A (compareOp op v u) (EP X pins σ Q) X.xe s₂) X.xe s₁) X.xe s
theorem nobehind (b : Expr) {op : CmpOp} (h : op ≠ .In) (h2 : op ≠ .NotIn) : behindInMarks op b = false := by
  have e1 : (op == CmpOp.In) = false := by cases op <;> first | rfl | exact absurd rfl h
  have e2 : (op == CmpOp.NotIn) = false := by cases op <;> first | rfl | exact absurd rfl h2
  cases b <;> simp [behindInMarks, e1, e2]
/-- a comparison as a value, as a test -/
def tB (t : TE) : TT := fun σ H Q => t σ H fun x H1 => ∃ c, x = .bl c ∧ Q c H1
theorem pt_cmp {op : CmpOp} {t : TE} (h : PC X op a b t) (h1 : behindInMarks op b = false := by first | exact nobehind _ (by decide) (by decide) | rfl) : PT X (.Compare a [op] [b] pos) (tB t) := by
  intro pins s σ H Q I hw
  refine wpAny_isTrue_Compare1 (thn (h pins s σ H _ I hw) fun v s1 h1 => thn h1 fun u s2 h2 => thn h2 fun c s3 ⟨x, H1, I1, r1, q1⟩ => ?_) h1
  obtain ⟨d, rfl, q⟩ := q1
  cases r1
  exact wpAny_truthy_bool ⟨H1, I1, q⟩
/-- an expression whose value is a bool, as a test -/
theorem pt_val {e : Expr} {t : TE} (h : PE X e t) (he : ∀ whole, isTrue e X.env whole = (do let v ← whole; standAt e.pos; holding [v] (truthy v)) := by intro _; rfl) : PT X e (tB t) := by
  intro pins s σ H Q I hw
  refine isTrue_plain (thn (h pins s σ H _ I hw) fun v s1 ⟨x, H1, I1, r1, q1⟩ => ?_) (he _)
  obtain ⟨d, rfl, q⟩ := q1
  cases r1
  exact wpAny_truthy_bool ⟨H1, I1, q⟩

/-! ### and, or, not -/
variable {tA tB' : TT} {rest : List Expr}
def tAnd (t u : TT) : TT := fun σ H Q => t σ H fun c H1 => if c = true then u σ H1 Q else Q false H1
def tOr (t u : TT) : TT := fun σ H Q => t σ H fun c H1 => if c = true then Q true H1 else u σ H1 Q
def tNot (t : TT) : TT := fun σ H Q => t σ H fun c H1 => Q (!c) H1
theorem pw_and1 (ha : PT X a tA) : PW X (.BoolOp .And [a] pos) tA := by
  intro wh pins s σ H Q I h
  refine isTrue_and (thn (ha pins s σ H Q I h) fun c s1 e => ?_)
  cases c with
  | true => exact isTrue_and_nil e
  | false => exact e
theorem pw_or1 (ha : PT X a tA) : PW X (.BoolOp .Or [a] pos) tA := by
  intro wh pins s σ H Q I h
  refine isTrue_or (thn (ha pins s σ H Q I h) fun c s1 e => ?_)
  cases c with
  | false => exact isTrue_or_nil e
  | true => exact e
theorem pw_and (ha : PT X a tA) (hb : PW X (.BoolOp .And (b :: rest) pos) tB') : PW X (.BoolOp .And (a :: b :: rest) pos) (tAnd tA tB') := by
  intro wh pins s σ H Q I h
  refine isTrue_and (thn (ha pins s σ H _ I h) fun c s1 ⟨H1, I1, q1⟩ => ?_)
  cases c with
  | true => exact hb wh pins s1 σ H1 Q I1 q1
  | false => exact ⟨H1, I1, q1⟩
theorem pw_or (ha : PT X a tA) (hb : PW X (.BoolOp .Or (b :: rest) pos) tB') : PW X (.BoolOp .Or (a :: b :: rest) pos) (tOr tA tB') := by
  intro wh pins s σ H Q I h
  refine isTrue_or (thn (ha pins s σ H _ I h) fun c s1 ⟨H1, I1, q1⟩ => ?_)
  cases c with
  | true => exact ⟨H1, I1, q1⟩
  | false => exact hb wh pins s1 σ H1 Q I1 q1
theorem pt_not (ha : PT X a tA) : PT X (.UnaryOp .Not a pos) (tNot tA) := by
  intro pins s σ H Q I h
  exact isTrue_not (ha pins s σ H (fun c H1 => Q (!c) H1) I h)
/-- .. as values (bools) -/
def tAndV (ta tb : TE) : TE := fun σ H Q => ta σ H fun x H1 => ∃ c, x = .bl c ∧ if c = true then tb σ H1 Q else Q (.bl false) H1
theorem pe_one {op} {t : TE} (h : PE X a t) : PE X (.BoolOp op [a] pos) t := fun pins s σ H Q I hw => BoolOp_one (h pins s σ H Q I hw)
theorem pe_and (ha : PE X a ta) (hb : PE X (.BoolOp .And (b :: rest) pos) tb) : PE X (.BoolOp .And (a :: b :: rest) pos) (tAndV ta tb) := by
  intro pins s σ H Q I h
  refine BoolOp_and (thn (ha pins s σ H _ I h) fun v s1 ⟨x, H1, I1, r1, q1⟩ => ?_)
  obtain ⟨c, rfl, q1⟩ := q1
  cases r1
  refine wpAny_truthy_bool ?_
  cases c with
  | true => exact hb pins s1 σ H1 Q I1 q1
  | false => exact ⟨.bl false, H1, I1, rfl, q1⟩
/-- a if t else b -/
def tIf (t : TT) (ta tb : TE) : TE := fun σ H Q => t σ H fun c H1 => if c = true then ta σ H1 Q else tb σ H1 Q
theorem pe_ifExp {c : Expr} (hc : PT X c tA) (ha : PE X a ta) (hb : PE X b tb) : PE X (.IfExp c a b pos) (tIf tA ta tb) := by
  intro pins s σ H Q I h
  refine wpAny_IfExp (thn (hc pins s σ H _ I h) fun d s1 ⟨H1, I1, q1⟩ => ?_)
  cases d with
  | true => exact ha pins s1 σ H1 Q I1 q1
  | false => exact hb pins s1 σ H1 Q I1 q1
end
end L2

namespace L2
open PySem PySem.Spec PyProof.Rows

/-! ### a list, a tuple that is read: tracked, frozen, or an object of the module -/
def SqL (K : PySem.W.Frag) (H : Hp) (a : Addr) (xs : List V) : Prop :=
  Rd H a (.lst xs) ∨
    ∃ (o : Obj) (its : Array Value) (n : Nat), K.lookup a = some o ∧ o.cls = .type "list" ∧ o.dict = none ∧ o.data = .seq its n ∧ its.size ≤ sizeLine ∧ Vals xs its.toList
def SqT (K : PySem.W.Frag) (H : Hp) (a : Addr) (xs : List V) : Prop :=
  Rd H a (.tup xs) ∨
    ∃ (o : Obj) (its : Array Value) (n : Nat), K.lookup a = some o ∧ o.cls = .type "tuple" ∧ o.data = .seq its n ∧ its.size ≤ sizeLine ∧ Vals xs its.toList
def absV : Value → Option V
  | .none => some .non
  | .bool b => some (.bl b)
  | .int i _ => some (.int i)
  | .str x _ => some (.str x)
  | .bytes b _ => some (.byt b)
  | .float b _ => some (.flt b)
  | .ref a => some (.ref a)
  | .type n => some (.ty n)
  | _ => none
theorem RelV.abs {x : V} {u : Value} (r : RelV x u) : absV u = some x := by
  cases x with
  | non => cases r; rfl
  | bl _ => cases r; rfl
  | int _ => obtain ⟨t, rfl⟩ := r; rfl
  | str _ => obtain ⟨t, rfl⟩ := r; rfl
  | byt _ => obtain ⟨t, rfl⟩ := r; rfl
  | flt _ => obtain ⟨t, rfl⟩ := r; rfl
  | ref _ => cases r; rfl
  | ty _ => cases r; rfl
theorem RelV.inj {x y : V} {u : Value} (r : RelV x u) (q : RelV y u) : x = y := Option.some.inj (r.abs.symm.trans q.abs)
theorem Vals.inj : ∀ {xs ys : List V} {us : List Value}, Vals xs us → Vals ys us → xs = ys
  | _, _, _, .nil, .nil => rfl
  | _, _, _, .cons r t, .cons r' t' => by rw [r.inj r', Vals.inj t t']
section
variable {X : Cx} {pins : List (Addr × Obj)} {σ : St} {H : Hp} {s : Shared} {a : Addr} {xs ys : List V}
theorem SqL.of {K : PySem.W.Frag} (h : H a = some (.lst xs)) : SqL K H a xs := .inl (.inl h)
theorem SqT.of {K : PySem.W.Frag} (h : H a = some (.tup xs)) : SqT K H a xs := .inl (.inl h)
theorem Inv.list (I : Inv X pins σ H s) (h : SqL X.K H a xs) : ∃ its : List Value, Vals xs its ∧ PlainL s.heap a its.toArray ∧ xs.length ≤ sizeLine := by
  rcases h with h | ⟨o, its, n, hk, hc, hd, hs, hz, r⟩
  · obtain ⟨z, its, n, r, e⟩ := h.ok I.hok
    exact ⟨its, r, ⟨_, n, e, rfl, rfl, rfl⟩, z⟩
  · refine ⟨its.toList, r, ⟨o, n, I.kIn a o hk, hc, hd, by simpa using hs⟩, ?_⟩
    have e := r.length
    simp only [Array.length_toList] at e
    omega
theorem Inv.tuple (I : Inv X pins σ H s) (h : SqT X.K H a xs) : ∃ its : List Value, Vals xs its ∧ IsTup s.heap a its.toArray ∧ xs.length ≤ sizeLine := by
  rcases h with h | ⟨o, its, n, hk, hc, hs, hz, r⟩
  · obtain ⟨z, its, r, p⟩ := h.ok I.hok
    exact ⟨its, r, p.t, z⟩
  · refine ⟨its.toList, r, ⟨o, I.kIn a o hk, hc, n, by simpa using hs⟩, ?_⟩
    have e := r.length
    simp only [Array.length_toList] at e
    omega
theorem Inv.list_inj (I : Inv X pins σ H s) (h : SqL X.K H a xs) (h' : SqL X.K H a ys) : xs = ys := by
  obtain ⟨its, r, ⟨o, n, e, _, _, d⟩, _⟩ := I.list h
  obtain ⟨its', r', ⟨o', n', e', _, _, d'⟩, _⟩ := I.list h'
  rw [e] at e'; cases e'
  rw [d] at d'
  injection d' with d1 _
  have : its = its' := by simpa using congrArg Array.toList d1
  subst this
  exact r.inj r'
theorem Inv.tuple_inj (I : Inv X pins σ H s) (h : SqT X.K H a xs) (h' : SqT X.K H a ys) : xs = ys := by
  obtain ⟨its, r, ⟨o, e, _, n, d⟩, _⟩ := I.tuple h
  obtain ⟨its', r', ⟨o', e', _, n', d'⟩, _⟩ := I.tuple h'
  rw [e] at e'; cases e'
  rw [d] at d'
  injection d' with d1 _
  have : its = its' := by simpa using congrArg Array.toList d1
  subst this
  exact r.inj r'
end

/-! ### another wish about exceptions -/
abbrev Cx.wish (X : Cx) (E : Value → Shared → Prop) : Cx := { X with xe := E }
/-- no exception leaves -/
abbrev Cx.nox (X : Cx) : Cx := X.wish fun _ _ => False
theorem Cx.Ok.wish {X : Cx} (ok : X.Ok) (E : Value → Shared → Prop) : (X.wish E).Ok :=
  ⟨ok.mod, ok.kind, ok.glob, ok.blt, ok.above, ok.inj, ok.has, ok.cab, ok.hd, ok.frames, ok.stk, ok.exf, ok.bs, ok.bsz, ok.noex, ok.exfs, ok.funs, ok.frf⟩
theorem Cx.Ok.unwish {X : Cx} {E : Value → Shared → Prop} (ok : (X.wish E).Ok) : X.Ok :=
  ⟨ok.mod, ok.kind, ok.glob, ok.blt, ok.above, ok.inj, ok.has, ok.cab, ok.hd, ok.frames, ok.stk, ok.exf, ok.bs, ok.bsz, ok.noex, ok.exfs, ok.funs, ok.frf⟩
section
variable {X : Cx} {pins : List (Addr × Obj)} {σ : St} {H : Hp} {s : Shared} {E : Value → Shared → Prop}
theorem Inv.wish (I : Inv X pins σ H s) (E : Value → Shared → Prop) : Inv (X.wish E) pins σ H s := ⟨I.ok.wish E, I.os, I.bare, I.base, I.loc, I.cell, I.free, I.freeC, I.pin, I.hok, I.len⟩
theorem Inv.unwish (I : Inv (X.wish E) pins σ H s) : Inv X pins σ H s := ⟨I.ok.unwish, I.os, I.bare, I.base, I.loc, I.cell, I.free, I.freeC, I.pin, I.hok, I.len⟩
theorem SP.unwish {D : Ends} {f : Flow} {s' : Shared} (h : SP (X.wish E) pins D f s') : SP X pins D f s' := by
  cases f with
  | next => obtain ⟨σ', H', I, q⟩ := h; exact ⟨σ', H', I.unwish, q⟩
  | brk => obtain ⟨σ', H', I, q⟩ := h; exact ⟨σ', H', I.unwish, q⟩
  | cont => obtain ⟨σ', H', I, q⟩ := h; exact ⟨σ', H', I.unwish, q⟩
  | ret u => obtain ⟨v, σ', H', I, r, q⟩ := h; exact ⟨v, σ', H', I.unwish, r, q⟩
theorem PE.nox {e : Expr} {t : TE} (h : PE X.nox e t) : PE X e t := fun pins s σ H Q I hw =>
  wpAny_mono (h pins s σ H Q (I.wish _) hw) (fun _ _ ⟨v, H', I', r, q⟩ => ⟨v, H', I'.unwish, r, q⟩) fun _ _ z => False.elim z
theorem PT.nox {e : Expr} {t : TT} (h : PT X.nox e t) : PT X e t := fun pins s σ H Q I hw =>
  wpAny_mono (h pins s σ H Q (I.wish _) hw) (fun _ _ ⟨H', I', q⟩ => ⟨H', I'.unwish, q⟩) fun _ _ z => False.elim z
theorem PSs.nox {st : List Stmt} {t : TS} (h : PSs X.nox st t) : PSs X st t := fun pins s σ H D I hw =>
  wpAny_mono (h pins s σ H D (I.wish _) hw) (fun _ _ q => q.unwish) fun _ _ z => False.elim z
end

/-! ### blocks and small statements -/
section
variable {X : Cx} {st : Stmt} {rest : List Stmt} {t u : TS} {e : Expr} {te : TE} {pos : Pos}
def tNext : TS := fun D σ H => D.nx σ H
def tSeq (t u : TS) : TS := fun D σ H => t { D with nx := u D } σ H
theorem pss_nil : PSs X [] tNext := fun _ _ σ H _ I h => wpAny_execs_nil ⟨σ, H, I, h⟩
theorem pss_cons (h1 : PS X st t) (h2 : PSs X rest u) : PSs X (st :: rest) (tSeq t u) := by
  intro pins s σ H D I h
  refine wpAny_execs_cons (thn (h1 pins s σ H { D with nx := u D } I h) fun f s1 q => ?_)
  cases f with
  | next =>
    obtain ⟨σ', H', I', q⟩ := q
    exact h2 pins s1 σ' H' D I' q
  | ret v => exact q
  | brk => exact q
  | cont => exact q
theorem pss_one (h1 : PS X st t) : PSs X [st] t := by
  intro pins s σ H D I h
  refine wpAny_execs_cons (thn (h1 pins s σ H D I h) fun f s1 q => ?_)
  cases f with
  | next => exact wpAny_execs_nil q
  | ret v => exact q
  | brk => exact q
  | cont => exact q
/-- in a def's body nothing is shown -/
theorem Inv.quiet {pins : List (Addr × Obj)} {σ : St} {H : Hp} {s : Shared} (I : Inv X pins σ H s) : interactive X.env = false := by simp [interactive, I.ok.kind]
/-- an expression whose value is dropped -/
def tDrop (te : TE) : TS := fun D σ H => te σ H fun _ H1 => D.nx σ H1
theorem ps_expr (he : PE X e te) (hs : swapsWith e none pos.line X.env = pure false := by rfl) : PS X (.Expr e pos) (tDrop te) := by
  intro pins s σ H D I h
  exact wpAny_Expr_any (thn (he pins s σ H _ I h) fun v s1 ⟨x, H1, I1, r1, q1⟩ => ⟨σ, H1, I1, q1⟩) I.quiet hs
def tRet (te : TE) : TS := fun D σ H => te σ H D.rt
theorem ps_ret (he : PE X e te) : PS X (.Return (some e) pos) (tRet te) := by
  intro pins s σ H D I h
  exact wpAny_Return_some (thn (he pins s σ H _ I h) fun v s1 ⟨x, H1, I1, r1, q1⟩ => ⟨x, σ, H1, I1, r1, q1⟩)
def tIfS (c : TT) (t u : TS) : TS := fun D σ H => c σ H fun b H1 => if b = true then t D σ H1 else u D σ H1
theorem ps_if {c : Expr} {a b : List Stmt} {tc : TT} (hc : PT X c tc) (ha : PSs X a t) (hb : PSs X b u) : PS X (.If c a b pos) (tIfS tc t u) := by
  intro pins s σ H D I h
  refine wpAny_If (thn (hc pins s σ H _ I h) fun d s1 ⟨H1, I1, q1⟩ => ?_)
  cases d with
  | true => exact ha pins s1 σ H1 D I1 q1
  | false => exact hb pins s1 σ H1 D I1 q1
/-- code that the proof never comes to -/
def tNever : TS := fun _ _ _ => False
theorem ps_never : PS X st tNever := fun _ _ _ _ _ _ h => h.elim
end

/-! ### targets -/
abbrev TG := V → St → Hp → (St → Hp → Prop) → Prop
abbrev TGs := List V → St → Hp → (St → Hp → Prop) → Prop
def PG (X : Cx) (target : Expr) (t : TG) : Prop :=
  ∀ (pins : List (Addr × Obj)) (s : Shared) (σ : St) (H : Hp) (v : V) (u : Value) (Q : St → Hp → Prop), Inv X pins σ H s → RelV v u → t v σ H Q →
    wpAny (model X.prog X.w) X.A (assign target X.env u) (fun _ s' => ∃ σ' H', Inv X pins σ' H' s' ∧ Q σ' H') X.xe s
/-- several targets, one after another -/
def PGs (X : Cx) (ts : List Expr) (t : TGs) : Prop :=
  ∀ (pins : List (Addr × Obj)) (s : Shared) (σ : St) (H : Hp) (vs : List V) (us : List Value) (Q : St → Hp → Prop), Inv X pins σ H s → Vals vs us → t vs σ H Q →
    wpAny (model X.prog X.w) X.A (assignInOrder ((assignEach ts X.env).map (·.2)) us) (fun _ s' => ∃ σ' H', Inv X pins σ' H' s' ∧ Q σ' H') X.xe s
/-- o[i] = v, by values -/
abbrev TSet := V → V → V → Hp → (Hp → Prop) → Prop
def PSet (X : Cx) (t : TSet) : Prop :=
  ∀ (pins : List (Addr × Obj)) (s : Shared) (σ : St) (H : Hp) (o i v : V) (ov iv u : Value) (Q : Hp → Prop), Inv X pins σ H s → RelV o ov → RelV i iv → RelV v u → t o i v H Q →
    wpAny (model X.prog X.w) X.A (setItem ov iv u) (fun _ s' => ∃ H', Inv X pins σ H' s' ∧ Q H') X.xe s
/-- a op= b, by values -/
abbrev TIp := V → V → Hp → VK → Prop
def PIp (X : Cx) (op : Operator) (t : TIp) : Prop :=
  ∀ (pins : List (Addr × Obj)) (s : Shared) (σ : St) (H : Hp) (x y : V) (v u : Value) (Q : VK), Inv X pins σ H s → RelV x v → RelV y u → t x y H Q →
    wpAny (model X.prog X.w) X.A (inplaceOp op v u) (EP X pins σ Q) X.xe s
section
variable {X : Cx} {pos : Pos}
def gName (i : Nat) : TG := fun v σ H Q => Q (σ.set i (some v)) H
theorem pg_name {i : Nat} {x : Str} (hN : X.N.Nodup) (hi : X.N[i]? = some x) (hx : Loc X.env.scope x) (hf : X.fn x = true ∨ X.env.scope.names.lookup x = some .local := by first | exact .inl rfl | exact .inr rfl | assumption) : PG X (.Name x pos) (gName i) := by
  intro pins s σ H v u Q I r h
  exact wpAny_assign_Name (store_ok I hN hi hx r (fun s' I' => ⟨_, H, I', h⟩) hf)
def gNil : TGs := fun vs σ H Q => vs = [] ∧ Q σ H
def gCons (t : TG) (u : TGs) : TGs := fun vs σ H Q => ∃ v r, vs = v :: r ∧ t v σ H fun σ' H' => u r σ' H' Q
theorem pgs_nil : PGs X [] gNil := by
  intro pins s σ H vs us Q I r h
  obtain ⟨e, h⟩ := h
  subst e
  cases r
  exact assignInOrder_nil ⟨σ, H, I, h⟩
theorem pgs_cons {e : Expr} {es : List Expr} {t : TG} {u : TGs} (h1 : PG X e t) (h2 : PGs X es u)
    (hs : (assignEach (e :: es) X.env).map (·.2) = assign e X.env :: (assignEach es X.env).map (·.2) := by rfl) : PGs X (e :: es) (gCons t u) := by
  intro pins s σ H vs us Q I r h
  obtain ⟨v, vr, e1, h⟩ := h
  subst e1
  cases r with
  | cons r rr =>
    rw [hs]
    refine assignInOrder_cons (thn (h1 pins s σ H _ _ _ I r h) fun _ s1 ⟨σ1, H1, I1, q1⟩ => ?_)
    exact h2 pins s1 σ1 H1 _ _ Q I1 rr q1
/-- (a, b, ..) = a tuple of that length -/
def gTup (K : PySem.W.Frag) (n : Nat) (t : TGs) : TG := fun v σ H Q => ∃ a xs, v = .ref a ∧ SqT K H a xs ∧ xs.length = n ∧ t xs σ H Q
theorem pg_tup {es : List Expr} {k : Nat} {t : TGs} {n : Nat} (hc : X.calm = true) (h : PGs X es t)
    (hn : (assignEach es X.env).length = n := by rfl) (hst : (assignEach es X.env).findIdx? (·.1) = none := by rfl) : PG X (.Tuple es k pos) (gTup X.K n t) := by
  intro pins s σ H v u Q I r hw
  obtain ⟨a, xs, e1, hq, hl, hw⟩ := hw
  subst e1
  cases r
  obtain ⟨its, rv, ht, hz⟩ := I.tuple hq
  refine assign_Tuple_tuple (I.ok.hd hc) ht (by simp [hn, ← hl, rv.length]) hst fun h' hx => ?_
  have I1 : Inv X pins σ H { s with heap := h' } := I.kept (t' := s.toks) fun b o e => hx b o (Nat.ne_of_lt (Heap.lt_size e)) e
  exact h pins _ σ H xs _ Q I1 (by simpa using rv) hw
/-- o[i] = .. -/
def gSub (to ti : TE) (t : TSet) : TG := fun v σ H Q => to σ H fun o H1 => ti σ H1 fun i H2 => t o i v H2 fun H3 => Q σ H3
theorem pg_sub {o i : Expr} {to ti : TE} {t : TSet} (ho : PE X o to) (hi : PE X i ti) (hs : PSet X t)
    (ha : ∀ v, assign (.Subscript o i pos) X.env v = (do
      let ov ← holding [v] (eval o X.env)
      let iv ← holding [v, ov] (eval i X.env)
      standAt pos
      holding [v, ov, iv] (setItem ov iv v)
      release [v, ov, iv] []) := by intro _; rfl) : PG X (.Subscript o i pos) (gSub to ti t) := by
  intro pins s σ H v u Q I r h
  rw [ha]
  refine wpAny_bind (wpAny_holding (thn (ho pins s σ H _ I h) fun ov s1 ⟨x, H1, I1, r1, q1⟩ => ?_))
  refine wpAny_bind (wpAny_holding (thn (hi pins s1 σ H1 _ I1 q1) fun iv s2 ⟨y, H2, I2, r2, q2⟩ => ?_))
  refine wpAny_bind (wpAny_standAt (wpAny_bind (wpAny_holding (thn (hs pins s2 σ H2 x y v ov iv u _ I2 r1 r2 r q2) fun _ s3 ⟨H3, I3, q3⟩ => ?_))))
  exact wpAny_release ⟨σ, H3, I3, q3⟩
/-- target = value -/
def tAsg (te : TE) (g : TG) : TS := fun D σ H => te σ H fun x H1 => g x σ H1 D.nx
theorem ps_asg {tg e : Expr} {te : TE} {g : TG} (he : PE X e te) (hg : PG X tg g) (hs : swapsWithSole [tg] e pos.line X.env = pure false := by rfl) (hw : swappedStores [tg] e X.env = pure none := by rfl)
    (h1 : (assignEach [tg] X.env).map (·.2) = [assign tg X.env] := by rfl) : PS X (.Assign [tg] e pos) (tAsg te g) := by
  intro pins s σ H D I h
  refine wpAny_Assign_stores (thn (he pins s σ H _ I h) fun v s1 ⟨x, H1, I1, r1, q1⟩ => ?_) hs hw
  rw [h1]
  exact thn (hg pins s1 σ H1 x v _ I1 r1 q1) fun _ s2 q => q
/-- name = value -/
theorem ps_set {i : Nat} {x : Str} {e : Expr} {te : TE} {pos' : Pos} (hN : X.N.Nodup) (hi : X.N[i]? = some x) (hx : Loc X.env.scope x) (he : PE X e te) (hs : swapsWith e (some (.Name x pos')) pos.line X.env = pure false := by rfl) (hf : X.fn x = true ∨ X.env.scope.names.lookup x = some .local := by first | exact .inl rfl | exact .inr rfl | assumption) :
    PS X (.Assign [.Name x pos'] e pos) (tAsg te (gName i)) := by
  intro pins s σ H D I h
  refine wpAny_Assign_Name (thn (he pins s σ H _ I h) fun v s1 ⟨y, H1, I1, r1, q1⟩ => ?_) hs
  exact store_ok I1 hN hi hx r1 (fun s2 I2 => ⟨_, H1, I2, q1⟩) hf
/-- a, b = x, y with plain local names: stored from the right; the pair itself is not tracked (the opening rows as in PyProof/Rows/TupAssign.lean:23) -/
def tPar (i j : Nat) (ta : TA) : TS := fun D σ H => ta σ H fun vs H1 => ∃ v w, vs = [v, w] ∧ D.nx ((σ.set i (some v)).set j (some w)) H1
theorem ps_par {i j : Nat} {x y : Str} {a b : Expr} {ta : TA} {px py pt : Pos} {kt k2 pt2} (hc : X.calm = true) (hN : X.N.Nodup) (hi : X.N[i]? = some x) (hj : X.N[j]? = some y) (hij : i ≠ j)
    (hx : X.env.scope.names.lookup x = some .local) (hy : X.env.scope.names.lookup y = some .local) (ha : PA X [a, b] ta)
    (hw : swappedStores [.Tuple [.Name x px, .Name y py] kt pt] (.Tuple [a, b] k2 pt2) X.env = pure (some [x, y]))
    (hs : swapsWithSole [.Tuple [.Name x px, .Name y py] kt pt] (.Tuple [a, b] k2 pt2) pos.line X.env = pure false := by rfl) :
    PS X (.Assign [.Tuple [.Name x px, .Name y py] kt pt] (.Tuple [a, b] k2 pt2) pos) (tPar i j ta) := by
  intro pins s σ H D I h
  rw [exec_Assign_arm]
  refine wpAny_bind (wpAny_standAt ?_)
  rw [hs]
  refine wpAny_bind (wpAny_pure ?_)
  rw [if_neg (by decide)]
  refine wpAny_bind (Tuple_ (thn (ha _ pins s σ H _ I h) fun us s1 ⟨vs, H1, I1, r1, q1⟩ => ?_))
  obtain ⟨v, w, e1, q1⟩ := q1
  subst e1
  obtain ⟨u1, u2, rfl, rv, rw'⟩ : ∃ u1 u2, us = [u1, u2] ∧ RelV v u1 ∧ RelV w u2 := by
    cases r1 with
    | cons p q =>
      cases q with
      | cons p' q' =>
        cases q'
        exact ⟨_, _, rfl, p, p'⟩
  refine wpAny_newObj_type ?_ (by show 2 ≤ sizeLine; decide)
  have I2 : Inv X pins σ H1 { s1 with heap := s1.heap.push { cls := .type "tuple", data := .seq [u1, u2].toArray } } := I1.kept (t' := s1.toks) fun b o e => Heap.get?_push_of_some _ e
  rw [hw]
  refine wpAny_bind (wpAny_pure ?_)
  show wpAny (model X.prog X.w) X.A (do rule "assign.swapped-stores"; let items ← unpackItems (.ref s1.heap.objs.size) 2 none; assignInOrder [fun v => bindName X.env y v, fun v => bindName X.env x v] items.reverse; pure Flow.next) _ _ _
  refine wpAny_bind (wpAny_rule (wpAny_bind (unpackItems_tuple (items := #[u1, u2]) (I.ok.hd hc) (IsTup.new s1.heap _) fun h' hx' => ?_)))
  have I3 := I2.kept (h' := h') (t' := s1.toks) fun b o e => hx' b o (Nat.ne_of_lt (Heap.lt_size e)) e
  show wpAny _ _ (assignInOrder [fun v => bindName X.env y v, fun v => bindName X.env x v] [u2, u1] >>= fun _ => pure Flow.next) _ _ _
  refine wpAny_bind (assignInOrder_cons (wpAny_bindName (store_ok I3 hN hj (.inl hy) rw' (fun s2 I4 => ?_) (.inr hy))))
  refine assignInOrder_cons (wpAny_bindName (store_ok I4 hN hi (.inl hx) rv (fun s3 I5 => assignInOrder_nil (wpAny_pure ?_)) (.inr hx)))
  rw [List.set_comm _ _ (Ne.symm hij)] at I5
  exact ⟨_, H1, I5, q1⟩
/-- o[i] op= e -/
def tAugS (to ti te : TE) (tget : V → V → Hp → VK → Prop) (tip : TIp) (tset : TSet) : TS := fun D σ H => to σ H fun o H1 => ti σ H1 fun i H2 => tget o i H2 fun x H3 => te σ H3 fun y H4 => tip x y H4 fun z H5 => tset o i z H5 fun H6 => D.nx σ H6
/-- o[i], by values -/
def PGet (X : Cx) (t : V → V → Hp → VK → Prop) : Prop :=
  ∀ (pins : List (Addr × Obj)) (s : Shared) (σ : St) (H : Hp) (o i : V) (ov iv : Value) (Q : VK), Inv X pins σ H s → RelV o ov → RelV i iv → t o i H Q →
    wpAny (model X.prog X.w) X.A (getItem ov iv) (EP X pins σ Q) X.xe s
theorem ps_augS {o i e : Expr} {to ti te : TE} {tget : V → V → Hp → VK → Prop} {tip : TIp} {tset : TSet} {op : Operator} {tpos : Pos} (ho : PE X o to) (hi : PE X i ti) (hg : PGet X tget) (he : PE X e te) (hp : PIp X op tip) (hs : PSet X tset)
    (ha : ∀ ov iv new, augStore i ov iv new = (do holding [new, ov, iv] (setItem ov iv new); release [new, ov, iv] []; pure .next) := by intros; rfl) : PS X (.AugAssign (.Subscript o i tpos) op e pos) (tAugS to ti te tget tip tset) := by
  intro pins s σ H D I h
  refine wpAny_AugAssign_SubscriptAny (thn (ho pins s σ H _ I h) fun ov s1 ⟨x1, H1, I1, r1, q1⟩ => ?_) ha
  refine thn (hi pins s1 σ H1 _ I1 q1) fun iv s2 ⟨x2, H2, I2, r2, q2⟩ => ?_
  refine thn (hg pins s2 σ H2 x1 x2 ov iv _ I2 r1 r2 q2) fun old s3 ⟨x3, H3, I3, r3, q3⟩ => ?_
  refine thn (he pins s3 σ H3 _ I3 q3) fun v s4 ⟨x4, H4, I4, r4, q4⟩ => ?_
  refine thn (hp pins s4 σ H4 x3 x4 old v _ I4 r3 r4 q4) fun new s5 ⟨x5, H5, I5, r5, q5⟩ => ?_
  exact thn (hs pins s5 σ H5 x1 x2 x5 ov iv new _ I5 r1 r2 r5 q5) fun _ s6 ⟨H6, I6, q6⟩ => ⟨σ, H6, I6, q6⟩
/-- ints -/
def ipI (f : Int → Int → Int) : TIp := fun x y H Q => ∃ i j, x = .int i ∧ y = .int j ∧ Q (.int (f i j)) H
theorem ip_add : PIp X .Add (ipI fun i j => i + j) := by
  intro pins s σ H x y v u Q I r1 r2 h
  obtain ⟨i, j, e1, e2, q⟩ := h
  subst e1; subst e2
  obtain ⟨t, rfl⟩ := r1
  obtain ⟨t', rfl⟩ := r2
  exact iadd_int ⟨.int _, H, I.tok _, ⟨_, rfl⟩, q⟩
theorem ip_sub : PIp X .Sub (ipI fun i j => i - j) := by
  intro pins s σ H x y v u Q I r1 r2 h
  obtain ⟨i, j, e1, e2, q⟩ := h
  subst e1; subst e2
  obtain ⟨t, rfl⟩ := r1
  obtain ⟨t', rfl⟩ := r2
  exact isub_int ⟨.int _, H, I.tok _, ⟨_, rfl⟩, q⟩
end

/-! ### while -/
section
variable {X : Cx} {pos : Pos}
/-- the invariant W with its measure -/
def tWhile (c : TT) (tb : TS) : TS := fun D σ H => ∃ W : Nat → St → Hp → Prop, (∃ m, W m σ H) ∧ ∀ m σ H, W m σ H →
  c σ H fun b H1 => if b = true then ∃ N : St → Hp → Prop, (∀ σ' H', N σ' H' → ∃ m', m' < m ∧ W m' σ' H') ∧ tb { D with nx := N, ct := N, bk := D.nx } σ H1 else D.nx σ H1
theorem ps_while {c : Expr} {body : List Stmt} {tc : TT} {tb : TS} (hp : PassesOwn (model X.prog X.w) X.A X.env X.xe) (hc : PT X c tc) (hb : PSs X body tb) : PS X (.While c body [] pos) (tWhile tc tb) := by
  intro pins s σ H D I h
  obtain ⟨W, ⟨m0, w0⟩, turn⟩ := h
  refine wpAny_While (codeAny_whileLoop (fun n s' => ∃ σ' H', Inv X pins σ' H' s' ∧ W n σ' H') ?_ m0 ⟨σ, H, I, w0⟩)
  rintro n s1 ⟨σ1, H1, I1, w1⟩
  refine wpAny_passesOwn hp (thn (hc pins s1 σ1 H1 _ I1 (turn n σ1 H1 w1)) fun b s2 ⟨H2, I2, q2⟩ => ?_)
  cases b with
  | true =>
    obtain ⟨N, hN, q2⟩ := q2
    rw [if_pos rfl]
    refine wpAny_passesOwn hp (thn (hb pins s2 σ1 H2 _ I2 q2) fun f s3 q3 => ?_)
    cases f with
    | next =>
      obtain ⟨σ3, H3, I3, n3⟩ := q3
      obtain ⟨m', hm, w3⟩ := hN σ3 H3 n3
      exact ⟨m', hm, σ3, H3, I3, w3⟩
    | cont =>
      obtain ⟨σ3, H3, I3, n3⟩ := q3
      obtain ⟨m', hm, w3⟩ := hN σ3 H3 n3
      exact ⟨m', hm, σ3, H3, I3, w3⟩
    | brk => exact q3
    | ret v => exact q3
  | false =>
    rw [if_neg Bool.false_ne_true]
    exact wpAny_execs_nil ⟨σ1, H2, I2, q2⟩
end

/-! ### what a loop or a comprehension walks -/
/-- at turn i: it yields x (the heap may grow), or it stops -/
structure It where
  go : Nat → Hp → Prop
  yld : Nat → Hp → V → Hp → Prop
  stop : Nat → Hp → Prop
/-- the iterator's own objects may turn: they are not the frame's, not pinned, younger than the entry (or a comprehension's own) -/
def FpOk (X : Cx) (pins : List (Addr × Obj)) (H : Hp) (b : Addr) : Prop :=
  H b = none ∧ b ≠ X.env.locals ∧ b ∉ X.fs ∧ (b ∈ X.ex ∨ X.s_0.heap.objs.size ≤ b) ∧ (∀ x c, X.env.cells.lookup x = some c → c ≠ b) ∧ ∀ p ∈ X.pn ++ pins, p.1 ≠ b
theorem Inv.fpOk {X : Cx} {pins : List (Addr × Obj)} {σ : St} {H H' : Hp} {s : Shared} {b : Addr} (I : Inv X pins σ H s) (hb : s.heap.objs.size ≤ b) (hn : H' b = none) : FpOk X pins H' b := by
  refine ⟨hn, Nat.ne_of_gt (Nat.lt_of_lt_of_le I.lt hb), I.nofs hb, .inr (Nat.le_trans I.sz hb), fun x c e z => ?_, fun p hp z => ?_⟩
  · obtain ⟨v, q⟩ := I.cell x c e
    exact absurd (Nat.lt_of_lt_of_le q.lt (by rw [z]; exact hb)) (Nat.lt_irrefl _)
  · exact absurd (Nat.lt_of_lt_of_le (Heap.lt_size (I.pin p hp).1) (by rw [z]; exact hb)) (Nat.lt_irrefl _)
structure Turn (P : Program) (w : World) (K : PySem.W.Frag) (tg : Expr) (J : It) (fp : List Addr) (it : Addr) (tn : Nat → Heap → Prop) : Prop where
  mem : it ∈ fp
  obj : ∀ i h, tn i h → ∀ b ∈ fp, ∃ o, h.get? b = some o ∧ ∀ v, o.data ≠ .cell v
  keep : ∀ i h h', tn i h → (∀ b ∈ fp, ∀ o, h.get? b = some o → h'.get? b = some o) → tn i h'
  item : ∀ (X : Cx), X.prog = P → X.w = w → X.K = K → X.calm = true → ∀ (i : Nat) (pins : List (Addr × Obj)) (s : Shared) (σ : St) (H : Hp) (E : Value → Shared → Prop), Inv X pins σ H s → (∀ b ∈ fp, FpOk X pins H b) → tn i s.heap → J.go i H →
    wpAny (model P w) X.A (pyNext (.ref it)) (fun r s1 => ∃ u, r = some u ∧
      wpAny (model P w) X.A (letOwnedTupleGo tg (.ref it) u) (fun _ s2 => ∃ x H', Inv X pins σ H' s2 ∧ RelV x u ∧ J.yld i H x H' ∧ tn (i + 1) s2.heap ∧ ∀ b ∈ fp, H' b = none) E s1) E s
  done : ∀ (X : Cx), X.prog = P → X.w = w → X.K = K → X.calm = true → ∀ (i : Nat) (pins : List (Addr × Obj)) (s : Shared) (σ : St) (H : Hp) (E : Value → Shared → Prop), Inv X pins σ H s → (∀ b ∈ fp, FpOk X pins H b) → tn i s.heap → J.stop i H →
    wpAny (model P w) X.A (pyNext (.ref it)) (fun r s1 => r = none ∧ Inv X pins σ H s1) E s
  self : ∀ (A : Around) (i : Nat) (s : Shared) (Q : Value → Shared → Prop) (E : Value → Shared → Prop), tn i s.heap → Q (.ref it) s → wpAny (model P w) A (pyIter (.ref it)) Q E s
abbrev TI := St → Hp → (It → Hp → Prop) → Prop
/-- an iterator has come -/
def PIE (X : Cx) (pins : List (Addr × Obj)) (σ : St) (tg : Expr) (R : It → Hp → Prop) (itv : Value) (s2 : Shared) : Prop :=
  ∃ (it : Addr) (fp : List Addr) (tn : Nat → Heap → Prop) (J : It) (H' : Hp), itv = .ref it ∧ Inv X pins σ H' s2 ∧ Turn X.prog X.w X.K tg J fp it tn ∧ tn 0 s2.heap ∧ (∀ b ∈ fp, FpOk X pins H' b) ∧ R J H'
def PI (X : Cx) (tg iter : Expr) (wi : TI) : Prop :=
  ∀ (pins : List (Addr × Obj)) (s : Shared) (σ : St) (H : Hp) (R : It → Hp → Prop), Inv X pins σ H s → wi σ H R →
    wpAny (model X.prog X.w) X.A (eval iter X.env) (fun v s1 => wpAny (model X.prog X.w) X.A (pyIter v) (PIE X pins σ tg R) X.xe s1) X.xe s

/-- the step ahead of the store is nothing for an iterator that keeps no tuple -/
theorem go_of {M : Model} {A : Around} {E : Value → Shared → Prop} {s : Shared} {tg : Expr} {it : Addr} {u : Value} {o : Obj} {n : String} {vs : Array Value} {Q : Unit → Shared → Prop} (ho : s.heap.get? it = some o) (hc : o.cls = .type n) (hd : o.data = .fields vs)
    (hn : ["enumerate", "zip", "dict_itemiterator", "dict_reverseitemiterator", "odict_iterator", "itertools.zip_longest", "itertools.pairwise"].contains n = false) (hQ : Q () s) : wpAny M A (letOwnedTupleGo tg (.ref it) u) Q E s := by
  unfold letOwnedTupleGo
  cases tg <;> first
    | exact wpAny_pure hQ
    | (cases u <;> first
        | exact wpAny_pure hQ
        | (refine wpAny_bind (wpAny_load ho ?_)
           rw [hc, hd]
           show wpAny M A (if (["enumerate", "zip", "dict_itemiterator", "dict_reverseitemiterator", "odict_iterator", "itertools.zip_longest", "itertools.pairwise"].contains n && vs[0]? == some (rawInt _)) = true then _ else _) Q E s
           rw [if_neg (by intro h; rw [hn, Bool.false_and] at h; cases h)]
           exact wpAny_pure hQ))

/-- the list at a, as it stands at each turn (a loop may append to it) -/
def Itl (K : PySem.W.Frag) (a : Addr) : It :=
  ⟨fun i H => ∃ xs x, SqL K H a xs ∧ xs[i]? = some x, fun i H x H' => H' = H ∧ ∀ xs, SqL K H a xs → xs[i]? = some x, fun i H => ∃ xs, SqL K H a xs ∧ xs.length ≤ i⟩
def Itt (K : PySem.W.Frag) (a : Addr) : It :=
  ⟨fun i H => ∃ xs x, SqT K H a xs ∧ xs[i]? = some x, fun i H x H' => H' = H ∧ ∀ xs, SqT K H a xs → xs[i]? = some x, fun i H => ∃ xs, SqT K H a xs ∧ xs.length ≤ i⟩
/-- lo, lo + 1, .. (n of them) -/
def Itr (lo : Int) (n : Nat) : It := ⟨fun i _ => i < n, fun i H x H' => H' = H ∧ x = .int (lo + i), fun i _ => n ≤ i⟩
theorem turn_list {P : Program} {w : World} {K : PySem.W.Frag} {tg : Expr} (a it : Addr) : Turn P w K tg (Itl K a) [it] it (fun i h => h.IsListIter it a i) where
  mem := by simp
  obj := fun i h st b hb => by
    have e : b = it := by simpa using hb
    subst e
    obtain ⟨o, e, c, d⟩ := st
    exact ⟨o, e, fun v z => by rw [d] at z; cases z⟩
  keep := fun i h h' st k => st.at fun o e => k it (by simp) o e
  item := by
    intro X hP hw hK hc i pins s σ H E I hf st hg
    subst hP hw hK
    obtain ⟨xs, x, hq, hx⟩ := hg
    obtain ⟨its, rv, p, hz⟩ := I.list hq
    obtain ⟨u, hu, ru⟩ := rv.get hx
    obtain ⟨f0, f1, f2, f3, f4, f5⟩ := hf it (by simp)
    refine wpAny_pyNext_list_item st p.isList (x := u) (by simpa using hu) fun h' st' sb => ?_
    have I1 : Inv X pins σ H { s with heap := h' } := I.turned (t' := s.toks) (fun b o hb e => (sb.2 b hb).trans e) f0 f1 f3 f4 f5
    obtain ⟨o, e, c, d⟩ := id st'
    exact ⟨u, rfl, go_of (s := { s with heap := h' }) e c d (by decide) ⟨x, H, I1, ru, ⟨rfl, fun ys hy => by rw [I.list_inj hy hq]; exact hx⟩, st', fun b hb => (hf b hb).1⟩⟩
  done := by
    intro X hP hw hK hc i pins s σ H E I hf st hg
    subst hP hw hK
    obtain ⟨xs, hq, hx⟩ := hg
    obtain ⟨its, rv, p, hz⟩ := I.list hq
    obtain ⟨f0, f1, f2, f3, f4, f5⟩ := hf it (by simp)
    have hl := rv.length
    exact wpAny_pyNext_list_end (I.ok.hd hc) st p.isList (by simp; omega) fun h' eb => ⟨rfl, I.turned (t' := s.toks) (fun b o hb e => eb b o hb e) f0 f1 f3 f4 f5⟩
  self := fun _ _ _ _ _ st h => wpAny_pyIter_listiter st h
theorem turn_tuple {P : Program} {w : World} {K : PySem.W.Frag} {tg : Expr} (a it : Addr) : Turn P w K tg (Itt K a) [it] it (fun i h => h.IsTupleIter it a i) where
  mem := by simp
  obj := fun i h st b hb => by
    have e : b = it := by simpa using hb
    subst e
    obtain ⟨o, e, c, d⟩ := st
    exact ⟨o, e, fun v z => by rw [d] at z; cases z⟩
  keep := fun i h h' st k => st.at fun o e => k it (by simp) o e
  item := by
    intro X hP hw hK hc i pins s σ H E I hf st hg
    subst hP hw hK
    obtain ⟨xs, x, hq, hx⟩ := hg
    obtain ⟨its, rv, p, hz⟩ := I.tuple hq
    obtain ⟨u, hu, ru⟩ := rv.get hx
    obtain ⟨f0, f1, f2, f3, f4, f5⟩ := hf it (by simp)
    refine wpAny_pyNext_tuple_item st (show s.heap.IsTuple a its.toArray from p) (x := u) (by simpa using hu) fun h' st' sb => ?_
    have I1 : Inv X pins σ H { s with heap := h' } := I.turned (t' := s.toks) (fun b o hb e => (sb.2 b hb).trans e) f0 f1 f3 f4 f5
    obtain ⟨o, e, c, d⟩ := id st'
    exact ⟨u, rfl, go_of (s := { s with heap := h' }) e c d (by decide) ⟨x, H, I1, ru, ⟨rfl, fun ys hy => by rw [I.tuple_inj hy hq]; exact hx⟩, st', fun b hb => (hf b hb).1⟩⟩
  done := by
    intro X hP hw hK hc i pins s σ H E I hf st hg
    subst hP hw hK
    obtain ⟨xs, hq, hx⟩ := hg
    obtain ⟨its, rv, p, hz⟩ := I.tuple hq
    obtain ⟨f0, f1, f2, f3, f4, f5⟩ := hf it (by simp)
    have hl := rv.length
    exact wpAny_pyNext_tuple_end (I.ok.hd hc) st (show s.heap.IsTuple a its.toArray from p) (by simp; omega) fun h' eb => ⟨rfl, I.turned (t' := s.toks) (fun b o hb e => eb b o hb e) f0 f1 f3 f4 f5⟩
  self := fun _ _ _ _ _ st h => wpAny_pyIter_tupleiter st h
theorem turn_range {P : Program} {w : World} {K : PySem.W.Frag} {tg : Expr} (it : Addr) (lo : Int) (n : Nat) : Turn P w K tg (Itr lo n) [it] it (fun i h => IsRangeIter h it (lo + (i : Nat) * 1) ((n : Int) - (i : Nat)) 1) where
  mem := by simp
  obj := fun i h st b hb => by
    have e : b = it := by simpa using hb
    subst e
    exact ⟨_, st, fun v z => by
      have z' : Data.fields _ = Data.cell v := z
      cases z'⟩
  keep := fun i h h' st k => k it (by simp) _ st
  item := by
    intro X hP hw hK hc i pins s σ H E I hf st hg
    subst hP hw hK
    obtain ⟨f0, f1, f2, f3, f4, f5⟩ := hf it (by simp)
    have W := Walks.range (prog := X.prog) (w := X.w) (I.ok.hd hc) it lo 1 n
    refine W.item i s _ _ hg st fun v h' tk hv st' kk => ?_
    obtain ⟨t, rfl⟩ := hv
    have I1 : Inv X pins σ H { s with heap := h', toks := tk } := I.turned (fun b o hb e => kk b o (by simpa using hb) e) f0 f1 f3 f4 f5
    refine ⟨_, rfl, go_of (s := { s with heap := h', toks := tk }) (n := "range_iterator") st' rfl rfl (by decide) ⟨.int (lo + i), H, I1, ⟨t, ?_⟩, ⟨rfl, rfl⟩, st', fun b hb => (hf b hb).1⟩⟩
    rw [Int.mul_one]
  done := by
    intro X hP hw hK hc i pins s σ H E I hf st hg
    subst hP hw hK
    obtain ⟨f0, f1, f2, f3, f4, f5⟩ := hf it (by simp)
    exact wpAny_pyNext_range_end (I.ok.hd hc) st (by have : n ≤ i := hg; omega) fun h' eb => ⟨rfl, I.turned (t' := s.toks) (fun b o hb e => eb b o hb e) f0 f1 f3 f4 f5⟩
  self := fun _ _ _ _ _ st h => wpAny_pyIter_rangeiter st h
end L2

namespace L2
open PySem PySem.Spec PyProof.Rows
section
variable {X : Cx} {tg : Expr}
def iList (K : PySem.W.Frag) (tl : TE) : TI := fun σ H R => tl σ H fun x H1 => ∃ a, x = .ref a ∧ (∃ xs, SqL K H1 a xs) ∧ R (Itl K a) H1
def iTup (K : PySem.W.Frag) (tl : TE) : TI := fun σ H R => tl σ H fun x H1 => ∃ a, x = .ref a ∧ (∃ xs, SqT K H1 a xs) ∧ R (Itt K a) H1
theorem pi_list {l : Expr} {tl : TE} (hl : PE X l tl) : PI X tg l (iList X.K tl) := by
  intro pins s σ H R I h
  refine thn (hl pins s σ H _ I h) fun v s1 ⟨x, H1, I1, r1, q1⟩ => ?_
  obtain ⟨a, e, ⟨xs, hq⟩, q⟩ := q1
  subst e
  cases r1
  obtain ⟨its, rv, p, hz⟩ := I1.list hq
  refine wpAny_pyIter_list p.isList ?_
  refine ⟨s1.heap.objs.size, [s1.heap.objs.size], _, _, H1, rfl, I1.kept (t' := s1.toks) fun b o e => Heap.get?_push_of_some _ e, turn_list a _, ⟨_, Heap.get?_push_size _ rfl, rfl, rfl⟩, fun b hb => ?_, q⟩
  have e : b = s1.heap.objs.size := by simpa using hb
  subst e
  exact I1.fpOk (Nat.le_refl _) (I1.hok.fresh (Nat.le_refl _))
theorem pi_tup {l : Expr} {tl : TE} (hl : PE X l tl) : PI X tg l (iTup X.K tl) := by
  intro pins s σ H R I h
  refine thn (hl pins s σ H _ I h) fun v s1 ⟨x, H1, I1, r1, q1⟩ => ?_
  obtain ⟨a, e, ⟨xs, hq⟩, q⟩ := q1
  subst e
  cases r1
  obtain ⟨its, rv, p, hz⟩ := I1.tuple hq
  refine wpAny_pyIter_tuple (show s1.heap.IsTuple a its.toArray from p) ?_
  refine ⟨s1.heap.objs.size, [s1.heap.objs.size], _, _, H1, rfl, I1.kept (t' := s1.toks) fun b o e => Heap.get?_push_of_some _ e, turn_tuple a _, ⟨_, Heap.get?_push_size _ rfl, rfl, rfl⟩, fun b hb => ?_, q⟩
  have e : b = s1.heap.objs.size := by simpa using hb
  subst e
  exact I1.fpOk (Nat.le_refl _) (I1.hok.fresh (Nat.le_refl _))
/-- a range object just made, walked -/
theorem range_it {pins : List (Addr × Obj)} {σ : St} {H : Hp} {s : Shared} {R : It → Hp → Prop} {E : Value → Shared → Prop} {lo hi : Int} {t u v : Tok} {tk : Nat} (I : Inv X pins σ H s) (h1 : -(2 ^ 62) ≤ lo) (h2 : lo < 2 ^ 62) (h3 : -(2 ^ 62) ≤ hi) (h4 : hi < 2 ^ 62)
    (q : R (Itr lo (hi - lo).toNat) H) : wpAny (model X.prog X.w) X.A (pyIter (.ref s.heap.objs.size)) (PIE X pins σ tg R) E { s with heap := s.heap.push { cls := .type "range", data := .fields #[.int lo t, .int hi u, .int 1 v] }, toks := tk } := by
  refine wpAny_pyIter_range (IsRange.new ..) (small_one h1 h2 h3 h4) ?_
  have I1 : Inv X pins σ H { s with heap := s.heap.push { cls := .type "range", data := .fields #[.int lo t, .int hi u, .int 1 v] }, toks := tk } := I.kept fun b o e => Heap.get?_push_of_some _ e
  refine ⟨(s.heap.push { cls := .type "range", data := .fields #[.int lo t, .int hi u, .int 1 v] }).objs.size, [(s.heap.push { cls := .type "range", data := .fields #[.int lo t, .int hi u, .int 1 v] }).objs.size], _, _, H, rfl,
    I1.kept (t' := tk) fun b o e => Heap.get?_push_of_some _ e, turn_range _ lo (hi - lo).toNat, ?_, fun b hb => ?_, q⟩
  · have e1 : lo + ((0 : Nat) : Int) * 1 = lo := by simp
    have e2 : (((hi - lo).toNat : Nat) : Int) - ((0 : Nat) : Int) = Builtin.Range.rangeSize lo hi 1 := by rw [rangeSize_one]; split <;> omega
    show IsRangeIter _ _ (lo + ((0 : Nat) : Int) * 1) ((((hi - lo).toNat : Nat) : Int) - ((0 : Nat) : Int)) 1
    rw [e1, e2]
    exact Heap.get?_push_size _ rfl
  · have e : b = (s.heap.push { cls := .type "range", data := .fields #[.int lo t, .int hi u, .int 1 v] }).objs.size := by simpa using hb
    subst e
    exact I1.fpOk (Nat.le_refl _) (I1.hok.fresh (Nat.le_refl _))
def iRng1 (ta : TA) : TI := fun σ H R => ta σ H fun vs H1 => ∃ j : Int, vs = [.int j] ∧ -(2 ^ 62) ≤ j ∧ j < 2 ^ 62 ∧ R (Itr 0 j.toNat) H1
def iRng2 (ta : TA) : TI := fun σ H R => ta σ H fun vs H1 => ∃ i j : Int, vs = [.int i, .int j] ∧ (-(2 ^ 62) ≤ i ∧ i < 2 ^ 62 ∧ -(2 ^ 62) ≤ j ∧ j < 2 ^ 62) ∧ R (Itr i (j - i).toNat) H1
theorem pi_range1 {a : Expr} {ta : TA} {p pos : Pos} (hg : Gl X "range") (hm : X.mg "range" = none) (ha : PA X [a] ta) (hs : starEach [a] X.env = [(false, eval a X.env)] := by rfl) : PI X tg (.Call (.Name "range" p) [a] [] pos) (iRng1 ta) := by
  intro pins s σ H R I h
  refine Call_ (ld_blt I hg hm boot_range (PyProof.Rows.callWith_type1 (thn (ha pos pins s σ H _ I h) fun us s1 ⟨vs, H1, I1, r1, q1⟩ => ?_) hs rfl))
  obtain ⟨j, e, q1, q2, q⟩ := q1
  subst e
  cases r1 with
  | cons r rr =>
    cases rr
    obtain ⟨t, rfl⟩ := r
    exact call_range_1 (range_it I1 (by omega) (by omega) q1 q2 (by simpa using q))
theorem pi_range2 {a b : Expr} {ta : TA} {p pos : Pos} (hg : Gl X "range") (hm : X.mg "range" = none) (ha : PA X [a, b] ta) (hs : starEach [a, b] X.env = [(false, eval a X.env), (false, eval b X.env)] := by rfl) (hs2 : starEach [b] X.env = [(false, eval b X.env)] := by rfl) :
    PI X tg (.Call (.Name "range" p) [a, b] [] pos) (iRng2 ta) := by
  intro pins s σ H R I h
  refine Call_ (ld_blt I hg hm boot_range (PyProof.Rows.callWith_type1 (thn (ha pos pins s σ H _ I h) fun us s1 ⟨vs, H1, I1, r1, q1⟩ => ?_) (by rw [hs, hs2]) (by rw [hs2]; rfl)))
  obtain ⟨i, j, e, ⟨q1, q2, q3, q4⟩, q⟩ := q1
  subst e
  cases r1 with
  | cons r rr =>
    cases rr with
    | cons r' rr =>
      cases rr
      obtain ⟨t, rfl⟩ := r
      obtain ⟨t', rfl⟩ := r'
      exact call_range_2 (range_it I1 q1 q2 q3 q4 q)

/-! ### for -/
/-- W: the invariant by the turn and a measure; N: what the body is to reach -/
def tFor (wi : TI) (g : TG) (tb : TS) : TS := fun D σ H => wi σ H fun J H1 => ∃ W : Nat → Nat → St → Hp → Prop, (∃ m, W 0 m σ H1) ∧ ∀ i m σ H, W i m σ H →
  (J.stop i H ∧ D.nx σ H) ∨ (J.go i H ∧ ∃ N : St → Hp → Prop, (∀ σ' H', N σ' H' → ∃ m', m' < m ∧ W (i + 1) m' σ' H') ∧ ∀ x H', J.yld i H x H' → g x σ H' fun σ2 H2 => tb { D with nx := N, ct := N, bk := D.nx } σ2 H2)
/-- the records at fp as they stand -/
def pinsAt (fp : List Addr) (h : Heap) : List (Addr × Obj) := fp.filterMap fun b => (h.get? b).map fun o => (b, o)
theorem mem_pinsAt {fp : List Addr} {h : Heap} {b : Addr} {o : Obj} (hb : b ∈ fp) (e : h.get? b = some o) : (b, o) ∈ pinsAt fp h := List.mem_filterMap.mpr ⟨b, hb, by rw [e]; rfl⟩
theorem of_pinsAt {fp : List Addr} {h : Heap} {p : Addr × Obj} (hp : p ∈ pinsAt fp h) : p.1 ∈ fp ∧ h.get? p.1 = some p.2 := by
  obtain ⟨b, hb, e⟩ := List.mem_filterMap.mp hp
  cases q : h.get? b with
  | none => rw [q] at e; cases e
  | some o =>
    rw [q] at e
    have e' : (b, o) = p := Option.some.inj e
    subst e'
    exact ⟨hb, q⟩
theorem Inv.pinned {pins : List (Addr × Obj)} {σ : St} {H : Hp} {s : Shared} {fp : List Addr} (I : Inv X pins σ H s) (hf : ∀ b ∈ fp, FpOk X pins H b) (ho : ∀ b ∈ fp, ∃ o, s.heap.get? b = some o ∧ ∀ v, o.data ≠ .cell v) : Inv X (pins ++ pinsAt fp s.heap) σ H s :=
  I.pins_of fun p hp => (List.mem_append.mp hp).elim (fun z => I.pin p (List.mem_append_right _ z)) fun z => by
    obtain ⟨hb, e⟩ := of_pinsAt z
    obtain ⟨f0, f1, f2, _⟩ := hf p.1 hb
    obtain ⟨o, e', d⟩ := ho p.1 hb
    rw [e] at e'; cases e'
    exact ⟨e, f0, f1, f2, d⟩
theorem Inv.unpinned {pins pl : List (Addr × Obj)} {σ : St} {H : Hp} {s : Shared} (I : Inv X (pins ++ pl) σ H s) : Inv X pins σ H s := I.pins_of fun p hp => I.pin p (List.mem_append_right _ (List.mem_append_left _ hp))
theorem ps_for {iter : Expr} {body : List Stmt} {wi : TI} {g : TG} {tb : TS} {pos : Pos} (hp : PassesOwn (model X.prog X.w) X.A X.env X.xe) (hc : X.calm = true) (hi : PI X tg iter wi) (hg : PG X tg g) (hb : PSs X body tb)
    (hs : ∀ x, foldedSetIterable iter X.env x = pure x := by intro _; rfl) : PS X (.For tg iter body [] pos) (tFor wi g tb) := by
  intro pins s σ H D I h
  refine wpAny_For (thn (hi pins s σ H _ I h) fun v s1 h1 => thn h1 fun itv s2 h2 => ?_) hs
  obtain ⟨it, fp, tn, J, H2, e, I2, T, st2, f2, W, ⟨m0, w0⟩, turn⟩ := h2
  subst e
  -- what stays true of the iterator's objects through the loop
  have stat : ∀ {H' : Hp}, (∀ b ∈ fp, H' b = none) → ∀ b ∈ fp, FpOk X pins H' b := fun hn b hb => ⟨hn b hb, (f2 b hb).2⟩
  refine codeAny_forLoop_any (fun n s' => ∃ i σ' H', Inv X pins σ' H' s' ∧ tn i s'.heap ∧ (∀ b ∈ fp, H' b = none) ∧ W i n σ' H') ?_ m0 ⟨0, σ, H2, I2, st2, fun b hb => (f2 b hb).1, w0⟩
  rintro n s3 ⟨i, σ3, H3, I3, st3, fr3, w3⟩
  rcases turn i n σ3 H3 w3 with ⟨stop, qn⟩ | ⟨go, N, hN, step⟩
  · refine wpAny_passesOwn hp (thn (T.done X rfl rfl rfl hc i pins s3 σ3 H3 X.xe I3 (stat fr3) st3 stop) fun r s4 ⟨hr, I4⟩ => ?_)
    subst hr
    exact wpAny_execs_nil ⟨σ3, H3, I4, qn⟩
  · refine wpAny_passesOwn hp (thn (T.item X rfl rfl rfl hc i pins s3 σ3 H3 X.xe I3 (stat fr3) st3 go) fun r s4 ⟨u, hr, h4⟩ => ?_)
    subst hr
    refine wpAny_passesOwn hp (thn h4 fun _ s5 ⟨x, H5, I5, r5, y5, st5, fr5⟩ => ?_)
    have I5' := I5.pinned (stat fr5) (T.obj _ _ st5)
    refine wpAny_passesOwn hp (thn (hg _ s5 σ3 H5 x u _ I5' r5 (step x H5 y5)) fun _ s6 ⟨σ6, H6, I6, q6⟩ => ?_)
    refine wpAny_passesOwn hp (thn (hb _ s6 σ6 H6 _ I6 q6) fun f s7 q7 => ?_)
    have again : ∀ {σ7 : St} {H7 : Hp}, Inv X (pins ++ pinsAt fp s5.heap) σ7 H7 s7 → N σ7 H7 → ∃ m, m < n ∧ ∃ i σ' H', Inv X pins σ' H' s7 ∧ tn i s7.heap ∧ (∀ b ∈ fp, H' b = none) ∧ W i m σ' H' := fun {σ7 H7} I7 n7 => by
      obtain ⟨m', hm, w7⟩ := hN σ7 H7 n7
      refine ⟨m', hm, i + 1, σ7, H7, I7.unpinned, T.keep _ _ _ st5 fun b hb o e => (I7.pin (b, o) (List.mem_append_right _ (List.mem_append_right _ (mem_pinsAt hb e)))).1, fun b hb => ?_, w7⟩
      obtain ⟨o, e, d⟩ := T.obj _ _ st5 b hb
      exact (I7.pin (b, o) (List.mem_append_right _ (List.mem_append_right _ (mem_pinsAt hb e)))).2.1
    cases f with
    | next => obtain ⟨σ7, H7, I7, n7⟩ := q7; exact again I7 n7
    | cont => obtain ⟨σ7, H7, I7, n7⟩ := q7; exact again I7 n7
    | brk => obtain ⟨σ7, H7, I7, q7⟩ := q7; exact ⟨σ7, H7, I7.unpinned, q7⟩
    | ret v => obtain ⟨x7, σ7, H7, I7, r7, q7⟩ := q7; exact ⟨x7, σ7, H7, I7.unpinned, r7, q7⟩
end

/-! ### the forms one uses -/
/-- over a list that the body leaves as it is -/
theorem for_list {K : PySem.W.Frag} {a : Addr} {xs : List V} {g : TG} {tb : TS} {D : Ends} {σ : St} {H : Hp} (Pv : Nat → St → Hp → Prop) (h0 : Pv 0 σ H) (hl : ∀ i σ H, i ≤ xs.length → Pv i σ H → SqL K H a xs)
    (hs : ∀ i x σ H, xs[i]? = some x → Pv i σ H → g x σ H fun σ2 H2 => tb { D with nx := Pv (i + 1), ct := Pv (i + 1), bk := D.nx } σ2 H2) (hd : ∀ σ H, Pv xs.length σ H → D.nx σ H) :
    ∃ W : Nat → Nat → St → Hp → Prop, (∃ m, W 0 m σ H) ∧ ∀ i m σ H, W i m σ H →
      ((Itl K a).stop i H ∧ D.nx σ H) ∨ ((Itl K a).go i H ∧ ∃ N : St → Hp → Prop, (∀ σ' H', N σ' H' → ∃ m', m' < m ∧ W (i + 1) m' σ' H') ∧ ∀ x H', (Itl K a).yld i H x H' → g x σ H' fun σ2 H2 => tb { D with nx := N, ct := N, bk := D.nx } σ2 H2) := by
  refine ⟨fun i m σ H => m = xs.length - i ∧ i ≤ xs.length ∧ Pv i σ H, ⟨xs.length, by simp, Nat.zero_le _, h0⟩, ?_⟩
  rintro i m σ H ⟨rfl, hi, p⟩
  have q := hl i σ H hi p
  by_cases hlt : i < xs.length
  · refine .inr ⟨⟨xs, xs[i], q, by simp [hlt]⟩, Pv (i + 1), fun σ' H' p' => ⟨xs.length - (i + 1), by omega, rfl, hlt, p'⟩, fun x H' y => ?_⟩
    obtain ⟨e, y⟩ := y
    subst e
    exact hs i x σ _ (y xs q) p
  · have e : i = xs.length := by omega
    subst e
    exact .inl ⟨⟨xs, q, Nat.le_refl _⟩, hd σ H p⟩
theorem for_tup {K : PySem.W.Frag} {a : Addr} {xs : List V} {g : TG} {tb : TS} {D : Ends} {σ : St} {H : Hp} (Pv : Nat → St → Hp → Prop) (h0 : Pv 0 σ H) (hl : ∀ i σ H, i ≤ xs.length → Pv i σ H → SqT K H a xs)
    (hs : ∀ i x σ H, xs[i]? = some x → Pv i σ H → g x σ H fun σ2 H2 => tb { D with nx := Pv (i + 1), ct := Pv (i + 1), bk := D.nx } σ2 H2) (hd : ∀ σ H, Pv xs.length σ H → D.nx σ H) :
    ∃ W : Nat → Nat → St → Hp → Prop, (∃ m, W 0 m σ H) ∧ ∀ i m σ H, W i m σ H →
      ((Itt K a).stop i H ∧ D.nx σ H) ∨ ((Itt K a).go i H ∧ ∃ N : St → Hp → Prop, (∀ σ' H', N σ' H' → ∃ m', m' < m ∧ W (i + 1) m' σ' H') ∧ ∀ x H', (Itt K a).yld i H x H' → g x σ H' fun σ2 H2 => tb { D with nx := N, ct := N, bk := D.nx } σ2 H2) := by
  refine ⟨fun i m σ H => m = xs.length - i ∧ i ≤ xs.length ∧ Pv i σ H, ⟨xs.length, by simp, Nat.zero_le _, h0⟩, ?_⟩
  rintro i m σ H ⟨rfl, hi, p⟩
  have q := hl i σ H hi p
  by_cases hlt : i < xs.length
  · refine .inr ⟨⟨xs, xs[i], q, by simp [hlt]⟩, Pv (i + 1), fun σ' H' p' => ⟨xs.length - (i + 1), by omega, rfl, hlt, p'⟩, fun x H' y => ?_⟩
    obtain ⟨e, y⟩ := y
    subst e
    exact hs i x σ _ (y xs q) p
  · have e : i = xs.length := by omega
    subst e
    exact .inl ⟨⟨xs, q, Nat.le_refl _⟩, hd σ H p⟩
theorem for_range {lo : Int} {n : Nat} {g : TG} {tb : TS} {D : Ends} {σ : St} {H : Hp} (Pv : Nat → St → Hp → Prop) (h0 : Pv 0 σ H)
    (hs : ∀ i σ H, i < n → Pv i σ H → g (.int (lo + i)) σ H fun σ2 H2 => tb { D with nx := Pv (i + 1), ct := Pv (i + 1), bk := D.nx } σ2 H2) (hd : ∀ σ H, Pv n σ H → D.nx σ H) :
    ∃ W : Nat → Nat → St → Hp → Prop, (∃ m, W 0 m σ H) ∧ ∀ i m σ H, W i m σ H →
      ((Itr lo n).stop i H ∧ D.nx σ H) ∨ ((Itr lo n).go i H ∧ ∃ N : St → Hp → Prop, (∀ σ' H', N σ' H' → ∃ m', m' < m ∧ W (i + 1) m' σ' H') ∧ ∀ x H', (Itr lo n).yld i H x H' → g x σ H' fun σ2 H2 => tb { D with nx := N, ct := N, bk := D.nx } σ2 H2) := by
  refine ⟨fun i m σ H => m = n - i ∧ i ≤ n ∧ Pv i σ H, ⟨n, by simp, Nat.zero_le _, h0⟩, ?_⟩
  rintro i m σ H ⟨rfl, hi, p⟩
  by_cases hlt : i < n
  · refine .inr ⟨hlt, Pv (i + 1), fun σ' H' p' => ⟨n - (i + 1), by omega, rfl, hlt, p'⟩, fun x H' y => ?_⟩
    obtain ⟨e, y⟩ := y
    subst e y
    exact hs i σ _ hlt p
  · have e : i = n := by omega
    subst e
    exact .inl ⟨Nat.le_refl _, hd σ H p⟩
end L2

namespace L2
open PySem PySem.Spec PyProof.Rows

abbrev R2 := V → V → Hp → VK → Prop
/-- a two-place operation on values: f is binaryOp op, inplaceOp op or compareOp op -/
def OpR (X : Cx) (f : Value → Value → Sem Value) (r : R2) : Prop :=
  ∀ (pins : List (Addr × Obj)) (s : Shared) (σ : St) (H : Hp) (x y : V) (v u : Value) (Q : VK), Inv X pins σ H s → RelV x v → RelV y u → r x y H Q →
    wpAny (model X.prog X.w) X.A (f v u) (EP X pins σ Q) X.xe s
/-- a one-place operation -/
def UnR (X : Cx) (f : Value → Sem Value) (r : V → Hp → VK → Prop) : Prop :=
  ∀ (pins : List (Addr × Obj)) (s : Shared) (σ : St) (H : Hp) (x : V) (v : Value) (Q : VK), Inv X pins σ H s → RelV x v → r x H Q →
    wpAny (model X.prog X.w) X.A (f v) (EP X pins σ Q) X.xe s
/-- a call of a value that is known (a builtin, a type) with values -/
def CallR (X : Cx) (f : Value) (r : List V → Hp → VK → Prop) : Prop :=
  ∀ (pins : List (Addr × Obj)) (s : Shared) (σ : St) (H : Hp) (xs : List V) (us : List Value) (Q : VK), Inv X pins σ H s → Vals xs us → r xs H Q →
    wpAny (model X.prog X.w) X.A (call f us) (EP X pins σ Q) X.xe s
/-- a value's truth -/
def TruR (X : Cx) (r : V → Hp → (Bool → Hp → Prop) → Prop) : Prop :=
  ∀ (pins : List (Addr × Obj)) (s : Shared) (σ : St) (H : Hp) (x : V) (v : Value) (Q : Bool → Hp → Prop), Inv X pins σ H s → RelV x v → r x H Q →
    wpAny (model X.prog X.w) X.A (truthy v) (TP X pins σ Q) X.xe s

def tOp (r : R2) (ta tb : TE) : TE := fun σ H Q => ta σ H fun x H1 => tb σ H1 fun y H2 => r x y H2 Q
def tUn (r : V → Hp → VK → Prop) (ta : TE) : TE := fun σ H Q => ta σ H fun x H1 => r x H1 Q
/-- ints in, under C, and a value out -/
def rI (C : Int → Int → Prop) (g : Int → Int → V) : R2 := fun x y H Q => ∃ i j, x = .int i ∧ y = .int j ∧ C i j ∧ Q (g i j) H
def rI0 (g : Int → Int → V) : R2 := fun x y H Q => ∃ i j, x = .int i ∧ y = .int j ∧ Q (g i j) H
def rU (g : Int → V) : V → Hp → VK → Prop := fun x H Q => ∃ i, x = .int i ∧ Q (g i) H

section
variable {X : Cx} {a b c : Expr} {ta tb tc : TE} {pos : Pos}

theorem binT (ha : PE X a ta) (hb : PE X b tb) {pins : List (Addr × Obj)} {s : Shared} {σ : St} {H : Hp} {R : V → V → Hp → Prop} (I : Inv X pins σ H s)
    (h : ta σ H fun x H1 => tb σ H1 fun y H2 => R x y H2) {Q : Value → Shared → Prop} {f : Value → Value → Sem Value}
    (hf : ∀ v u s2 x y H2, Inv X pins σ H2 s2 → RelV x v → RelV y u → R x y H2 → wpAny (model X.prog X.w) X.A (f v u) Q X.xe s2) :
    wpAny (model X.prog X.w) X.A (eval a X.env) (fun v s₁ => wpAny (model X.prog X.w) X.A (eval b X.env) (fun u s₂ => wpAny (model X.prog X.w) X.A (f v u) Q X.xe s₂) X.xe s₁) X.xe s := by
  refine thn (ha pins s σ H _ I h) fun v s1 ⟨x, H1, I1, r1, q1⟩ => ?_
  refine thn (hb pins s1 σ H1 _ I1 q1) fun u s2 ⟨y, H2, I2, r2, q2⟩ => ?_
  exact hf v u s2 x y H2 I2 r1 r2 q2

theorem pe_op {op : Operator} {r : R2} (ho : OpR X (binaryOp op) r) (ha : PE X a ta) (hb : PE X b tb) : PE X (.BinOp a op b pos) (tOp r ta tb) := by
  intro pins s σ H Q I h
  exact wpAny_BinOp (binT ha hb I h fun v u s2 x y H2 I2 rx ry q => ho pins s2 σ H2 x y v u Q I2 rx ry q)
theorem pe_un {op : UnaryOp} {r : V → Hp → VK → Prop} (ho : UnR X (unaryOp op) r) (ha : PE X a ta) : PE X (.UnaryOp op a pos) (tUn r ta) := by
  intro pins s σ H Q I h
  exact UnaryOp_ (thn (ha pins s σ H _ I h) fun v s1 ⟨x, H1, I1, r1, q1⟩ => ho pins s1 σ H1 x v Q I1 r1 q1)
/-! ### ints -/
theorem opI {f : Value → Value → Sem Value} {C : Int → Int → Prop} {g : Int → Int → Int}
    (rule : ∀ (i j : Int) (t u : Tok) (s : Shared) (Q : Value → Shared → Prop) (E : Value → Shared → Prop), C i j → Q (.int (g i j) s.toks) { s with toks := s.toks + 1 } → wpAny (model X.prog X.w) X.A (f (.int i t) (.int j u)) Q E s) :
    OpR X f (rI C fun i j => .int (g i j)) := by
  intro pins s σ H x y v u Q I rx ry h
  obtain ⟨i, j, rfl, rfl, hc, q⟩ := h
  obtain ⟨t, rfl⟩ := rx
  obtain ⟨t', rfl⟩ := ry
  exact rule i j t t' s _ _ hc ⟨.int (g i j), H, I.tok _, ⟨_, rfl⟩, q⟩
theorem opI0 {f : Value → Value → Sem Value} {g : Int → Int → Int}
    (rule : ∀ (i j : Int) (t u : Tok) (s : Shared) (Q : Value → Shared → Prop) (E : Value → Shared → Prop), Q (.int (g i j) s.toks) { s with toks := s.toks + 1 } → wpAny (model X.prog X.w) X.A (f (.int i t) (.int j u)) Q E s) :
    OpR X f (rI0 fun i j => .int (g i j)) := by
  intro pins s σ H x y v u Q I rx ry h
  obtain ⟨i, j, rfl, rfl, q⟩ := h
  obtain ⟨t, rfl⟩ := rx
  obtain ⟨t', rfl⟩ := ry
  exact rule i j t t' s _ _ ⟨.int (g i j), H, I.tok _, ⟨_, rfl⟩, q⟩
theorem opB0 {f : Value → Value → Sem Value} {g : Int → Int → Bool}
    (rule : ∀ (i j : Int) (t u : Tok) (s : Shared) (Q : Value → Shared → Prop) (E : Value → Shared → Prop), Q (.bool (g i j)) s → wpAny (model X.prog X.w) X.A (f (.int i t) (.int j u)) Q E s) :
    OpR X f (rI0 fun i j => .bl (g i j)) := by
  intro pins s σ H x y v u Q I rx ry h
  obtain ⟨i, j, rfl, rfl, q⟩ := h
  obtain ⟨t, rfl⟩ := rx
  obtain ⟨t', rfl⟩ := ry
  exact rule i j t t' s _ _ ⟨.bl (g i j), H, I, rfl, q⟩

def CDiv (i j : Int) : Prop := 0 < j ∧ j < 1073741824
def CPow (i j : Int) : Prop := 0 ≤ j ∧ j ≤ 1000000 ∧ i.natAbs < 2 ^ 64
def CMul (i j : Int) : Prop := (-(2 ^ 64) < i ∧ i < 2 ^ 64) ∨ (-(2 ^ 64) < j ∧ j < 2 ^ 64)
theorem CMul.ok {i j : Int} (h : CMul i j) : IntMulOk i j := by
  rcases h with ⟨h1, h2⟩ | ⟨h1, h2⟩
  · exact .of_left (intBits_le_64 h1 h2)
  · exact .of_right (intBits_le_64 h1 h2)
theorem op_add : OpR X (binaryOp .Add) (rI0 fun i j => .int (i + j)) := opI0 fun _ _ _ _ _ _ _ q => add_int q
theorem op_sub : OpR X (binaryOp .Sub) (rI0 fun i j => .int (i - j)) := opI0 fun _ _ _ _ _ _ _ q => sub_int q
theorem op_mul : OpR X (binaryOp .Mult) (rI CMul fun i j => .int (i * j)) := opI fun _ _ _ _ _ _ _ hc q => mul_int q hc.ok
/-- // by a positive divisor -/
theorem op_fdiv : OpR X (binaryOp .FloorDiv) (rI CDiv fun i j => .int (i / j)) := opI fun i j _ _ _ _ _ hc q => by
  have h1 : (0 : Int) < j := hc.1
  have h2 : j < 1073741824 := hc.2
  exact floordiv_int (by omega) (by rw [Int.fdiv_eq_ediv_of_nonneg i (by omega)]; exact q) (.inl (PyProof.noPylong_small (by omega)))
/-- % by a positive divisor of any size -/
theorem op_mod : OpR X (binaryOp .Mod) (rI (fun _ j => 0 < j) fun i j => .int (i % j)) := opI fun i j _ _ _ _ _ hc q => by
  have h1 : (0 : Int) < j := hc
  exact mod_int' (by omega) (by rw [Int.fmod_eq_emod_of_nonneg i (by omega)]; exact q)
theorem op_pow : OpR X (binaryOp .Pow) (rI CPow fun i j => .int (i ^ j.toNat)) := opI fun _ _ _ _ _ _ _ hc q => pow_int_small hc.1 hc.2.1 hc.2.2 q
theorem unI {f : Value → Sem Value} {g : Int → Int}
    (rule : ∀ (i : Int) (t : Tok) (s : Shared) (Q : Value → Shared → Prop) (E : Value → Shared → Prop), Q (.int (g i) s.toks) { s with toks := s.toks + 1 } → wpAny (model X.prog X.w) X.A (f (.int i t)) Q E s) :
    UnR X f (rU fun i => .int (g i)) := by
  intro pins s σ H x v Q I rx h
  obtain ⟨i, rfl, q⟩ := h
  obtain ⟨t, rfl⟩ := rx
  exact rule i t s _ _ ⟨.int (g i), H, I.tok _, ⟨_, rfl⟩, q⟩
theorem un_neg : UnR X (unaryOp .USub) (rU fun i => .int (-i)) := unI fun _ _ _ _ _ q => neg_int q
/-! ### bools among ints: n += (a < b) -/
end

/-! ### comparisons -/
/-- the scalars that == tells apart as data does -/
def scal : V → V → Bool
  | .non, .non => true | .non, .int _ => true | .int _, .non => true | .non, .bl _ => true | .bl _, .non => true | .non, .str _ => true | .str _, .non => true
  | .int _, .int _ => true | .bl _, .bl _ => true | .str _, .str _ => true | .byt _, .byt _ => true
  | .int _, .str _ => true | .str _, .int _ => true | .bl _, .str _ => true | .str _, .bl _ => true
  | _, _ => false
def rEq : R2 := fun x y H Q => scal x y = true ∧ Q (.bl (decide (x = y))) H
def rNe : R2 := fun x y H Q => scal x y = true ∧ Q (.bl (!decide (x = y))) H

theorem dec_int {i j : Int} : decide (V.int i = V.int j) = (i == j) := by
  rw [Bool.eq_iff_iff]
  simp
theorem dec_bl {i j : Bool} : decide (V.bl i = V.bl j) = (i == j) := by
  rw [Bool.eq_iff_iff]
  simp
theorem dec_str {i j : Str} : decide (V.str i = V.str j) = (i == j) := by
  rw [Bool.eq_iff_iff]
  simp
theorem dec_byt {i j : Array UInt8} : decide (V.byt i = V.byt j) = (i.toList == j.toList) := by
  rw [Bool.eq_iff_iff]
  cases i
  cases j
  simp

section
variable {X : Cx} {a b c : Expr} {ta tb tc : TE} {pos : Pos}
theorem fin_bl {pins : List (Addr × Obj)} {σ : St} {H : Hp} {s : Shared} {Q : VK} {k k' : Bool} (I : Inv X pins σ H s) (q : Q (.bl k) H) (e : k = k') : EP X pins σ Q (.bool k') s := by
  subst e
  exact ⟨.bl k, H, I, rfl, q⟩
theorem op_eq : OpR X (compareOp .Eq) rEq := by
  intro pins s σ H x y v u Q I rx ry h
  obtain ⟨hs, q⟩ := h
  cases x with
  | non =>
    cases rx
    cases y with
    | non => cases ry; exact PySem.EqNone.eq_none_none (fin_bl I q (by simp))
    | bl j => cases ry; exact PySem.EqNone.eq_none_bool (fin_bl I q (by simp))
    | int j => obtain ⟨t', rfl⟩ := ry; exact PySem.EqNone.eq_none_int (fin_bl I q (by simp))
    | str j => obtain ⟨t', rfl⟩ := ry; exact PySem.EqNone.eq_none_str (fin_bl I q (by simp))
    | _ => exact absurd (show false = true from hs) Bool.false_ne_true
  | bl i =>
    cases rx
    cases y with
    | non => cases ry; exact PySem.EqNone.eq_bool_none (fin_bl I q (by simp))
    | bl j => cases ry; exact eq_bool (fin_bl I q dec_bl)
    | str j => obtain ⟨t', rfl⟩ := ry; exact PySem.EqMixed.eq_bool_str (fin_bl I q (by simp))
    | _ => exact absurd (show false = true from hs) Bool.false_ne_true
  | int i =>
    obtain ⟨t, rfl⟩ := rx
    cases y with
    | non => cases ry; exact PySem.EqNone.eq_int_none (fin_bl I q (by simp))
    | int j => obtain ⟨t', rfl⟩ := ry; exact eq_int (fin_bl I q dec_int)
    | str j => obtain ⟨t', rfl⟩ := ry; exact PySem.EqMixed.eq_int_str (fin_bl I q (by simp))
    | _ => exact absurd (show false = true from hs) Bool.false_ne_true
  | str i =>
    obtain ⟨t, rfl⟩ := rx
    cases y with
    | non => cases ry; exact PySem.EqNone.eq_str_none (fin_bl I q (by simp))
    | bl j => cases ry; exact PySem.EqMixed.eq_str_bool (fin_bl I q (by simp))
    | int j => obtain ⟨t', rfl⟩ := ry; exact PySem.EqMixed.eq_str_int (fin_bl I q (by simp))
    | str j => obtain ⟨t', rfl⟩ := ry; exact eq_str (fin_bl I q dec_str)
    | _ => exact absurd (show false = true from hs) Bool.false_ne_true
  | byt i =>
    obtain ⟨t, rfl⟩ := rx
    cases y with
    | byt j => obtain ⟨t', rfl⟩ := ry; exact PySem.W.eq_bytes (fin_bl I q dec_byt)
    | _ => exact absurd (show false = true from hs) Bool.false_ne_true
  | _ => cases y <;> exact absurd (show false = true from hs) Bool.false_ne_true
theorem op_ne : OpR X (compareOp .NotEq) rNe := by
  intro pins s σ H x y v u Q I rx ry h
  obtain ⟨hs, q⟩ := h
  cases x with
  | non =>
    cases rx
    cases y with
    | non => cases ry; exact PySem.EqNone.ne_none_none (fin_bl I q (by simp))
    | bl j => cases ry; exact PySem.EqNone.ne_none_bool (fin_bl I q (by simp))
    | int j => obtain ⟨t', rfl⟩ := ry; exact PySem.EqNone.ne_none_int (fin_bl I q (by simp))
    | str j => obtain ⟨t', rfl⟩ := ry; exact PySem.EqNone.ne_none_str (fin_bl I q (by simp))
    | _ => exact absurd (show false = true from hs) Bool.false_ne_true
  | bl i =>
    cases rx
    cases y with
    | non => cases ry; exact PySem.EqNone.ne_bool_none (fin_bl I q (by simp))
    | bl j => cases ry; exact ne_bool (fin_bl I q (congrArg not dec_bl))
    | str j => obtain ⟨t', rfl⟩ := ry; exact PySem.EqMixed.ne_bool_str (fin_bl I q (by simp))
    | _ => exact absurd (show false = true from hs) Bool.false_ne_true
  | int i =>
    obtain ⟨t, rfl⟩ := rx
    cases y with
    | non => cases ry; exact PySem.EqNone.ne_int_none (fin_bl I q (by simp))
    | int j => obtain ⟨t', rfl⟩ := ry; exact ne_int (fin_bl I q (congrArg not dec_int))
    | str j => obtain ⟨t', rfl⟩ := ry; exact PySem.EqMixed.ne_int_str (fin_bl I q (by simp))
    | _ => exact absurd (show false = true from hs) Bool.false_ne_true
  | str i =>
    obtain ⟨t, rfl⟩ := rx
    cases y with
    | non => cases ry; exact PySem.EqNone.ne_str_none (fin_bl I q (by simp))
    | bl j => cases ry; exact PySem.EqMixed.ne_str_bool (fin_bl I q (by simp))
    | int j => obtain ⟨t', rfl⟩ := ry; exact PySem.EqMixed.ne_str_int (fin_bl I q (by simp))
    | str j => obtain ⟨t', rfl⟩ := ry; exact ne_str (fin_bl I q (congrArg not dec_str))
    | _ => exact absurd (show false = true from hs) Bool.false_ne_true
  | byt i =>
    obtain ⟨t, rfl⟩ := rx
    cases y with
    | byt j => obtain ⟨t', rfl⟩ := ry; exact PySem.W.ne_bytes (fin_bl I q (congrArg not dec_byt))
    | _ => exact absurd (show false = true from hs) Bool.false_ne_true
  | _ => cases y <;> exact absurd (show false = true from hs) Bool.false_ne_true

theorem op_lt : OpR X (compareOp .Lt) (rI0 fun i j => .bl (decide (i < j))) := opB0 fun _ _ _ _ _ _ _ q => lt_int q
theorem op_le : OpR X (compareOp .LtE) (rI0 fun i j => .bl (decide (i ≤ j))) := opB0 fun _ _ _ _ _ _ _ q => le_int q
theorem op_gt : OpR X (compareOp .Gt) (rI0 fun i j => .bl (decide (j < i))) := opB0 fun _ _ _ _ _ _ _ q => gt_int q
theorem op_ge : OpR X (compareOp .GtE) (rI0 fun i j => .bl (decide (j ≤ i))) := opB0 fun _ _ _ _ _ _ _ q => ge_int q
/-- is None, is not None: the right side a value none -/
theorem op_isN : OpR X (compareOp .Is) (fun x y H Q => y = .non ∧ Q (.bl (decide (x = .non))) H) := by
  intro pins s σ H x y v u Q I rx ry h
  obtain ⟨rfl, q⟩ := h
  cases ry
  refine is_none_gen (fin_bl I q ?_)
  cases x <;> first
    | (cases rx; rfl)
    | (obtain ⟨t, rfl⟩ := rx; rfl)
/-- two rules for one operation: by cases -/
theorem OpR.or {f : Value → Value → Sem Value} {r r' : R2} (h : OpR X f r) (h' : OpR X f r') : OpR X f (fun x y H Q => r x y H Q ∨ r' x y H Q) := by
  intro pins s σ H x y v u Q I rx ry q
  rcases q with q | q
  · exact h pins s σ H x y v u Q I rx ry q
  · exact h' pins s σ H x y v u Q I rx ry q

theorem nomark (b : Expr) {op : CmpOp} (h : op ≠ .In := by decide) (h2 : op ≠ .NotIn := by decide) : behindInMarks op b = false := by
  have e1 : (op == CmpOp.In) = false := by cases op <;> first | rfl | exact absurd rfl h
  have e2 : (op == CmpOp.NotIn) = false := by cases op <;> first | rfl | exact absurd rfl h2
  cases b <;> simp [behindInMarks, e1, e2]
/-- a comparison as a value; hm: nomark b, or (for in, not in) by with_unfolding_all rfl -/
theorem pe_cmpR {op : CmpOp} {r : R2} (ho : OpR X (compareOp op) r) (ha : PE X a ta) (hb : PE X b tb) (hm : behindInMarks op b = false) : PE X (.Compare a [op] [b] pos) (tOp r ta tb) := by
  intro pins s σ H Q I h
  exact wpAny_Compare1 (binT ha hb I h fun v u s2 x y H2 I2 rx ry q => ho pins s2 σ H2 x y v u Q I2 rx ry q) hm
/-- a reading of a value as a test -/
def tTest (t : TE) : TT := fun σ H Q => t σ H fun x H' => ∃ k, x = .bl k ∧ Q k H'
theorem pt_cmpR {op : CmpOp} {r : R2} (ho : OpR X (compareOp op) r) (ha : PE X a ta) (hb : PE X b tb) (hm : behindInMarks op b = false) : PT X (.Compare a [op] [b] pos) (tTest (tOp r ta tb)) := by
  intro pins s σ H Q I h
  refine wpAny_isTrue_Compare1 (thn (ha pins s σ H _ I h) fun v s1 ⟨x, H1, I1, r1, q1⟩ => thn (hb pins s1 σ H1 _ I1 q1) fun u s2 ⟨y, H2, I2, r2, q2⟩ =>
    thn (ho pins s2 σ H2 x y v u _ I2 r1 r2 q2) fun c s3 ⟨z, H3, I3, r3, k, e, q3⟩ => ?_) hm
  subst e
  cases r3
  exact wpAny_truthy_bool ⟨H3, I3, q3⟩
/-- a op1 b op2 c -/
def tChain (r r' : R2) (ta tb tc : TE) : TE := fun σ H Q => ta σ H fun x H1 => tb σ H1 fun y H2 => r x y H2 fun z H3 => ∃ k, z = .bl k ∧
  (if k = true then tc σ H3 fun w' H4 => r' y w' H4 Q else Q (.bl false) H3)
theorem pt_chain {op op' : CmpOp} {r r' : R2} (ho : OpR X (compareOp op) r) (ho' : OpR X (compareOp op') r') (ha : PE X a ta) (hb : PE X b tb) (hc : PE X c tc)
    (hm : lastMarks [op, op'] [b, c] = false := by with_unfolding_all rfl) : PT X (.Compare a [op, op'] [b, c] pos) (tTest (tChain r r' ta tb tc)) := by
  intro pins s σ H Q I h
  refine isTrue_chain (thn (ha pins s σ H _ I h) fun v s1 ⟨x, H1, I1, r1, q1⟩ => test_link (thn (hb pins s1 σ H1 _ I1 q1) fun u s2 ⟨y, H2, I2, r2, q2⟩ =>
    thn (ho pins s2 σ H2 x y v u _ I2 r1 r2 q2) fun d s3 ⟨z, H3, I3, r3, k, e, q3⟩ => ?_)) hm
  subst e
  cases r3
  refine wpAny_truthy_bool ?_
  cases k with
  | false =>
    obtain ⟨k', e', q'⟩ := q3
    cases e'
    exact ite_ff ⟨H3, I3, q'⟩
  | true =>
    refine ite_tt (test_last (thn (hc pins s3 σ H3 _ I3 q3) fun w' s4 ⟨z', H4, I4, r4, q4⟩ => thn (ho' pins s4 σ H4 y z' u w' _ I4 r2 r4 q4) fun d' s5 ⟨z2, H5, I5, r5, k2, e2, q5⟩ => ?_))
    subst e2
    cases r5
    exact wpAny_truthy_bool ⟨H5, I5, q5⟩

/-! ### truth -/
/-- a value's truth by the abstract heap -/
def TruV (K : PySem.W.Frag) (x : V) (H : Hp) (k : Bool) : Prop :=
  match x with
  | .non => k = false
  | .bl b => k = b
  | .int i => k = (i != 0)
  | .str y => y.length ≤ sizeLine ∧ k = ((y.length : Int) != 0)
  | .byt y => y.size ≤ sizeLine ∧ k = ((y.size : Int) != 0)
  | .ref p => (∃ xs, SqL K H p xs ∧ k = !xs.isEmpty) ∨ (∃ xs, SqT K H p xs ∧ k = !xs.isEmpty) ∨ ∃ kvs, H p = some (.dK kvs) ∧ k = !kvs.isEmpty
  | _ => False
theorem isEmpty_kv {κ : Type} {kvs : List (κ × V)} {vs : List (κ × Value)} (r : KV kvs vs) : (!vs.isEmpty) = !kvs.isEmpty := by
  cases r <;> rfl
theorem isEmpty_of {xs : List V} {its : List Value} (r : Vals xs its) : (!its.toArray.isEmpty) = !xs.isEmpty := by
  cases r <;> simp
theorem line63 : (sizeLine : Nat) < 2 ^ 63 := by rw [sizeLine_eq]; decide
theorem tru_ok : TruR X (fun x H Q => ∃ k, TruV X.K x H k ∧ Q k H) := by
  intro pins s σ H x v Q I rx h
  obtain ⟨k, e, q⟩ := h
  have hl := line63
  have hs : sizeLine = 16777216 := sizeLine_eq
  cases x with
  | non =>
    cases rx
    have e' : k = false := e
    subst e'
    exact truthy_none ⟨H, I, q⟩
  | bl b =>
    cases rx
    have e' : k = b := e
    subst e'
    exact wpAny_truthy_bool ⟨H, I, q⟩
  | int i =>
    obtain ⟨t, rfl⟩ := rx
    have e' : k = (i != 0) := e
    subst e'
    exact PySem.P.truthy_int ⟨H, I, q⟩
  | str y =>
    obtain ⟨t, rfl⟩ := rx
    obtain ⟨hy, e'⟩ : y.length ≤ sizeLine ∧ k = ((y.length : Int) != 0) := e
    subst e'
    exact PySem.P.truthy_str (by omega) ⟨H, I.tok _, q⟩
  | byt y =>
    obtain ⟨t, rfl⟩ := rx
    obtain ⟨hy, e'⟩ : y.size ≤ sizeLine ∧ k = ((y.size : Int) != 0) := e
    subst e'
    exact PySem.W.truthy_bytes (by omega) ⟨H, I.tok _, q⟩
  | ref p =>
    cases rx
    have e' : (∃ xs, SqL X.K H p xs ∧ k = !xs.isEmpty) ∨ (∃ xs, SqT X.K H p xs ∧ k = !xs.isEmpty) ∨ ∃ kvs, H p = some (.dK kvs) ∧ k = !kvs.isEmpty := e
    rcases e' with ⟨xs, hx, e'⟩ | ⟨xs, hx, e'⟩ | ⟨kvs, hx, e'⟩
    · subst e'
      obtain ⟨its, r, pl, hz⟩ := I.list hx
      have hlen := r.length
      exact wpAny_truthy_list pl.isList (by simp only [List.size_toArray]; omega) ⟨H, I.tok _, by rw [isEmpty_of r]; exact q⟩
    · subst e'
      obtain ⟨its, r, pl, hz⟩ := I.tuple hx
      have hlen := r.length
      exact truthy_tuple pl (by simp only [List.size_toArray]; omega) ⟨H, I.tok _, by rw [isEmpty_of r]; exact q⟩
    · subst e'
      obtain ⟨hz, hS, vs, r, m⟩ : kvs.length ≤ sizeLine ∧ (p == sysModules) = false ∧ ∃ vs, KV kvs vs ∧ s.heap.DictOf (mixKind X.prog X.w) p vs := I.hok p _ hx
      have hlen : kvs.length = vs.length := Paired.length r
      exact wpAny_truthy_dict hS m (by omega) ⟨H, I.tok _, by rw [isEmpty_kv r]; exact q⟩
  | _ => exact (show False from e).elim
/-- any expression whose test is its value's truth (a name, a call, a subscript, a field ..: he by fun _ => rfl) -/
theorem pt_truth (ha : PE X a ta) (he : ∀ whole, isTrue a X.env whole = (do let v ← whole; standAt a.pos; holding [v] (truthy v))) :
    PT X a (fun σ H Q => ta σ H fun x H' => ∃ k, TruV X.K x H' k ∧ Q k H') := by
  intro pins s σ H Q I h
  exact isTrue_plain (thn (ha pins s σ H _ I h) fun v s1 ⟨x, H1, I1, r1, q1⟩ => tru_ok pins s1 σ H1 x v Q I1 r1 q1) (he _)

/-! ### strs and bytes -/
/-! ### scalar builtins, by CallR -/
theorem vals1 {x : V} {us : List Value} (r : Vals [x] us) : ∃ u, us = [u] ∧ RelV x u := by
  cases r with
  | cons r1 r2 => cases r2; exact ⟨_, rfl, r1⟩
theorem vals2 {x y : V} {us : List Value} (r : Vals [x, y] us) : ∃ u w', us = [u, w'] ∧ RelV x u ∧ RelV y w' := by
  cases r with
  | cons r1 r2 =>
    cases r2 with
    | cons r3 r4 => cases r4; exact ⟨_, _, rfl, r1, r3⟩
theorem call_abs : CallR X (.builtin "abs") (fun xs H Q => ∃ i, xs = [.int i] ∧ Q (.int (if i < 0 then -i else i)) H) := by
  intro pins s σ H xs us Q I r h
  obtain ⟨i, rfl, q⟩ := h
  obtain ⟨u, rfl, t, rfl⟩ := vals1 r
  exact call_abs_int fun u tk => ⟨.int (if i < 0 then -i else i), H, I.tok _, ⟨_, rfl⟩, q⟩
theorem call_max2 (hc : X.calm = true) : CallR X (.builtin "max") (fun xs H Q => ∃ i j, xs = [.int i, .int j] ∧ Q (.int (if j > i then j else i)) H) := by
  intro pins s σ H xs us Q I r h
  obtain ⟨i, j, rfl, q⟩ := h
  obtain ⟨u, w', rfl, ⟨t, rfl⟩, ⟨t', rfl⟩⟩ := vals2 r
  refine max_two_ints (I.ok.hd hc) fun h' tk k => ⟨_, H, I.kept k, ?_, q⟩
  by_cases hj : j > i
  · rw [if_pos hj, if_pos hj]; exact ⟨_, rfl⟩
  · rw [if_neg hj, if_neg hj]; exact ⟨_, rfl⟩
theorem call_min2 (hc : X.calm = true) : CallR X (.builtin "min") (fun xs H Q => ∃ i j, xs = [.int i, .int j] ∧ Q (.int (if j < i then j else i)) H) := by
  intro pins s σ H xs us Q I r h
  obtain ⟨i, j, rfl, q⟩ := h
  obtain ⟨u, w', rfl, ⟨t, rfl⟩, ⟨t', rfl⟩⟩ := vals2 r
  refine min_two_ints (I.ok.hd hc) fun h' tk k => ⟨_, H, I.kept k, ?_, q⟩
  by_cases hj : j < i
  · rw [if_pos hj, if_pos hj]; exact ⟨_, rfl⟩
  · rw [if_neg hj, if_neg hj]; exact ⟨_, rfl⟩
theorem call_int1 : CallR X (.type "int") (fun xs H Q => (∃ i, xs = [.int i] ∧ Q (.int i) H) ∨ ∃ k, xs = [.bl k] ∧ Q (.int (if k then 1 else 0)) H) := by
  intro pins s σ H xs us Q I r h
  rcases h with ⟨i, rfl, q⟩ | ⟨k, rfl, q⟩
  · obtain ⟨u, rfl, t, rfl⟩ := vals1 r
    exact call_int_int ⟨.int i, H, I, ⟨_, rfl⟩, q⟩
  · obtain ⟨u, rfl, r1⟩ := vals1 r
    cases r1
    exact call_int_bool ⟨.int (if k then 1 else 0), H, I.tok _, ⟨_, rfl⟩, q⟩
/-- divmod: a new tuple -/
theorem call_divmod : CallR X (.builtin "divmod") (fun xs H Q => ∃ i j, xs = [.int i, .int j] ∧ CDiv i j ∧ ∀ p, H p = none → Q (.ref p) (upd H p (.tup [.int (i / j), .int (i % j)]))) := by
  intro pins s σ H xs us Q I r h
  obtain ⟨i, j, rfl, ⟨h1, h2⟩, q⟩ := h
  obtain ⟨u, w', rfl, ⟨t, rfl⟩, ⟨t', rfl⟩⟩ := vals2 r
  refine divmod_int (by omega) ?_ (.inl (PyProof.noPylong_small (by omega)))
  rw [Int.fdiv_eq_ediv_of_nonneg i (by omega), Int.fmod_eq_emod_of_nonneg i (by omega)]
  have hn : H s.heap.objs.size = none := I.hok.fresh (Nat.le_refl _)
  refine ⟨.ref s.heap.objs.size, _, ?_, rfl, q _ hn⟩
  refine I.laid (fun b o e => Heap.get?_push_of_some _ e) (Nat.le_refl _) ⟨by simp only [List.length_cons, List.length_nil]; rw [sizeLine_eq]; decide, [.int (i / j) s.toks, .int (i % j) (s.toks + 1)], .cons ⟨_, rfl⟩ (.cons ⟨_, rfl⟩ .nil), ?_⟩
  exact ⟨_, Heap.get?_push_size s.heap rfl, rfl, ⟨0, rfl⟩, rfl⟩
end
end L2

namespace L2
open PySem PySem.Spec PyProof.Rows

/-! ### an instance, its attributes a map -/
structure ObjM (h : Heap) (x dx C : Addr) (mA : Str → Option Value) : Prop where
  obj : h.get? x = some (PySem.W.instObj C dx)
  ns : h.Ns1 dx mA
  ne : dx ≠ x

theorem lookIn_ns {h : Heap} {dx : Addr} {mA : Str → Option Value} (n : h.Ns1 dx mA) : ∃ od, h.get? dx = some od ∧ ∀ name, PySem.W.lookIn name od = some (mA name) := by
  obtain ⟨o, es, ep, ho, hd, hk, _, hm⟩ := n
  refine ⟨o, ho, fun name => ?_⟩
  have e := hm name
  unfold nsFind findBy at e
  rw [← Array.find?_toList] at e
  unfold PySem.W.lookIn
  rw [hd]
  dsimp only
  split
  · rename_i y q
    rw [q] at e
    exact congrArg some e
  · rename_i q
    rw [q] at e
    have a : es.toList.any (·.refKey) = false := by
      rw [List.any_eq_false]
      intro y hy
      obtain ⟨z, t, hkey⟩ := hk y (Array.mem_toList_iff.mp hy)
      simp [DictEntry.refKey, hkey]
    have a' : ¬ es.toList.any (·.refKey) = true := by rw [a]; exact Bool.false_ne_true
    rw [if_neg a']
    exact congrArg some e

theorem ObjM.look {h : Heap} {x dx C : Addr} {mA : Str → Option Value} (I : ObjM h x dx C mA) : ∃ od, PySem.W.InstAt h x (PySem.W.instObj C dx) C (some od) ∧ ∀ name, PySem.W.lookIn name od = some (mA name) :=
  let ⟨od, ho, hl⟩ := lookIn_ns I.ns
  ⟨od, ⟨I.obj, rfl, rfl, ho⟩, hl⟩

section
variable {prog : Program} {w : World} {A : Around} {E : Value → Shared → Prop} {s : Shared} {K : PySem.W.Frag} {x dx C f : Addr} {mA : Str → Option Value} {name : Str} {v : Value}

theorem get_map {expr : Bool} {Q : Value → Shared → Prop} (X : K.In s.heap) (I : ObjM s.heap x dx C mA) (hg : PySem.W.plainGet K C name = true) (hh : PySem.W.hasDictIn K C = true)
    (ha : PySem.W.findIn K (.ref C) name = some none) (hv : mA name = some v) (hv' : PySem.W.handedIn v = true) (h : Q v { s with toks := s.toks + 1 }) :
    wpAny (model prog w) A (getAttr (.ref x) name expr) Q E s := by
  obtain ⟨od, J, hl⟩ := I.look
  exact PySem.W.get_value X J (PySem.W.plainGet_of hg).1 (PySem.W.findObj_own hh ha rfl (by rw [hl, hv])) hv' h

theorem get_meth {pl : Sem Bool} {Q : Value × List Value → Shared → Prop} (X : K.In s.heap) (I : ObjM s.heap x dx C mA) (hg : PySem.W.plainGet K C name = true)
    (hf : PySem.W.findIn K (.ref C) name = some (some (.ref f))) (ht : PySem.W.isFn K (.ref f) = true) (hv : mA name = none) (h : Q (.ref f, [.ref x]) s) :
    wpAny (model prog w) A (getMethod (.ref x) name pl) Q E s := by
  obtain ⟨od, J, hl⟩ := I.look
  exact PySem.W.method_fn X J (PySem.W.plainGet_of hg).1 (PySem.W.plainGet_of hg).2 hf (beq_iff_eq.mp ht) (by show (PySem.W.lookIn name od).map (·.isSome) = some false; rw [hl, hv]; rfl) h

theorem set_map {ns : List Str} {Q : Unit → Shared → Prop} (X : K.In s.heap) (I : ObjM s.heap x dx C mA)
    (hs : PySem.W.findIn K (.ref C) "__setattr__" = some (some (.builtin "object.__setattr__"))) (hp : PySem.W.plainOver K C = true) (ht : PySem.W.takerIn K C name = some none) (hh : PySem.W.hasDictIn K C = true)
    (hw : PySem.Within mA ns) (hsz : ns.length ≤ sizeLine)
    (h : ∀ h', ObjM h' x dx C (fun y => if y = name then some v else mA y) → Heap.SameBut dx s.heap h' → Q () { s with heap := h', toks := s.toks + 2 }) :
    wpAny (model prog w) A (setAttr (.ref x) name v) Q E s := by
  obtain ⟨od, J, hl⟩ := I.look
  refine PySem.W.set_plain X J hs (PySem.W.osa_open (s := { s with toks := s.toks + 1 }) (r := none) X J hp ht fun b => ?_)
  obtain ⟨cd, hc, hd'⟩ := PySem.W.any_some hh
  have hx : s.heap.get? x = some ⟨.ref C, some dx, .plain, #[]⟩ := I.obj
  refine wpAny_bind (wpAny_pure (wpAny_bind (wpAny_bind (wpAny_loadPart hx (wpAny_bind (PySem.W.Looks.here (s := { s with toks := s.toks + 1 }) (PySem.W.looks_clsIn X hc) ?_))))))
  rw [hd']
  refine wpAny_pure (a := some dx) (wpAny_bind (wpAny_pure (wpAny_bind ?_)))
  refine wpAny_nsSet1 (s := { s with toks := s.toks + 1 }) I.ns fun h' hn2 hs2 => ?_
  obtain ⟨oD, esD, epD, hoD, hdD, hcD⟩ := hn2.count (PySem.Within.cons name v hw)
  refine wpAny_bind (wpAny_lookBehind hoD (by rw [hdD]; exact pastItsLine_dict (Nat.le_trans hcD (by rw [List.length_cons]; omega))) ?_)
  exact wpAny_pure (h _ ⟨(hs2.2 _ (Ne.symm I.ne)).trans I.obj, hn2, I.ne⟩ hs2)

/-- C(..): the dict at the heap's end, the instance behind it; then its __init__ -/
theorem make_map {R : Result → Shared → Prop} {vs : List Value} {kw : List (Str × Value)} (X : K.In s.heap) (hm : PySem.W.makesIn K C = true)
    (hi : PySem.W.findIn K (.ref C) "__init__" = some (some (.ref f))) (hf : PySem.W.typeIn K (.ref f) = some (.type "function"))
    (h : codeAny (model prog w) (A.under (.builtin "type.__call__" ⟨.ref C :: vs, kw⟩)) (.call (.ref f) ⟨.ref (s.heap.objs.size + 1) :: vs, kw⟩) (PySem.W.InitBack (s.heap.objs.size + 1) R)
      { s with heap := (s.heap.push PySem.W.emptyDict).push (PySem.W.instObj C s.heap.objs.size) }) :
    codeAny (model prog w) A (.call (.ref C) ⟨vs, kw⟩) R s := by
  obtain ⟨hh, g, d, t, os⟩ := s
  exact PySem.W.make_core (PySem.W.makes_of X hm) (PySem.W.looks_findIn X hi) (fun self => PySem.W.bind_fn X self hf) (.inl rfl) h
end

/-! ### the attributes as a list of pairs -/
def putF (f : Str) (v : V) : List (Str × V) → List (Str × V)
  | [] => [(f, v)]
  | (g, x) :: r => if g = f then (g, v) :: r else (g, x) :: putF f v r
theorem lookup_putF (f g : Str) (v : V) : ∀ fs : List (Str × V), (putF f v fs).lookup g = if g = f then some v else fs.lookup g
  | [] => by
    show List.lookup g [(f, v)] = _
    by_cases h : g = f
    · have hb : (g == f) = true := beq_iff_eq.mpr h
      simp only [List.lookup, hb, if_pos h]
    · have hb : (g == f) = false := beq_eq_false_iff_ne.mpr h
      simp only [List.lookup, hb, if_neg h]
  | (k, x) :: r => by
    have ih := lookup_putF f g v r
    rw [show putF f v ((k, x) :: r) = (if k = f then (k, v) :: r else (k, x) :: putF f v r) from rfl]
    by_cases hk : k = f
    · rw [if_pos hk]
      by_cases h : g = k
      · have hb : (g == k) = true := beq_iff_eq.mpr h
        simp only [List.lookup, hb, if_pos (h.trans hk)]
      · have hb : (g == k) = false := beq_eq_false_iff_ne.mpr h
        simp only [List.lookup, hb, if_neg (fun e : g = f => h (e.trans hk.symm))]
    · rw [if_neg hk]
      by_cases h : g = k
      · have hb : (g == k) = true := beq_iff_eq.mpr h
        simp only [List.lookup, hb, if_neg (fun e : g = f => hk (h.symm.trans e))]
      · have hb : (g == k) = false := beq_eq_false_iff_ne.mpr h
        simp only [List.lookup, hb]
        exact ih
theorem keys_putF (f : Str) (v : V) : ∀ fs : List (Str × V), f ∈ (putF f v fs).map (·.1) ∧ ∀ g, g ∈ fs.map (·.1) → g ∈ (putF f v fs).map (·.1)
  | [] => ⟨by simp [putF], fun g h => by simp at h⟩
  | (k, x) :: r => by
    obtain ⟨i1, i2⟩ := keys_putF f v r
    rw [show putF f v ((k, x) :: r) = (if k = f then (k, v) :: r else (k, x) :: putF f v r) from rfl]
    by_cases hk : k = f
    · rw [if_pos hk]
      subst hk
      exact ⟨by simp, fun g h => by simpa using h⟩
    · rw [if_neg hk]
      refine ⟨?_, fun g h => ?_⟩
      · rw [List.map_cons]
        exact List.mem_cons_of_mem _ i1
      · rw [List.map_cons] at h ⊢
        rcases List.mem_cons.mp h with e | e
        · exact List.mem_cons.mpr (.inl e)
        · exact List.mem_cons_of_mem _ (i2 g e)
theorem length_putF (f : Str) (v : V) : ∀ fs : List (Str × V), (putF f v fs).length ≤ fs.length + 1
  | [] => by simp [putF]
  | (k, x) :: r => by
    have ih := length_putF f v r
    rw [show putF f v ((k, x) :: r) = (if k = f then (k, v) :: r else (k, x) :: putF f v r) from rfl]
    by_cases hk : k = f
    · rw [if_pos hk, List.length_cons, List.length_cons]; omega
    · rw [if_neg hk, List.length_cons, List.length_cons]; omega

theorem RelO.some_of {v : V} {o : Option Value} (r : RelO (some v) o) : ∃ u, o = some u ∧ RelV v u := by
  cases o with
  | none => exact (show False from r).elim
  | some u => exact ⟨u, rfl, r⟩
theorem RelO.none_of {o : Option Value} (r : RelO none o) : o = none := by
  cases o with
  | none => rfl
  | some u => exact (show False from r).elim
theorem handed_of {v : V} {u : Value} (r : RelV v u) : PySem.W.handedIn u = true := by
  cases v with
  | non => cases (show u = Value.none from r); rfl
  | bl b => cases (show u = Value.bool b from r); rfl
  | int i => obtain ⟨t, e⟩ := (show ∃ t, u = Value.int i t from r); cases e; rfl
  | str x => obtain ⟨t, e⟩ := (show ∃ t, u = Value.str x t from r); cases e; rfl
  | byt b => obtain ⟨t, e⟩ := (show ∃ t, u = Value.bytes b t from r); cases e; rfl
  | flt b => obtain ⟨t, e⟩ := (show ∃ t, u = Value.float b t from r); cases e; rfl
  | ref a => cases (show u = Value.ref a from r); rfl
  | ty n => cases (show u = Value.type n from r); rfl

section
variable {P : Program} {w : World} {H H' : Hp} {h h' : Heap} {a C dx : Addr} {fs fs' : List (Str × V)}
theorem ins_get (hok : HOk P w H h) (e : H a = some (.ins C dx fs)) : ∃ mA, ObjM h a dx C mA ∧ (∀ f, RelO (fs.lookup f) (mA f)) ∧ PySem.Within mA (fs.map (·.1)) ∧ fs.length ≤ 1000 ∧ H dx = some (.own a) := by
  obtain ⟨d, z, ne, ob, mA, n, r, q⟩ := (show ObjOk P w H h a (.ins C dx fs) from hok a _ e)
  exact ⟨mA, ⟨ob, n, ne⟩, r, q, z, d⟩
end

/-! ### what of the text a class must have -/
structure Cls (K : PySem.W.Frag) (C : Addr) : Prop where
  pg : PySem.W.plainGet K C Str.empty = true
  hd : PySem.W.hasDictIn K C = true
  po : PySem.W.plainOver K C = true
  sa : PySem.W.findIn K (.ref C) "__setattr__" = some (some (.builtin "object.__setattr__"))
theorem Cls.get {K : PySem.W.Frag} {C : Addr} (c : Cls K C) (f : Str) : PySem.W.plainGet K C f = true := c.pg
/-- no class of it has the name -/
def NoAttr (K : PySem.W.Frag) (C : Addr) (f : Str) : Prop := PySem.W.findIn K (.ref C) f = some none
theorem NoAttr.taker {K : PySem.W.Frag} {C : Addr} {f : Str} (n : NoAttr K C f) : PySem.W.takerIn K C f = some none := by
  unfold PySem.W.takerIn
  rw [show PySem.W.findIn K (.ref C) f = some none from n]
  rfl
/-- a method: a plain def of the class or of one above it -/
structure Meth (K : PySem.W.Frag) (C : Addr) (m : Str) (f : Addr) : Prop where
  at_ : PySem.W.findIn K (.ref C) m = some (some (.ref f))
  fn : PySem.W.isFn K (.ref f) = true
  kp : PySem.W.keepIn K (.ref f) = true

section
variable {X : Cx} {pins : List (Addr × Obj)} {σ : St} {H : Hp} {s : Shared} {a C dx : Addr} {fs : List (Str × V)} {f : Str} {v : V} {A : Around} {E : Value → Shared → Prop}

theorem getattr_ok {b : Bool} {Q : Value → Shared → Prop} (I : Inv X pins σ H s) (e : H a = some (.ins C dx fs)) (c : Cls X.K C) (n : NoAttr X.K C f) (l : fs.lookup f = some v)
    (h : ∀ u s', Inv X pins σ H s' → RelV v u → Q u s') : wpAny (model X.prog X.w) A (getAttr (.ref a) f b) Q E s := by
  obtain ⟨mA, O, r, _, _, _⟩ := ins_get I.hok e
  obtain ⟨u, hu, ru⟩ := RelO.some_of (v := v) (o := mA f) (by rw [← l]; exact r f)
  exact get_map I.kIn O (c.get f) c.hd n hu (handed_of ru) (h u _ (I.tok _) ru)

theorem getmeth_ok {m : Str} {g : Addr} {pl : Sem Bool} {Q : Value × List Value → Shared → Prop} (I : Inv X pins σ H s) (e : H a = some (.ins C dx fs)) (c : Cls X.K C) (k : Meth X.K C m g) (l : fs.lookup m = none)
    (h : Q (.ref g, [.ref a]) s) : wpAny (model X.prog X.w) A (getMethod (.ref a) m pl) Q E s := by
  obtain ⟨mA, O, r, _, _, _⟩ := ins_get I.hok e
  have hn : mA m = none := RelO.none_of (by rw [← l]; exact r m)
  exact get_meth I.kIn O (c.get m) k.at_ k.fn hn h

theorem setattr_ok {y : V} {u : Value} {Q : Unit → Shared → Prop} (I : Inv X pins σ H s) (e : H a = some (.ins C dx fs)) (c : Cls X.K C) (n : NoAttr X.K C f) (hl : fs.length < 1000) (ry : RelV y u)
    (h : ∀ s', Inv X pins σ (upd H a (.ins C dx (putF f y fs))) s' → Q () s') : wpAny (model X.prog X.w) A (setAttr (.ref a) f u) Q E s := by
  obtain ⟨mA, O, r, wi, _, ho⟩ := ins_get I.hok e
  have hz : (fs.map (·.1)).length ≤ sizeLine := by rw [List.length_map, sizeLine_eq]; omega
  refine set_map I.kIn O c.sa c.po n.taker c.hd wi hz fun h' O' sb => h _ ?_
  have hd : ∃ o, h'.get? dx = some o := let ⟨o, _, _, e', _⟩ := O'.ns; ⟨o, e'⟩
  refine I.write (x := a) (e := dx) (by rw [e]; exact True.intro) (.inr ho) (fun b q hb z => (sb.2 b hb).trans z) hd ?_
  refine ⟨by rw [upd_ne O.ne]; exact ho, ?_, O.ne, O'.obj, _, O'.ns, fun g => ?_, fun g hg => ?_⟩
  · have := length_putF f y fs; omega
  · show RelO ((putF f y fs).lookup g) (if g = f then some u else mA g)
    rw [lookup_putF]
    by_cases q : g = f
    · rw [if_pos q, if_pos q]; exact ry
    · rw [if_neg q, if_neg q]; exact r g
  · by_cases q : g = f
    · rw [q]; exact (keys_putF f y fs).1
    · refine (keys_putF f y fs).2 g (wi g fun z => hg ?_)
      show (if g = f then some u else mA g) = none
      rw [if_neg q]; exact z

/-- a new instance, tracked, without attributes -/
theorem Inv.made (I : Inv X pins σ H s) : Inv X pins σ (upd (upd H s.heap.objs.size (.own (s.heap.objs.size + 1))) (s.heap.objs.size + 1) (.ins C s.heap.objs.size []))
    { s with heap := (s.heap.push PySem.W.emptyDict).push (PySem.W.instObj C s.heap.objs.size) } := by
  have e1 : (s.heap.push PySem.W.emptyDict).get? s.heap.objs.size = some PySem.W.emptyDict := Heap.get?_push_size s.heap rfl
  have e2 : ((s.heap.push PySem.W.emptyDict).push (PySem.W.instObj C s.heap.objs.size)).get? (s.heap.objs.size + 1) = some (PySem.W.instObj C s.heap.objs.size) := by
    have := Heap.get?_push_size (s.heap.push PySem.W.emptyDict) (o := PySem.W.instObj C s.heap.objs.size) rfl
    rwa [Heap.size_push] at this
  have e3 : (s.heap.push PySem.W.emptyDict).Ns s.heap.objs.size (fun _ => none) := ⟨PySem.W.emptyDict, #[], _, e1, rfl, (fun e he => absurd he (by simp)), fun _ => rfl⟩
  have I1 := I.laid (a := s.heap.objs.size) (o := .own (s.heap.objs.size + 1)) (h' := s.heap.push PySem.W.emptyDict) (t' := s.toks) (fun b u q => Heap.get?_push_of_some _ q) (Nat.le_refl _) ⟨_, e1⟩
  refine I1.laid (a := s.heap.objs.size + 1) (o := .ins C s.heap.objs.size []) (t' := s.toks) (fun b u q => Heap.get?_push_of_some _ q) (Nat.le_of_eq (Heap.size_push _ _)) ?_
  have ne : s.heap.objs.size ≠ s.heap.objs.size + 1 := Nat.ne_of_lt (Nat.lt_succ_self _)
  refine ⟨by rw [upd_ne ne, upd_same], Nat.zero_le _, ne, e2, fun _ => none, (Heap.Ns1.of_empty e3).at fun o q => Heap.get?_push_of_some _ q, fun _ => True.intro, fun y hy => absurd rfl hy⟩

/-- e.f where nothing but the object is asked: through attributeBase (super) and the last hold -/
theorem attr_of {prog : Program} {w : World} {env : Env} {e : Expr} {f : Str} {pos : Pos} {s : Shared} {Q : Value → Shared → Prop} (hb : attributeBase e f env (eval e env) = eval e env)
    (h : wpAny (model prog w) A (eval e env) (fun o s₁ => wpAny (model prog w) A (getAttr o f true) Q E s₁) E s) : wpAny (model prog w) A (eval (.Attribute e f pos) env) Q E s :=
  Attribute_any_ h (by rw [arm_eval_Attribute, hb])
end

/-! ### readings and rules -/
/-- e.f, an attribute of the instance -/
def tFld (K : PySem.W.Frag) (ta : TE) (f : Str) : TE := fun σ H Q => ta σ H fun x H1 => ∃ a C dx fs v, x = .ref a ∧ H1 a = some (.ins C dx fs) ∧ Cls K C ∧ NoAttr K C f ∧ fs.lookup f = some v ∧ Q v H1
/-- e.f = value -/
def sFld (K : PySem.W.Frag) (ta tv : TE) (f : Str) : TS := fun D σ H => tv σ H fun y H1 => ta σ H1 fun x H2 => ∃ a C dx fs, x = .ref a ∧ H2 a = some (.ins C dx fs) ∧ Cls K C ∧ NoAttr K C f ∧ fs.length < 1000 ∧
  D.nx σ (upd H2 a (.ins C dx (putF f y fs)))
section
variable {X : Cx} {o e value : Expr} {f : Str} {pos pos' tpos : Pos} {ta tv : TE}
theorem pe_fld (he : PE X e ta) (hb : attributeBase e f X.env (eval e X.env) = eval e X.env) : PE X (.Attribute e f pos) (tFld X.K ta f) := by
  intro pins s σ H Q I h
  refine attr_of hb (thn (he pins s σ H _ I h) fun u s1 ⟨x, H1, I1, rx, a, C, dx, fs, v, ex, ea, c, n, l, q⟩ => ?_)
  subst ex
  obtain rfl : u = Value.ref a := rx
  exact getattr_ok I1 ea c n l fun u' s2 I2 ru => ⟨v, H1, I2, ru, q⟩
theorem ps_fld (ha : PE X o ta) (hv : PE X value tv) (hs : swapsWith value (some (.Attribute o f pos')) pos.line X.env = pure false) : PS X (.Assign [.Attribute o f pos'] value pos) (sFld X.K ta tv f) := by
  intro pins s σ H D I h
  refine plainObj_wpAny_Assign_Attribute (thn (hv pins s σ H _ I h) fun u s1 ⟨y, H1, I1, ry, q⟩ => thn (ha pins s1 σ H1 _ I1 q) fun ov s2 ⟨x, H2, I2, rx, a, C, dx, fs, ex, ea, c, n, l, q2⟩ => ?_) hs
  subst ex
  obtain rfl : ov = Value.ref a := rx
  exact setattr_ok I2 ea c n l ry fun s3 I3 => ⟨σ, _, I3, q2⟩
end

/-! ### isinstance -/
section
variable {X : Cx} {pins : List (Addr × Obj)} {σ : St} {H : Hp} {s : Shared} {A : Around} {E : Value → Shared → Prop} {Q : Value → Shared → Prop} {c : Value} {b : Bool}
/-- the type of a value, as the fragment's deciders take it; for an instance its class -/
inductive TyOf (K : PySem.W.Frag) (H : Hp) : V → Value → Prop where
  | non : TyOf K H .non (.type "NoneType")
  | bl (x : Bool) : TyOf K H (.bl x) (.type "bool")
  | int (i : Int) : TyOf K H (.int i) (.type "int")
  | str (x : Str) : TyOf K H (.str x) (.type "str")
  | flt (x : UInt64) : TyOf K H (.flt x) (.type "float")
  | lst {a : Addr} {xs : List V} (e : H a = some (.lst xs)) : TyOf K H (.ref a) (.type "list")
  | frz {a : Addr} {o : Obj} {xs : List V} (e : H a = some (.frz o (.lst xs))) : TyOf K H (.ref a) (.type "list")
  | tup {a : Addr} {xs : List V} (e : H a = some (.tup xs)) : TyOf K H (.ref a) (.type "tuple")
  | dK {a : Addr} {kvs : List (Key × V)} (e : H a = some (.dK kvs)) : TyOf K H (.ref a) (.type "dict")
  | dT {a : Addr} {kvs : List (List Key × V)} (e : H a = some (.dT kvs)) : TyOf K H (.ref a) (.type "dict")
  | ins {a C dx : Addr} {fs : List (Str × V)} (e : H a = some (.ins C dx fs)) (cl : Cls K C) (ha : PySem.W.findIn K (.ref C) "__class__" = some (some (.builtin "object.__class__")))
      (hn : PySem.W.specialIn K (.builtin "object.__class__") "__get__" = some (some (.builtin "getset_descriptor.__get__"))) (htk : PySem.W.takesIn K (.builtin "object.__class__") = some true)
      (hm : PySem.W.mroIn K C (.type "object") = some true) : TyOf K H (.ref a) (.ref C)
/-- isinstance(x, c) for one class c, a built-in or an own one: kitOne's answer -/
theorem isinst_ok {x : V} {u t : Value} (I : Inv X pins σ H s) (rx : RelV x u) (ty : TyOf X.K H x t) (e : PySem.W.kitOne X.K t c = some b) (h : ∀ tk, Q (.bool b) { s with toks := tk }) :
    wpAny (model X.prog X.w) A (call (.builtin "isinstance") [u, c]) Q E s := by
  cases ty with
  | non => cases (show u = Value.none from rx); exact PySem.W.kia_one PySem.W.kitx_none I.kIn True.intro e (fun z => nomatch z) h
  | bl y => cases (show u = Value.bool y from rx); exact PySem.W.kia_one PySem.W.kitx_bool I.kIn True.intro e (fun z => nomatch z) h
  | int i => obtain ⟨t, q⟩ := (show ∃ t, u = Value.int i t from rx); cases q; exact PySem.W.kia_one PySem.W.kitx_int I.kIn True.intro e (fun z => nomatch z) h
  | str y => obtain ⟨t, q⟩ := (show ∃ t, u = Value.str y t from rx); cases q; exact PySem.W.kia_one PySem.W.kitx_str I.kIn True.intro e (fun z => nomatch z) h
  | flt y => obtain ⟨t, q⟩ := (show ∃ t, u = Value.float y t from rx); cases q; exact PySem.W.kia_one PySem.W.kitx_float I.kIn True.intro e (fun z => nomatch z) h
  | @lst a xs ea =>
    cases (show u = Value.ref a from rx)
    obtain ⟨_, _, n, _, h1⟩ := (show ObjOk X.prog X.w H s.heap a (.lst xs) from I.hok a _ ea)
    exact PySem.W.kia_one PySem.W.kitx_list I.kIn ⟨_, h1, rfl⟩ e (fun z => nomatch z) h
  | @frz a ob xs ea =>
    cases (show u = Value.ref a from rx)
    obtain ⟨_, _, _, n, _, h1⟩ := (show ObjOk X.prog X.w H s.heap a (.frz ob (.lst xs)) from I.hok a _ ea)
    exact PySem.W.kia_one PySem.W.kitx_list I.kIn ⟨_, h1, rfl⟩ e (fun z => nomatch z) h
  | @tup a xs ea =>
    cases (show u = Value.ref a from rx)
    obtain ⟨_, _, _, p⟩ := (show ObjOk X.prog X.w H s.heap a (.tup xs) from I.hok a _ ea)
    obtain ⟨o, h1, h2, _⟩ := p
    exact PySem.W.kia_one PySem.W.kitx_tuple I.kIn ⟨o, h1, h2⟩ e (fun z => nomatch z) h
  | @dK a kvs ea =>
    cases (show u = Value.ref a from rx)
    obtain ⟨_, _, vs, _, p⟩ := (show ObjOk X.prog X.w H s.heap a (.dK kvs) from I.hok a _ ea)
    obtain ⟨o, es, ep, h1, h2, _⟩ := p
    exact PySem.W.kia_one PySem.W.kitx_dict I.kIn ⟨o, h1, h2.1⟩ e (fun z => nomatch z) h
  | @dT a kvs ea =>
    cases (show u = Value.ref a from rx)
    obtain ⟨_, _, xs, _, o, es, ep, h1, h2, _⟩ := (show ObjOk X.prog X.w H s.heap a (.dT kvs) from I.hok a _ ea)
    exact PySem.W.kia_one PySem.W.kitx_dict I.kIn ⟨o, h1, h2.1⟩ e (fun z => nomatch z) h
  | @ins a C dx fs ea cl ha hn htk hm =>
    cases (show u = Value.ref a from rx)
    obtain ⟨mA, O, _⟩ := ins_get I.hok ea
    obtain ⟨od, J, _⟩ := O.look
    exact PySem.W.kia_one (PySem.W.kitx_own (cl.get _) cl.hd ha hn htk hm) I.kIn J e (fun z => nomatch z) h
end
end L2

namespace L2
open PySem PySem.Spec PyProof.Rows

/-! ### room -/
structure Room (k : Nat) (A : Around) : Prop where
  hd : A.handled = none
  dp : A.depth + 3 * k + 5 < recursionLimit
  un : A.units + 16 * k + 200 < cLine
  gd : A.guards = some []
theorem Room.mono {j k : Nat} {A : Around} (r : Room k A) (h : j ≤ k) : Room j A := ⟨r.hd, by have := r.dp; omega, by have := r.un; omega, r.gd⟩
theorem Room.deeper {k : Nat} {A : Around} (r : Room (k + 1) A) (env : Env) : Room k (A.deeper env) :=
  ⟨r.hd, by have := r.dp; show A.depth + 1 + 3 * k + 5 < _; omega, by have := r.un; show A.units + 3 + 16 * k + 200 < _; omega, r.gd⟩
theorem Room.in1 {k : Nat} {A : Around} (r : Room (k + 1) A) : Room k A.in1 :=
  ⟨r.hd, by have := r.dp; show A.depth + 3 * k + 5 < _; omega, by have := r.un; show A.units + 1 + 16 * k + 200 < _; omega, r.gd⟩
theorem make_depth {A : Around} {C : Addr} {us : List Value} {kw : List (Str × Value)} : (A.under (.builtin "type.__call__" ⟨.ref C :: us, kw⟩)).depth = A.depth + 1 := by
  first | rfl | simp [Around.under, Code.weight, Code.isCreation, Code.isGuard, Code.isCaller, Code.frames, Code.isFrame, guardIds]
theorem make_units {A : Around} {C : Addr} {us : List Value} {kw : List (Str × Value)} : (A.under (.builtin "type.__call__" ⟨.ref C :: us, kw⟩)).units = A.units + 1 := by
  first | rfl | simp [Around.under, Code.cUnits, Code.frames, Code.isFrame]
theorem Room.make {k : Nat} {A : Around} (r : Room (k + 1) A) (C : Addr) (us : List Value) (kw : List (Str × Value)) : Room k (A.under (.builtin "type.__call__" ⟨.ref C :: us, kw⟩)) :=
  ⟨r.hd, by have := r.dp; rw [make_depth]; omega, by have := r.un; rw [make_units]; omega, by first | exact r.gd | (simpa [Around.under, Code.weight, Code.isCreation, Code.isGuard, Code.isCaller, Code.frames, Code.isFrame, guardIds] using r.gd)⟩
theorem Room.depth {k : Nat} {A : Around} (r : Room k A) : A.depth < recursionLimit := by have := r.dp; omega
theorem Room.units {k : Nat} {A : Around} (r : Room k A) : A.units + 64 < cLine := by have := r.un; omega
theorem Room.units0 {k : Nat} {A : Around} (r : Room k A) : A.units < cLine := by have := r.un; omega

/-! ### argument lists and displays -/
def tNil : TA := fun _ H Q => Q [] H
def tCons (ta : TE) (tr : TA) : TA := fun σ H Q => ta σ H fun x H1 => tr σ H1 fun xs H2 => Q (x :: xs) H2
section
variable {X : Cx} {e : Expr} {es : List Expr} {te : TE} {t : TA} {pos : Pos}
theorem pa_nil : PA X [] tNil := fun _ _ _ _ H Q I h => Calls.spliced_nil ⟨[], H, I, .nil, h⟩
theorem pa_cons (ha : PE X e te) (hr : PA X es t) (hs : starEach (e :: es) X.env = (false, eval e X.env) :: starEach es X.env := by rfl) : PA X (e :: es) (tCons te t) := by
  intro pos pins s σ H Q I h
  rw [hs]
  show wpAny _ _ (spliced ((false, eval e X.env) :: backTo pos (starEach es X.env))) _ _ s
  refine Calls.spliced_cons (thn (ha pins s σ H _ I h) fun u s1 ⟨x, H1, I1, r1, q1⟩ => ?_)
  exact thn (hr pos pins s1 σ H1 _ I1 q1) fun us s2 ⟨xs, H2, I2, r2, q2⟩ => ⟨x :: xs, H2, I2, .cons r1 r2, q2⟩

end

/-! ### what a def promises -/
/-- a def's promise: the bound arguments in the parameters' order, the heap, the wanted end, the wanted exception -/
abbrev Sp := List V → Hp → VK → XK → Prop
/-- how an exception lies behind a call (file 08 gives it): the callers' frames, abstract heap and state ahead of the call, the wish, the exception, the state -/
abbrev CXT := List Env → Hp → Shared → XK → Value → Shared → Prop

/-- the state at a call -/
structure Env0 (P : Program) (w : World) (K : PySem.W.Frag) (mg : Str → Option Value) (base : Heap) (A : Around) (outer : List Env) (s : Shared) (H : Hp) : Prop where
  frames : A.frames = some outer
  mod : Mod K mg base
  bs : ∀ b o, base.get? b = some o → s.heap.get? b = some o ∧ H b = none
  bsz : base.objs.size ≤ s.heap.objs.size
  funs : s.heap.FunFrames base outer
  frf : ∀ b ∈ frs outer, H b = none
  hok : HOk P w H s.heap
  bare : AllBare s.gens
/-- a call's end -/
def CE (outer : List Env) (P : Program) (w : World) (H : Hp) (s : Shared) (Q : VK) (u : Value) (s' : Shared) : Prop :=
  ∃ v H', s'.os = s.os ∧ AllBare s'.gens ∧ Un (frs outer) [] H H' s.heap s'.heap ∧ HOk P w H' s'.heap ∧ RelV v u ∧ Q v H'
def CR (CX : CXT) (outer : List Env) (P : Program) (w : World) (H : Hp) (s : Shared) (Q : VK) (E : XK) (r : Result) (s' : Shared) : Prop :=
  match r with
  | .ok (.ret u) => CE outer P w H s Q u s'
  | .ok _ => False
  | .error e => CX outer H s E e s'
structure FnOk (P : Program) (w : World) (K : PySem.W.Frag) (mg : Str → Option Value) (base : Heap) (CX : CXT) (k : Nat) (f : Addr) (fd : FuncData) (ps : List Str) (sp : Sp) : Prop where
  len : ∀ vs H Q E, sp vs H Q E → vs.length = ps.length
  run : ∀ (A : Around) (outer : List Env) (s : Shared) (H : Hp) (args : Args) (us : List Value) (vs : List V) (Q : VK) (E : XK), Room k A → Env0 P w K mg base A outer s H → BindsTo s fd args (ps.zip us) → Vals vs us → sp vs H Q E →
    codeAny (model P w) A (.call (.ref f) args) (CR CX outer P w H s Q E) s
theorem FnOk.mono {P : Program} {w : World} {K : PySem.W.Frag} {mg : Str → Option Value} {base : Heap} {CX : CXT} {j k : Nat} {f : Addr} {fd : FuncData} {ps : List Str} {sp : Sp} (F : FnOk P w K mg base CX j f fd ps sp) (h : j ≤ k) :
    FnOk P w K mg base CX k f fd ps sp := ⟨F.len, fun A outer s H args us vs Q E hr => F.run A outer s H args us vs Q E (hr.mono h)⟩
theorem Env0.make {P : Program} {w : World} {K : PySem.W.Frag} {mg : Str → Option Value} {base : Heap} {A : Around} {outer : List Env} {s : Shared} {H : Hp} (e : Env0 P w K mg base A outer s H) (C : Addr) (us : List Value) (kw : List (Str × Value)) :
    Env0 P w K mg base (A.under (.builtin "type.__call__" ⟨.ref C :: us, kw⟩)) outer s H := ⟨by first | exact e.frames | (simpa [Around.under, Code.envs, Code.isFrame, pushEnvs] using e.frames), e.mod, e.bs, e.bsz, e.funs, e.frf, e.hok, e.bare⟩
theorem Env0.in1 {P : Program} {w : World} {K : PySem.W.Frag} {mg : Str → Option Value} {base : Heap} {A : Around} {outer : List Env} {s : Shared} {H : Hp} (e : Env0 P w K mg base A outer s H) :
    Env0 P w K mg base A.in1 outer s H := ⟨e.frames, e.mod, e.bs, e.bsz, e.funs, e.frf, e.hok, e.bare⟩

section
variable {X : Cx} {pins : List (Addr × Obj)} {σ : St} {H : Hp} {s s' : Shared}
/-- from a body: what a callee wants -/
theorem Inv.env0 (I : Inv X pins σ H s) : Env0 X.prog X.w X.K X.mg X.base X.A X.stack s H :=
  ⟨I.ok.frames, I.ok.mod, I.bs, Nat.le_trans I.ok.bsz I.sz, I.stack, I.stkFree, I.hok, I.bare⟩
/-- behind a call -/
theorem Inv.after {Q : VK} {u : Value} (I : Inv X pins σ H s) (h : CE X.stack X.prog X.w H s Q u s') : EP X pins σ Q u s' := by
  obtain ⟨v, H', os, bare, un, hok, r, q⟩ := h
  obtain ⟨hh, g, d, t, os'⟩ := s'
  obtain rfl : os' = s.os := os
  exact ⟨v, H', I.call (h' := hh) (g' := g) (d' := d) (t' := t) (ch := []) un hok bare (fun b z => absurd z (by simp)), r, q⟩
end

/-! ### calls -/
/-- f(..): the written arguments, then the defaults dvs; E: what is wanted of an exception -/
def tCall (sp : Sp) (dvs : List V) (E : XK) (t : TA) : TE := fun σ H Q => t σ H fun vs H1 => sp (vs ++ dvs) H1 Q E
/-- o.m(..) of an instance of the class at C -/
def tMeth (C : Addr) (m : Str) (sp : Sp) (dvs : List V) (E : XK) (ta : TE) (t : TA) : TE := fun σ H Q => ta σ H fun x H1 => ∃ a dx fs, x = .ref a ∧ H1 a = some (.ins C dx fs) ∧ fs.lookup m = none ∧
  t σ H1 fun vs H2 => sp (x :: (vs ++ dvs)) H2 Q E
/-- C(..): a new instance and its dict, then __init__ -/
def tMake (C : Addr) (sp : Sp) (dvs : List V) (E : XK) (t : TA) : TE := fun σ H Q => t σ H fun vs H1 => ∀ x dx, H1 x = none → H1 dx = none → dx ≠ x →
  sp (.ref x :: (vs ++ dvs)) (upd (upd H1 dx (.own x)) x (.ins C dx [])) (fun v H2 => v = .non ∧ Q (.ref x) H2) E

/-- how the parameters are bound: us the positional arguments, kw the keywords' values by name, ds the defaults that fill up -/
def Binds (K : PySem.W.Frag) (fd : FuncData) (ps : List Str) (ds : List Value) : Prop :=
  ∀ (s : Shared) (us : List Value), K.In s.heap → (us ++ ds).length = ps.length → BindsTo s fd ⟨us, []⟩ (ps.zip (us ++ ds))
/-- every parameter is given -/
theorem Binds.all {K : PySem.W.Frag} {fd : FuncData} {ps : List Str} (h : ∀ us : List Value, us.length = ps.length → bindArgs fd ⟨us, []⟩ = pure (ps.zip us)) : Binds K fd ps [] := fun s us _ hl => by
  rw [List.append_nil] at hl ⊢
  exact .of_eq (h us hl)

/-- an exception of a callee reaches what this body wants of exceptions -/
def Passes (CX : CXT) (X : Cx) (E : XK) : Prop := ∀ (pins : List (Addr × Obj)) (σ : St) (H : Hp) (s : Shared) (e : Value) (s' : Shared), Inv X pins σ H s → CX X.stack H s E e s' → X.xe e s'

section
variable {X : Cx} {CX : CXT} {k : Nat} {f C : Addr} {fd : FuncData} {ps : List Str} {sp : Sp} {dvs : List V} {ds : List Value} {E : XK} {x m : Str} {p pos apos : Pos} {e o : Expr} {es : List Expr} {ta : TE} {t : TA}

/-- the callee runs -/
theorem run_fn {pins : List (Addr × Obj)} {σ : St} {H : Hp} {s : Shared} {Q : VK} {us : List Value} {vs : List V} (F : FnOk X.prog X.w X.K X.mg X.base CX k f fd ps sp) (hr : Room k X.A) (hb : Binds X.K fd ps ds) (hd : Vals dvs ds) (hx : Passes CX X E)
    (I : Inv X pins σ H s) (r : Vals vs us) (h : sp (vs ++ dvs) H Q E) : wpAny (model X.prog X.w) X.A (call (.ref f) us) (EP X pins σ Q) X.xe s := by
  have r2 : Vals (vs ++ dvs) (us ++ ds) := r.append hd
  have hl : (us ++ ds).length = ps.length := by rw [← r2.length]; exact F.len _ _ _ _ h
  refine wpAny_call (codeAny_mono (F.run X.A X.stack s H ⟨us, []⟩ (us ++ ds) (vs ++ dvs) Q E hr I.env0 (hb s us I.kIn hl) r2 h) fun r s' hq => ?_)
  cases r with
  | error e => exact hx pins σ H s e s' I hq
  | ok fl =>
    cases fl with
    | ret u => exact I.after hq
    | next => exact False.elim hq
    | brk => exact False.elim hq
    | cont => exact False.elim hq

theorem pe_call (F : FnOk X.prog X.w X.K X.mg X.base CX k f fd ps sp) (hr : Room k X.A) (hg : Gl X x) (hm : X.mg x = some (.ref f)) (hk : PySem.W.keepIn X.K (.ref f) = true) (hb : Binds X.K fd ps ds) (hd : Vals dvs ds) (hx : Passes CX X E)
    (ha : PA X (e :: es) t) (hdb : (x == ("__debug__" : Str)) = false := by decide) (he : starEach (e :: es) X.env = (false, eval e X.env) :: starEach es X.env := by rfl) (hpl : (backTo pos (starEach es X.env)).any (·.1) = false := by rfl) :
    PE X (.Call (.Name x p) (e :: es) [] pos) (tCall sp dvs E t) := by
  intro pins s σ H Q I h
  refine wpAny_Call_Name_kw (ld_glob I hg hm ?_ hdb)
  refine PySem.W.callWith_K (h₀ := X.base) I.ok.mod.kin hk (thn (ha pos pins s σ H _ I h) fun us s1 ⟨vs, H1, I1, r, q⟩ => ⟨I1.kIn, ?_⟩) he hpl
  exact run_fn F hr hb hd hx I1 r q
/-- o.m(e, ..) -/
theorem pe_meth {pl : Sem Bool} (he : PE X o ta) (c : Cls X.K C) (hm : Meth X.K C m f) (F : FnOk X.prog X.w X.K X.mg X.base CX k f fd ps sp) (hr : Room k X.A) (hb : Binds X.K fd ps ds) (hd : Vals dvs ds) (hx : Passes CX X E) (ha : PA X (e :: es) t)
    (hst : starEach (e :: es) X.env = (false, eval e X.env) :: starEach es X.env := by rfl) (hpl : (backTo pos (starEach es X.env)).any (·.1) = false := by rfl)
    (ht : eval (.Call (.Attribute o m apos) (e :: es) [] pos) X.env = (do
      let ov ← eval o X.env
      standAt apos.atName
      let (f, first) ← holding [ov] (getMethod ov m pl)
      callWith pos f first (backTo pos (starEach (e :: es) X.env)) (backToKw pos (keywordEach [] X.env))) := by rfl) :
    PE X (.Call (.Attribute o m apos) (e :: es) [] pos) (tMeth C m sp dvs E ta t) := by
  intro pins s σ H Q I h
  refine PySem.W.methodCall_KW (pl := pl) (thn (he pins s σ H _ I h) fun u s1 ⟨x, H1, I1, rx, a, dx, fs, ex, ea, l, q⟩ => ?_) ht
  subst ex
  obtain rfl : u = Value.ref a := rx
  refine getmeth_ok I1 ea c hm l ?_
  refine PySem.W.callWith_K (first := [.ref a]) (h₀ := X.base) I.ok.mod.kin hm.kp (thn (ha pos pins s1 σ H1 _ I1 q) fun us s2 ⟨vs, H2, I2, r, q2⟩ => ⟨I2.kIn, ?_⟩) hst hpl
  exact run_fn (us := .ref a :: us) (vs := .ref a :: vs) F hr hb hd hx I2 (.cons rfl r) q2
/-- o.m() -/
theorem pe_meth0 {pl : Sem Bool} (he : PE X o ta) (c : Cls X.K C) (hm : Meth X.K C m f) (F : FnOk X.prog X.w X.K X.mg X.base CX k f fd ps sp) (hr : Room k X.A) (hb : Binds X.K fd ps ds) (hd : Vals dvs ds) (hx : Passes CX X E)
    (ht : eval (.Call (.Attribute o m apos) [] [] pos) X.env = (do
      let ov ← eval o X.env
      standAt apos.atName
      let (f, first) ← holding [ov] (getMethod ov m pl)
      callWith pos f first (backTo pos (starEach [] X.env)) (backToKw pos (keywordEach [] X.env))) := by rfl) :
    PE X (.Call (.Attribute o m apos) [] [] pos) (tMeth C m sp dvs E ta tNil) := by
  intro pins s σ H Q I h
  refine PySem.W.methodCall_KW (pl := pl) (thn (he pins s σ H _ I h) fun u s1 ⟨x, H1, I1, rx, a, dx, fs, ex, ea, l, q⟩ => ?_) ht
  subst ex
  obtain rfl : u = Value.ref a := rx
  refine getmeth_ok I1 ea c hm l ?_
  exact PySem.W.callWith_K0 (first := [.ref a]) I1.kIn hm.kp (run_fn (us := [.ref a]) (vs := [.ref a]) F hr hb hd hx I1 (.cons rfl .nil) q)

/-- what a class must have to be made -/
structure Mk (K : PySem.W.Frag) (C f : Addr) : Prop where
  makes : PySem.W.makesIn K C = true
  init : PySem.W.findIn K (.ref C) "__init__" = some (some (.ref f))
  fn : PySem.W.isFn K (.ref f) = true
  kp : PySem.W.keepIn K (.ref C) = true

theorem run_make {pins : List (Addr × Obj)} {σ : St} {H : Hp} {s : Shared} {Q : VK} {us : List Value} {vs : List V} (M : Mk X.K C f) (F : FnOk X.prog X.w X.K X.mg X.base CX k f fd ps sp) (hr : Room (k + 1) X.A) (hb : Binds X.K fd ps ds) (hd : Vals dvs ds)
    (hx : Passes CX X E) (I : Inv X pins σ H s) (r : Vals vs us)
    (h : ∀ x dx, H x = none → H dx = none → dx ≠ x → sp (.ref x :: (vs ++ dvs)) (upd (upd H dx (.own x)) x (.ins C dx [])) (fun v H2 => v = .non ∧ Q (.ref x) H2) E) :
    wpAny (model X.prog X.w) X.A (call (.ref C) us) (EP X pins σ Q) X.xe s := by
  have hq := h (s.heap.objs.size + 1) s.heap.objs.size (I.hok.fresh (Nat.le_succ _)) (I.hok.fresh (Nat.le_refl _)) (Nat.ne_of_lt (Nat.lt_succ_self _))
  have I2 := Inv.made (C := C) I
  have r2 : Vals (V.ref (s.heap.objs.size + 1) :: (vs ++ dvs)) (Value.ref (s.heap.objs.size + 1) :: (us ++ ds)) := .cons rfl (r.append hd)
  have hl : (Value.ref (s.heap.objs.size + 1) :: us ++ ds).length = ps.length := by
    have e := r2.length
    rw [F.len _ _ _ _ hq] at e
    exact e.symm
  refine wpAny_call (make_map (f := f) I.kIn M.makes M.init (beq_iff_eq.mp M.fn) (codeAny_mono (F.run _ X.stack _ _ ⟨Value.ref (s.heap.objs.size + 1) :: us, []⟩ (Value.ref (s.heap.objs.size + 1) :: (us ++ ds)) _ _ E (hr.make C us [])
    (I2.env0.make C us []) (hb _ (Value.ref (s.heap.objs.size + 1) :: us) I2.kIn hl) r2 hq) fun r s' hq' => ?_))
  cases r with
  | error e => exact hx pins σ _ _ e s' I2 hq'
  | ok fl =>
    cases fl with
    | ret u =>
      obtain ⟨v, H', I3, rv, ev, q3⟩ := I2.after hq'
      subst ev
      exact ⟨rv, ⟨V.ref (s.heap.objs.size + 1), H', I3, rfl, q3⟩⟩
    | next => exact False.elim hq'
    | brk => exact False.elim hq'
    | cont => exact False.elim hq'
theorem pe_make (M : Mk X.K C f) (F : FnOk X.prog X.w X.K X.mg X.base CX k f fd ps sp) (hr : Room (k + 1) X.A) (hg : Gl X x) (hm : X.mg x = some (.ref C)) (hb : Binds X.K fd ps ds) (hd : Vals dvs ds) (hx : Passes CX X E)
    (ha : PA X (e :: es) t) (hdb : (x == ("__debug__" : Str)) = false := by decide) (he : starEach (e :: es) X.env = (false, eval e X.env) :: starEach es X.env := by rfl) (hpl : (backTo pos (starEach es X.env)).any (·.1) = false := by rfl) :
    PE X (.Call (.Name x p) (e :: es) [] pos) (tMake C sp dvs E t) := by
  intro pins s σ H Q I h
  refine wpAny_Call_Name_kw (ld_glob I hg hm ?_ hdb)
  refine PySem.W.callWith_K (h₀ := X.base) I.ok.mod.kin M.kp (thn (ha pos pins s σ H _ I h) fun us s1 ⟨vs, H1, I1, r, q⟩ => ⟨I1.kIn, ?_⟩) he hpl
  exact run_make M F hr hb hd hx I1 r q
end

/-! ### keywords -/
section
variable {X : Cx} {CX : CXT} {k : Nat} {f C : Addr} {fd : FuncData} {ps ks : List Str} {sp : Sp} {E : XK} {x m : Str} {p pos apos kpos : Pos} {e o : Expr} {es : List Expr} {kws : List Keyword} {te ta : TE} {t tk : TA} {nm : Option Str}
variable {g : List Value → List Value → List Value} {gV : List V → List V → List V}
end

/-! ### a def's body keeps its promise -/
/-- names: the parameters first -/
structure FnScope (N P : List Str) (sc : Scope) : Prop where
  kind : sc.kind = .function
  co : sc.isCoroutine = false
  gen : sc.isGenerator = false
  nd : N.Nodup
  pre : N.take P.length = P
  par : ∀ x ∈ P, sc.names.lookup x = some .local ∨ sc.names.lookup x = some .cell
  nofree : ∀ y ∈ sc.names, y.2 ≠ .free

theorem bindL_out {kindOf : Str → Option NameKind} {x : Str} : ∀ {binds : List (Str × Value)} {m : Str → Option Value}, (∀ v, (x, v) ∉ binds) → bindL kindOf binds m x = m x
  | [], _, _ => rfl
  | (n, v) :: r, m, h => by
    unfold bindL
    rw [bindL_out fun w hw => h w (List.mem_cons_of_mem _ hw)]
    split
    · have : x ≠ n := by rintro rfl; exact h v List.mem_cons_self
      simp [this]
    · rfl
theorem bindC_out {kindOf : Str → Option NameKind} {x : Str} : ∀ {binds : List (Str × Value)} {m : Str → Option Value}, (∀ v, (x, v) ∉ binds) → bindC kindOf binds m x = m x
  | [], _, _ => rfl
  | (n, v) :: r, m, h => by
    unfold bindC
    rw [bindC_out fun w hw => h w (List.mem_cons_of_mem _ hw)]
    split
    · rfl
    · have : x ≠ n := by rintro rfl; exact h v List.mem_cons_self
      simp [this]
theorem bindL_get {kindOf : Str → Option NameKind} {x : Str} {v : Value} : ∀ {P : List Str} {vs : List Value} {i : Nat} {m : Str → Option Value}, P.Nodup → P[i]? = some x → vs[i]? = some v → kindOf x = some .local →
    bindL kindOf (P.zip vs) m x = some v
  | [], _, _, _, _, h, _, _ => by simp at h
  | _ :: _, [], _, _, _, _, h, _ => by simp at h
  | p :: P, w :: vs, 0, m, nd, h1, h2, hk => by
    simp at h1 h2; subst h1; subst h2
    show bindL kindOf ((p, w) :: P.zip vs) m p = _
    unfold bindL
    rw [bindL_out fun v hv => (List.nodup_cons.mp nd).1 (List.of_mem_zip hv).1, if_pos hk]
    simp
  | p :: P, w :: vs, i + 1, m, nd, h1, h2, hk => by
    show bindL kindOf ((p, w) :: P.zip vs) m x = _
    unfold bindL
    exact bindL_get (i := i) (List.nodup_cons.mp nd).2 (by simpa using h1) (by simpa using h2) hk
theorem bindC_get {kindOf : Str → Option NameKind} {x : Str} {v : Value} : ∀ {P : List Str} {vs : List Value} {i : Nat} {m : Str → Option Value}, P.Nodup → P[i]? = some x → vs[i]? = some v → kindOf x ≠ some .local →
    bindC kindOf (P.zip vs) m x = some v
  | [], _, _, _, _, h, _, _ => by simp at h
  | _ :: _, [], _, _, _, _, h, _ => by simp at h
  | p :: P, w :: vs, 0, m, nd, h1, h2, hk => by
    simp at h1 h2; subst h1; subst h2
    show bindC kindOf ((p, w) :: P.zip vs) m p = _
    unfold bindC
    rw [bindC_out fun v hv => (List.nodup_cons.mp nd).1 (List.of_mem_zip hv).1, if_neg hk]
    simp
  | p :: P, w :: vs, i + 1, m, nd, h1, h2, hk => by
    show bindC kindOf ((p, w) :: P.zip vs) m x = _
    unfold bindC
    exact bindC_get (i := i) (List.nodup_cons.mp nd).2 (by simpa using h1) (by simpa using h2) hk

/-- the names' values at the entry -/
def start (N : List Str) (vs : List V) : St := vs.map some ++ List.replicate (N.length - vs.length) none

/-- the context of a def's body, at its entry; an exception leaves the frame, then lies as CX says -/
def cxOf (CX : CXT) (P : Program) (w : World) (K : PySem.W.Frag) (mg : Str → Option Value) (base : Heap) (N : List Str) (qual : Str) (scope : Scope) (f : Addr) (cd : Value) (A : Around) (outer : List Env) (s : Shared) (H : Hp) (E : XK) : Cx where
  prog := P
  w := w
  K := K
  mg := mg
  base := base
  A := A.deeper (envOfC qual scope s.heap.objs.size f cd)
  N := N
  s_0 := s
  H_0 := H
  env := envOfC qual scope s.heap.objs.size f cd
  outer := outer
  stack := envOfC qual scope s.heap.objs.size f cd :: outer
  ex := []
  calm := true
  fn := fun _ => true
  pn := []
  xe := fun e s' => wpAny (model P w) (A.deeper (envOfC qual scope s.heap.objs.size f cd)) (leaving (envOfC qual scope s.heap.objs.size f cd) e) (fun _ s'' => CX outer H s E e s'') (fun e' s'' => CX outer H s E e' s'') s'

theorem cell_has {sc : Scope} {n : Nat} {x : Str} (h : sc.names.lookup x = some .cell) : ∃ c, (cellsFrom n sc.names []).lookup x = some c := by
  have q := PySem.W.cellsFrom_some sc.names n [] (.inl h)
  exact Option.isSome_iff_exists.mp q

theorem inv_start {CX : CXT} {P : Program} {w : World} {K : PySem.W.Frag} {mg : Str → Option Value} {base : Heap} {N ps : List Str} {qual : Str} {scope : Scope} {f : Addr} {cd : Value} {A : Around} {outer : List Env} {s s1 : Shared} {H : Hp} {E : XK} {us : List Value} {vs : List V}
    (S : FnScope N ps scope) (hd : A.handled = none) (e0 : Env0 P w K mg base A outer s H) (hl : vs.length = ps.length) (r : Vals vs us)
    (x : InCallC s s.heap.objs.size (bindL (envOfC qual scope s.heap.objs.size f cd).kindOf (ps.zip us) fun _ => none) (cellsFrom (s.heap.objs.size + 1) scope.names []) (bindC (envOfC qual scope s.heap.objs.size f cd).kindOf (ps.zip us) fun _ => none) s1) :
    Inv (cxOf CX P w K mg base N qual scope f cd A outer s H E) [] (start N vs) H s1 := by
  have hpl : ps.length ≤ N.length := by have := congrArg List.length S.pre; rw [List.length_take] at this; omega
  obtain ⟨h1, tk, rfl, hk⟩ := x.done
  have noA : ∀ b : Addr, b ∉ (cxOf CX P w K mg base N qual scope f cd A outer s H E).ex := fun b z => absurd (show b ∈ ([] : List Addr) from z) (by simp)
  refine ⟨⟨e0.mod, S.kind, rfl, rfl, Nat.le_refl _, fun y z c h1 h2 => ?_, fun y hy => ?_, fun y c _ h => ?_, fun _ => hd, Around.frames_deeper e0.frames, .inr ⟨rfl, rfl⟩, fun b z => absurd z (noA b), e0.bs, e0.bsz, fun b _ _ => noA b, fun b z => absurd z (noA b), e0.funs, e0.frf⟩,
    rfl, e0.bare, Un.kept hk, ⟨_, x.toInCall.ns, fun i y v h1 h2 h3 => ?_⟩, fun y c h => ⟨_, x.cell y c h⟩, e0.hok.fresh (Nat.le_refl _), fun y c h => ?_, fun p hp => absurd (show p ∈ ([] : List (Addr × Obj)) from hp) (by simp), e0.hok.kept hk, ?_⟩
  · exact name_of_addr x.apart (PySem.mem_of_lookup h1) (PySem.mem_of_lookup h2)
  · have hy : scope.names.lookup y = some .cell ∨ scope.names.lookup y = some .free := hy
    rcases hy with hy | hy
    · exact cell_has hy
    · exact absurd rfl (S.nofree _ (PySem.mem_of_lookup hy))
  · exact Nat.le_of_lt (x.above y c (PySem.mem_of_lookup h))
  · have hi : i < vs.length := by
      unfold start at h2
      by_cases hi : i < vs.length
      · exact hi
      · rw [List.getElem?_append_right (by simpa using hi)] at h2
        rw [List.getElem?_replicate] at h2
        split at h2 <;> cases h2
    have ha : vs[i]? = some v := by
      unfold start at h2
      rw [List.getElem?_append_left (by simpa using hi), List.getElem?_map] at h2
      cases e : vs[i]? with
      | none => rw [e] at h2; cases h2
      | some a => rw [e] at h2; cases h2; rfl
    obtain ⟨u, hu, rv⟩ := r.get ha
    have hp : ps[i]? = some y := by
      rw [← S.pre, List.getElem?_take_of_lt (by omega)]; exact h1
    have ndP : ps.Nodup := by rw [← S.pre]; exact S.nd.sublist (List.take_sublist _ _)
    refine ⟨u, rv, ?_⟩
    rcases S.par y (List.mem_of_getElem? hp) with k | k
    · exact .inl ⟨k, bindL_get ndP hp hu k⟩
    · obtain ⟨c, e⟩ := cell_has (n := s.heap.objs.size + 1) k
      refine .inr ⟨.inl k, c, e, ?_⟩
      have q := x.cell y c e
      rw [bindC_get ndP hp hu (by show scope.names.lookup y ≠ _; rw [k]; decide)] at q
      exact q
  · exact e0.hok.fresh (Nat.le_of_lt (x.above y c (PySem.mem_of_lookup h)))
  · unfold start
    show _ = N.length
    rw [List.length_append, List.length_map, List.length_replicate]
    omega

/-- THE RULE: a def (or a method) of the text, by its body. The body's reading t is chosen for each entry; it is run at the parameters' values -/
theorem fn_of {CX : CXT} {P : Program} {w : World} {K : PySem.W.Frag} {mg : Str → Option Value} {base : Heap} {k : Nat} {f : Addr} {name qual : Str} {params : Arguments} {body : List Stmt} {scope : Scope} {dV kV doc pm cdv ct oc : Value} {an od : Option Addr}
    {osl : Array (Option Value)} {N ps : List Str} {sp : Sp} (lk : K.lookup f = some ⟨oc, od, .func (PySem.W.fnOf name qual params body scope dV kV doc pm an cdv ct), osl⟩) (hcd : PySem.W.codeIn K cdv qual = true) (S : FnScope N ps scope)
    (len : ∀ vs H Q E, sp vs H Q E → vs.length = ps.length)
    (hbody : ∀ (A : Around) (outer : List Env) (s : Shared) (H : Hp) (vs : List V) (Q : VK) (E : XK), Room k (A.deeper (envOfC qual scope s.heap.objs.size f cdv)) → sp vs H Q E →
      ∃ t, PSs (cxOf CX P w K mg base N qual scope f cdv A outer s H E) body t ∧ t { nx := fun _ H' => Q .non H', rt := Q } (start N vs) H) :
    FnOk P w K mg base CX (k + 1) f (PySem.W.fnOf name qual params body scope dV kV doc pm an cdv ct) ps sp := by
  refine ⟨len, fun A outer s H args us vs Q E hr e0 hb r hsp => ?_⟩
  have hl := len _ _ _ _ hsp
  have KX : K.In s.heap := e0.mod.kin.keeps fun b o e => (e0.bs b o e).1
  have lim : s.heap.NoLimit := e0.mod.nolimit.keeps fun b o e => (e0.bs b o e).1
  have hkind : ∀ y ∈ ps.zip us, scope.names.lookup y.1 = some .local ∨ (scope.names.lookup y.1 = some .cell ∧ ((cellsFrom (s.heap.objs.size + 1) scope.names []).lookup y.1).isSome = true) := fun ⟨n, v⟩ hy => by
    rcases S.par n (List.of_mem_zip hy).1 with q | q
    · exact .inl q
    · exact .inr ⟨q, PySem.W.cellsFrom_some _ _ _ (.inl q)⟩
  refine codeAny_call_function hr.depth (KX _ _ lk) rfl S.co S.gen rfl (PySem.W.codeRec_of KX hcd) (hb _ _ _ _ ?_)
  refine wpAny_newFunctionEnv_cells S.kind hkind fun env he s1 x => ?_
  subst he
  refine ⟨lim.keeps x.toInCall.keep, codeAny_func ?_⟩
  obtain ⟨t, ht, hq⟩ := hbody A outer s H vs Q E (hr.deeper _) hsp
  have I : Inv (cxOf CX P w K mg base N qual scope f cdv A outer s H E) [] (start N vs) H s1 := inv_start S hr.hd e0 hl r x
  refine wpAny_mono (ht [] s1 (start N vs) H _ I hq) (fun fl s' hs => ?_) fun e s' hs => hs
  have fin : ∀ {σ' : St} {H' : Hp} {v : V} {u : Value}, Inv (cxOf CX P w K mg base N qual scope f cdv A outer s H E) [] σ' H' s' → RelV v u → Q v H' → CE outer P w H s Q u s' :=
    fun {σ' H' v u} J rv q => ⟨v, H', J.os, J.bare, J.base, J.hok, rv, q⟩
  cases fl with
  | ret u =>
    obtain ⟨v, σ', H', J, rv, q⟩ := hs
    exact fin J rv q
  | next =>
    obtain ⟨σ', H', J, q⟩ := hs
    exact fin (v := V.non) (u := Value.none) J rfl q
  | brk =>
    obtain ⟨_, _, _, q⟩ := hs
    exact False.elim q
  | cont =>
    obtain ⟨_, _, _, q⟩ := hs
    exact False.elim q
end L2

namespace L2
open PySem PySem.Spec PyProof.Rows
section
variable {X : Cx} {x : Str} {p pos : Pos} {e : Expr} {es : List Expr} {t : TA} {id T : String} {r : List V → Hp → VK → Prop}

def tCB (r : List V → Hp → VK → Prop) (t : TA) : TE := fun σ H Q => t σ H fun vs H1 => r vs H1 Q
/-- f(e, ..), f a built-in function -/
theorem pe_callB (hc : CallR X (.builtin id) r) (hg : Gl X x) (hm : X.mg x = none) (hv : bootBuiltins x = some (.builtin id)) (ha : PA X (e :: es) t) (hn : x ≠ "__name__" := by decide) (hdb : (x == ("__debug__" : Str)) = false := by decide)
    (he : starEach (e :: es) X.env = (false, eval e X.env) :: starEach es X.env := by rfl) (hpl : (backTo pos (starEach es X.env)).any (·.1) = false := by rfl) : PE X (.Call (.Name x p) (e :: es) [] pos) (tCB r t) := by
  intro pins s σ H Q I h
  refine wpAny_Call_Name_kw (ld_blt I hg hm hv ?_ hn hdb)
  exact PyProof.Rows.callWith_builtin1 (thn (ha pos pins s σ H _ I h) fun us s1 ⟨vs, H1, I1, r1, q1⟩ => hc pins s1 σ H1 vs us Q I1 r1 q1) he hpl
/-- T(e, ..), T a built-in type -/
theorem pe_callTy (hc : CallR X (.type T) r) (hg : Gl X x) (hm : X.mg x = none) (hv : bootBuiltins x = some (.type T)) (ha : PA X (e :: es) t) (hn : x ≠ "__name__" := by decide) (hdb : (x == ("__debug__" : Str)) = false := by decide)
    (he : starEach (e :: es) X.env = (false, eval e X.env) :: starEach es X.env := by rfl) (hpl : (backTo pos (starEach es X.env)).any (·.1) = false := by rfl) : PE X (.Call (.Name x p) (e :: es) [] pos) (tCB r t) := by
  intro pins s σ H Q I h
  refine wpAny_Call_Name_kw (ld_blt I hg hm hv ?_ hn hdb)
  exact PyProof.Rows.callWith_type1 (thn (ha pos pins s σ H _ I h) fun us s1 ⟨vs, H1, I1, r1, q1⟩ => hc pins s1 σ H1 vs us Q I1 r1 q1) he hpl
end
end L2

namespace HT
open PySem PyProof.Rows

/-- t < u of tuples of ints -/
def lexLt : List Int → List Int → Bool
  | [], [] => false
  | [], _ :: _ => true
  | _ :: _, [] => false
  | x :: xs, y :: ys => if x = y then lexLt xs ys else decide (x < y)
theorem lexLt_cons (x y : Int) (xs ys : List Int) : lexLt (x :: xs) (y :: ys) = if x = y then lexLt xs ys else decide (x < y) := rfl
theorem lexLt_nil_nil : lexLt [] [] = false := rfl
theorem lexLt_nil_cons (y : Int) (ys : List Int) : lexLt [] (y :: ys) = true := rfl
theorem lexLt_cons_nil (x : Int) (xs : List Int) : lexLt (x :: xs) [] = false := rfl

theorem eqAt_int (A : Around) (s : Shared) (a : Int) (t : Tok) (c : Int) (u : Tok) : ∃ e, SeqAt.EqAt A s (.int a t) (.int c u) e ∧ (e = true ↔ a = c) :=
  ⟨(a == c), SeqAt.EqAt.int_int a t c u, by simp⟩
theorem rcLt_int (A : Around) (s : Shared) (a : Int) (t : Tok) (c : Int) (u : Tok) (prog : Program) (w : World) (E : Value → Shared → Prop) (Q : Value → Shared → Prop) (h : Q (.bool (decide (a < c))) s) :
    wpAny (model prog w) A (richCompare .Lt (.int a t) (.int c u)) Q E s :=
  (PyProof.Rows.lt_int h : wpAny (model prog w) A (compareOp .Lt (.int a t) (.int c u)) Q E s)

section
open PySem.SeqAt
open PySem.AutoSeq1 (wpAny_loadPart')
open PySem.MeetsSeq PySem.MeetsSeq2 PySem.MeetsSeq3

theorem tuple_lt_ints (l b : Addr) (items items2 : Array Value) (n n2 : Nat) (dd dd2 : Option Addr) (sl sl2 : Array (Option Value)) (ns ms : List Int) (hi : IntsAre items.toList ns) (hj : IntsAre items2.toList ms) :
    Meets (Builtin.«tuple.__lt__» ⟨[.ref l, .ref b], []⟩)
      (fun _ R s => s.heap.get? l = some { cls := .type "tuple", dict := dd, data := .seq items n, slots := sl } ∧ s.heap.get? b = some { cls := .type "tuple", dict := dd2, data := .seq items2 n2, slots := sl2 } ∧
        R (.ok (.ret (.bool (lexLt ns ms)))) s) :=
  .of_wp fun prog w A R s h => by
    obtain ⟨hp, g, d, tk, os⟩ := s; obtain ⟨hl, hb, h⟩ := h
    have f2 := AutoSeq1.sub_tuple_tuple
    have z1 : items.size = ns.length := by rw [← hi.length]; simp
    have z2 : items2.size = ms.length := by rw [← hj.length]; simp
    wp_walk using wpAny_loadPart' hl, wpAny_loadPart' hb, wpAny_forIn_list _ (fun rest b s' => b.1 = none ∧ s' = ⟨hp, g, d, tk, os⟩ ∧ ∃ (vs ws : List Value) (ns' ms' : List Int), rest = vs.zip ws ∧
      IntsAre vs ns' ∧ IntsAre ws ms' ∧ ns'.length + items2.size = ms'.length + items.size ∧ R (.ok (.ret (.bool (lexLt ns' ms')))) ⟨hp, g, d, tk, os⟩) _
    case turn =>
      rintro ⟨y, x⟩ rest b s' ⟨hb', rfl, vs, ws, ns', ms', hz, hvi, hwi, hlen, hR⟩
      cases hvi with
      | nil => rw [List.zip_nil_left] at hz; cases hz
      | cons a t hvi' =>
        cases hwi with
        | nil => rw [List.zip_nil_right] at hz; cases hz
        | cons c u hwi' =>
          rw [List.zip_cons_cons] at hz
          injection hz with hyx hrest
          injection hyx with hy hx
          subst hy hx
          rw [lexLt_cons] at hR
          simp only [List.length_cons] at hlen
          obtain ⟨e, he, hiff⟩ := eqAt_int A.in1 ⟨hp, g, d, tk, os⟩ a t c u
          refine wpAny_bind (he prog w _ _ ?_)
          cases e with
          | true =>
            rw [if_pos (hiff.mp rfl)] at hR
            wp_walk
            exact ⟨rfl, rfl, _, _, _, _, hrest, hvi', hwi', by omega, hR⟩
          | false =>
            rw [if_neg (fun q => absurd (hiff.mpr q) Bool.false_ne_true)] at hR
            have hri := rcLt_int A.in1 ⟨hp, g, d, tk, os⟩ a t c u prog w
            wp_walk using hri
            exact ⟨_, rfl, by simpa using hR⟩
    case fin =>
      rintro ⟨b1, b2⟩ s' ⟨hb', rfl, vs, ws, ns', ms', hz, hvi, hwi, hlen, hR⟩
      simp only at hb'
      subst hb'
      have hv : lexLt ns' ms' = decide (items.size < items2.size) := by
        cases hvi with
        | nil =>
          cases hwi with
          | nil =>
            simp only [List.length_nil] at hlen
            rw [lexLt_nil_nil]
            exact (decide_eq_false (by omega)).symm
          | cons c u hw =>
            simp only [List.length_nil, List.length_cons] at hlen
            rw [lexLt_nil_cons]
            exact (decide_eq_true (by omega)).symm
        | cons a t hv =>
          cases hwi with
          | nil =>
            simp only [List.length_nil, List.length_cons] at hlen
            rw [lexLt_cons_nil]
            exact (decide_eq_false (by omega)).symm
          | cons c u hw =>
            rw [List.zip_cons_cons] at hz
            cases hz
      rw [hv] at hR
      wp_walk
      exact ⟨_, rfl, by simpa [Builtin.Tuple.tupleCompareSizes] using hR⟩
    case h =>
      exact ⟨rfl, rfl, items.toList, items2.toList, ns, ms, rfl, hi, hj, by omega, h⟩
end

section
variable {prog : Program} {w : World} {A : Around} {E : Value → Shared → Prop} {s : Shared}

theorem lt_tupInts {l b : Addr} {items items2 : Array Value} {ns ms : List Int} {Q : Value → Shared → Prop} (hl : IsTup s.heap l items) (hb : IsTup s.heap b items2) (hi : IntsAre items.toList ns) (hj : IntsAre items2.toList ms)
    (hu : A.units < cLine) (h : Q (.bool (lexLt ns ms)) s) : wpAny (model prog w) A (compareOp .Lt (.ref l) (.ref b)) Q E s := by
  obtain ⟨⟨cls, dd, data, sl⟩, ho, hc, n, hd⟩ := id hl
  obtain ⟨⟨cls2, dd2, data2, sl2⟩, ho2, hc2, n2, hd2⟩ := id hb
  simp only at hc hd hc2 hd2
  subst hc hd hc2 hd2
  exact richCompare_meets_room (op := .Lt) ⟨_, ho, rfl⟩ ⟨_, ho2, rfl⟩ PySem.F.slot_tuple_lt PySem.F.entry_tuple_lt (PySem.F.args_tuple_lt_2 _ _) (tuple_lt_ints l b items items2 n n2 dd dd2 sl sl2 ns ms hi hj)
    ⟨ho, ho2, show Value.bool (lexLt ns ms) ≠ Value.notImplemented ∧ Q (.bool (lexLt ns ms)) s from ⟨(fun x => nomatch x), h⟩⟩ hu

/-- t + u, t not empty -/
theorem cat_tup {t b : Addr} {vs ws : List Value} {Q : Value → Shared → Prop} (ht : IsTup s.heap t vs.toArray) (hb : IsTup s.heap b ws.toArray) (hv : vs ≠ [])
    (h1 : ws = [] → Q (.ref t) s) (h2 : ws ≠ [] → Q (.ref s.heap.objs.size) { s with heap := s.heap.push { cls := .type "tuple", data := .seq (vs ++ ws).toArray } })
    (hsz : vs.length + ws.length ≤ sizeLine) : wpAny (model prog w) A (binaryOp .Add (.ref t) (.ref b)) Q E s := by
  obtain ⟨⟨cls, dd, data, sl⟩, ho, hc, n, hd⟩ := id ht
  obtain ⟨⟨cls2, dd2, data2, sl2⟩, ho2, hc2, n2, hd2⟩ := id hb
  simp only at hc hd hc2 hd2
  subst hc hd hc2 hd2
  have e : vs.toArray ++ ws.toArray = (vs ++ ws).toArray := by simp
  by_cases hw : ws = []
  · exact concat_meets ⟨_, ho, rfl⟩ ⟨_, ho2, rfl⟩ noFill_tuple_add seq_tuple_add PySem.F.slot_tuple_add PySem.F.entry_tuple_add (PySem.F.args_tuple_add_2 _ _)
      (tuple_addW1 t b vs.toArray ws.toArray n n2 dd dd2 sl sl2 (by simpa using hv) (by simp [hw])) ⟨ho, ho2, h1 hw⟩
  · refine concat_meets ⟨_, ho, rfl⟩ ⟨_, ho2, rfl⟩ noFill_tuple_add seq_tuple_add PySem.F.slot_tuple_add PySem.F.entry_tuple_add (PySem.F.args_tuple_add_2 _ _)
      (tuple_addW2 t b vs.toArray ws.toArray n n2 dd dd2 sl sl2 (by simpa using hv) (by simpa using hw) (by rw [List.size_toArray, List.size_toArray]; exact hsz)) ⟨ho, ho2, ?_⟩
    rw [e]
    exact h2 hw

/-! ### t[a:b], not the whole -/
/-- a slice's bound as a place among n (d where it is left out) -/
def sIx (n d : Nat) : Option Int → Nat
  | none => d
  | some v => if v < 0 then (v + (n : Int)).toNat else min v.toNat n
theorem sIx_none (n d : Nat) : sIx n d none = d := rfl
theorem sIx_nat (n d k : Nat) : sIx n d (some (k : Int)) = min k n := by
  show (if (k : Int) < 0 then ((k : Int) + (n : Int)).toNat else min (k : Int).toNat n) = min k n
  rw [if_neg (by omega), Int.toNat_natCast]
theorem sIx_le (n d : Nat) (hd : d ≤ n) (o : Option Int) : sIx n d o ≤ n := by
  cases o with
  | none => exact hd
  | some v =>
    show (if v < 0 then (v + (n : Int)).toNat else min v.toNat n) ≤ n
    by_cases hv : v < 0
    · rw [if_pos hv]; omega
    · rw [if_neg hv]; exact Nat.min_le_right _ _
theorem clip_eq (v : Int) (n d : Nat) : (if v < 0 then max (v + (n : Int)) 0 else min v (n : Int)) = ((sIx n d (some v) : Nat) : Int) := by
  show (if v < 0 then max (v + (n : Int)) 0 else min v (n : Int)) = (((if v < 0 then (v + (n : Int)).toNat else min v.toNat n) : Nat) : Int)
  by_cases hv : v < 0
  · simp only [if_pos hv]; omega
  · simp only [if_neg hv]; omega
theorem adjust_gen (lo hi : Option Int) (n : Nat) : Builtin.Slice.sliceAdjust lo hi 1 (n : Int) = (((sIx n 0 lo : Nat) : Int), ((sIx n n hi : Nat) : Int)) := by
  have h1 : ¬ ((1 : Int) < 0) := by omega
  unfold Builtin.Slice.sliceAdjust
  simp only [h1, if_false]
  refine Prod.ext ?_ ?_
  · cases lo with
    | none => rfl
    | some v => exact clip_eq v n 0
  · cases hi with
    | none => rfl
    | some v => exact clip_eq v n n
theorem places_gen (i j : Nat) : Builtin.Slice.slicePlaces (i : Int) (j : Int) 1 = j - i := by
  unfold Builtin.Slice.slicePlaces
  have h1 : (1 : Int) > 0 := by omega
  simp only [h1, if_true, Int.ediv_one]
  split <;> omega
theorem slicePart_ {v : Value} {o : Option Int} {Q : Option Int → Shared → Prop} (p : IsPart v o) (h : Q o s) : wpAny (model prog w) A (Builtin.Slice.slicePartIndex v) Q E s := by
  cases p with
  | none => exact slicePart_none h
  | int i t => exact slicePart_int h
theorem sliceApplied_gen {sl : Addr} {vl vu : Value} {lo hi : Option Int} {n : Nat} {Q : Int × Int × Nat → Shared → Prop} (hs : s.heap.IsSliceOf sl vl vu .none) (pl : IsPart vl lo) (pu : IsPart vu hi)
    (h : Q (((sIx n 0 lo : Nat) : Int), 1, sIx n n hi - sIx n 0 lo) s) : wpAny (model prog w) A (Builtin.Slice.sliceApplied (.ref sl) (pure (n : Int))) Q E s := by
  obtain ⟨os, hos, hcs, hds⟩ := id hs
  unfold Builtin.Slice.sliceApplied Builtin.Slice.sliceFields
  refine wpAny_bind (wpAny_bind (wpAny_field hos hds (x := vl) rfl (wpAny_bind (wpAny_field hos hds (x := vu) rfl (wpAny_bind (wpAny_field hos hds (x := .none) rfl (wpAny_pure ?_)))))))
  refine wpAny_bind (slicePart_none ?_)
  show wpAny _ _ (if ((1 : Int) == 0) = true then _ else _) _ _ s
  rw [if_neg (by decide)]
  refine wpAny_bind (slicePart_ pl (wpAny_bind (slicePart_ pu (wpAny_bind (wpAny_pure ?_)))))
  show wpAny _ _ (match Builtin.Slice.sliceAdjust lo hi 1 (n : Int) with | (lo, hi) => pure (lo, (1 : Int), Builtin.Slice.slicePlaces lo hi 1)) _ _ s
  rw [adjust_gen lo hi n]
  show wpAny _ _ (pure (((sIx n 0 lo : Nat) : Int), (1 : Int), Builtin.Slice.slicePlaces ((sIx n 0 lo : Nat) : Int) ((sIx n n hi : Nat) : Int) 1)) _ _ s
  rw [places_gen]
  exact wpAny_pure h
theorem pick_gen (xs : Array Value) (i k : Nat) : ((List.range k).filterMap fun (m : Nat) => xs[((i : Int) + (m : Int) * 1).toNat]?).toArray = ((xs.toList.drop i).take k).toArray := by
  have e : (fun (m : Nat) => xs[((i : Int) + (m : Int) * 1).toNat]?) = fun m => xs[i + m]? := by
    funext m
    have : ((i : Int) + (m : Int) * 1).toNat = i + m := by omega
    rw [this]
  rw [e]
  have := pick_run xs i k
  rw [List.filterMap_map] at this
  have e2 : ((fun x => xs[x]?) ∘ fun x => i + x) = fun m => xs[i + m]? := rfl
  rw [e2] at this
  rw [this]

theorem getItem_tuple_cut {t sl : Addr} {items : Array Value} {vl vu : Value} {lo hi : Option Int} {Q : Value → Shared → Prop} (ht : IsTup s.heap t items) (hs : s.heap.IsSliceOf sl vl vu .none) (pl : IsPart vl lo) (pu : IsPart vu hi)
    (hw : ¬ (sIx items.size 0 lo = 0 ∧ sIx items.size items.size hi = items.size))
    (h : Q (.ref s.heap.objs.size) { s with heap := s.heap.push { cls := .type "tuple", data := .seq ((items.toList.drop (sIx items.size 0 lo)).take (sIx items.size items.size hi - sIx items.size 0 lo)).toArray } })
    (hsz : items.size ≤ sizeLine) : wpAny (model prog w) A (getItem (.ref t) (.ref sl)) Q E s := by
  have htake : sizeOk (.seq ((items.toList.drop (sIx items.size 0 lo)).take (sIx items.size items.size hi - sIx items.size 0 lo)).toArray) := by
    show ((items.toList.drop (sIx items.size 0 lo)).take (sIx items.size items.size hi - sIx items.size 0 lo)).toArray.size ≤ sizeLine
    rw [List.size_toArray, List.length_take, List.length_drop, Array.length_toList]
    omega
  have hj : sIx items.size items.size hi ≤ items.size := sIx_le _ _ (Nat.le_refl _) hi
  obtain ⟨os, hos, hcs, hds⟩ := id hs
  have hTs : s.TypeIs (.ref sl) "slice" := ⟨os, hos, hcs⟩
  unfold getItem
  try with_reducible refine wpAny_holding ?_
  first | refine wpAny_bind (wpAny_pure ?_) | skip
  refine wpAny_bind (wpAny_sequenceKey ht.typeIs (by decide) ?_)
  refine wpAny_bind (wpAny_callSpecial?_slot (name := Str.ofString "__getitem__") ht.typeIs PyProof.Rows.slot_tuple_getitem
    (wpAny_call_entry PyProof.Rows.slot_tuple_getitem ht.typeIs entry_tuple_getitem ?_ (args_tuple_getitem _ _)))
  show wpAny _ _ (Builtin.Tuple.tupleItemsOf (.ref t) >>= _) _ _ s
  refine wpAny_bind (tupleItemsOf_ ht ?_)
  refine wpAny_bind (wpAny_typeOf hTs ?_)
  rw [if_pos (by decide)]
  refine wpAny_bind (sliceApplied_gen hs pl pu ?_)
  have hno : ¬ ((((sIx items.size 0 lo : Nat) : Int) == 0 && (1 : Int) == 1 && (sIx items.size items.size hi - sIx items.size 0 lo) == items.size) = true) := by
    intro q
    rw [Bool.and_eq_true, Bool.and_eq_true] at q
    have q1 : ((sIx items.size 0 lo : Nat) : Int) = 0 := eq_of_beq q.1.1
    have q2 : sIx items.size items.size hi - sIx items.size 0 lo = items.size := eq_of_beq q.2
    exact hw ⟨by omega, by omega⟩
  show wpAny _ _ (if (((sIx items.size 0 lo : Nat) : Int) == 0 && (1 : Int) == 1 && (sIx items.size items.size hi - sIx items.size 0 lo) == items.size) = true then _ else _) _ _ s
  rw [if_neg hno, pick_gen]
  first
    | exact wpAny_bind (m := Builtin.Tuple.tupleExact _) (wpAny_newObj_type (wpAny_pure ⟨_, rfl, wpAny_pure h⟩) htake)
    | exact wpAny_bind (m := Builtin.Tuple.tupleExact _) (wpAny_newObj_type (wpAny_bind (wpAny_pure (wpAny_pure ⟨_, rfl, wpAny_pure h⟩))) htake)
    | exact wpAny_bind (wpAny_bind (m := Builtin.Tuple.tupleExact _) (wpAny_newObj_type (wpAny_pure (wpAny_pure ⟨_, rfl, wpAny_pure h⟩)) htake))
    | exact wpAny_bind (wpAny_bind (m := Builtin.Tuple.tupleExact _) (wpAny_newObj_type (wpAny_pure ⟨_, rfl, wpAny_pure h⟩) htake))
end
end HT

namespace L2
open PySem PySem.Spec PyProof.Rows

/-! ### the parts of a slice -/
abbrev TO := St → Hp → (Option Int → Hp → Prop) → Prop
/-- a slice's part (left out, or an int) -/
def PO (X : Cx) (e : Option Expr) (t : TO) : Prop :=
  ∀ (pins : List (Addr × Obj)) (s : Shared) (σ : St) (H : Hp) (Q : Option Int → Hp → Prop), Inv X pins σ H s → t σ H Q →
    wpAny (model X.prog X.w) X.A (evalPart e X.env) (fun u s' => ∃ o H', Inv X pins σ H' s' ∧ IsPart u o ∧ Q o H') X.xe s
def tNoPart : TO := fun _ H Q => Q none H
def tPart (t : TE) : TO := fun σ H Q => t σ H fun x H1 => ∃ i, x = .int i ∧ Q (some i) H1

theorem intsAre_of {ns : List Int} : ∀ {us : List Value}, Vals (ns.map V.int) us → IntsAre us ns := by
  induction ns with
  | nil => intro us r; rw [List.map_nil] at r; cases r; exact .nil
  | cons n ns ih =>
    intro us r
    rw [List.map_cons] at r
    cases r with
    | cons r1 r2 =>
      obtain ⟨t, e⟩ := r1
      subst e
      exact .cons n t (ih r2)

section
variable {X : Cx} {e : Expr} {te : TE} {lo hi : Option Expr} {tl th : TO} {pos p2 : Pos}

theorem po_none : PO X none tNoPart := by
  intro pins s σ H Q I h
  rw [evalPart_none]
  exact wpAny_pure ⟨none, H, I, .none, h⟩
theorem po_some (h : PE X e te) : PO X (some e) (tPart te) := by
  intro pins s σ H Q I hw
  rw [evalPart_some]
  refine thn (h pins s σ H _ I hw) fun u s1 ⟨x, H1, I1, r1, q1⟩ => ?_
  obtain ⟨i, rfl, q⟩ := q1
  obtain ⟨t, rfl⟩ := r1
  exact ⟨some i, H1, I1, .int i t, q⟩

/-- what a slice of a value is, by values: the slice object stands at sl -/
def SlR (X : Cx) (r : V → Option Int → Option Int → Hp → VK → Prop) : Prop :=
  ∀ (pins : List (Addr × Obj)) (s : Shared) (σ : St) (H : Hp) (x : V) (v vl vu : Value) (lo hi : Option Int) (sl : Addr) (Q : VK), Inv X pins σ H s → RelV x v → s.heap.IsSliceOf sl vl vu .none → IsPart vl lo → IsPart vu hi → r x lo hi H Q →
    ∃ T id, typeLookup (.type T) "__getitem__" = pure (some (.builtin id)) ∧ s.TypeIs v T ∧ wpAny (model X.prog X.w) X.A (getItem v (.ref sl)) (EP X pins σ Q) X.xe s
theorem SlR.or {r r' : V → Option Int → Option Int → Hp → VK → Prop} (h : SlR X r) (h' : SlR X r') : SlR X (fun x lo hi H Q => r x lo hi H Q ∨ r' x lo hi H Q) := by
  intro pins s σ H x v vl vu lo hi sl Q I rx hs pl pu q
  rcases q with q | q
  · exact h pins s σ H x v vl vu lo hi sl Q I rx hs pl pu q
  · exact h' pins s σ H x v vl vu lo hi sl Q I rx hs pl pu q
def tSl (r : V → Option Int → Option Int → Hp → VK → Prop) (te : TE) (tl th : TO) : TE := fun σ H Q => te σ H fun x H1 => tl σ H1 fun l H2 => th σ H2 fun u H3 => r x l u H3 Q
/-- a[lo:hi], any a -/
theorem pe_slice {r : V → Option Int → Option Int → Hp → VK → Prop} (hr : SlR X r) (he : PE X e te) (hl : PO X lo tl) (hu : PO X hi th) : PE X (.Subscript e (.Slice lo hi none p2) pos) (tSl r te tl th) := by
  intro pins s σ H Q I h
  refine Subscript_ (thn (he pins s σ H _ I h) fun v s1 ⟨x, H1, I1, r1, q1⟩ => ?_)
  refine wpAny_Slice (thn (hl pins s1 σ H1 _ I1 q1) fun vl s2 ⟨l, H2, I2, pl, q2⟩ => thn (hu pins s2 σ H2 _ I2 q2) fun vu s3 ⟨u, H3, I3, pu, q3⟩ => ?_)
  rw [evalPart_none]
  refine wpAny_pure ?_
  have I4 : Inv X pins σ H3 { s3 with heap := s3.heap.push { cls := .type "slice", data := .fields #[vl, vu, .none] } } := I3.kept (t' := s3.toks) fun b ob q => Heap.get?_push_of_some _ q
  obtain ⟨T, id, hT, ht, hg⟩ := hr pins { s3 with heap := s3.heap.push { cls := .type "slice", data := .fields #[vl, vu, .none] } } σ H3 x v vl vu l u s3.heap.objs.size Q I4 r1 (Heap.IsSliceOf.new ..) pl pu q3
  show wpAny (model X.prog X.w) X.A (subscriptTail e (.Slice lo hi none p2) v (.ref s3.heap.objs.size)) (EP X pins σ Q) X.xe { s3 with heap := s3.heap.push { cls := .type "slice", data := .fields #[vl, vu, .none] } }
  exact tail_any (ops := [.ref s3.heap.objs.size, v]) ht hT hg (by with_unfolding_all rfl)

/-- the items of xs[lo:hi] -/
def cutV (xs : List V) (lo hi : Option Int) : List V := (xs.drop (HT.sIx xs.length 0 lo)).take (HT.sIx xs.length xs.length hi - HT.sIx xs.length 0 lo)
theorem cutV_length (xs : List V) (lo hi : Option Int) : (cutV xs lo hi).length ≤ xs.length := by
  unfold cutV
  rw [List.length_take, List.length_drop]
  omega
/-- t[lo:hi], not the whole of it (the whole would be t itself) -/
def rSlT (K : PySem.W.Frag) : V → Option Int → Option Int → Hp → VK → Prop := fun x lo hi H Q => ∃ a xs, x = .ref a ∧ SqT K H a xs ∧
  ¬ (HT.sIx xs.length 0 lo = 0 ∧ HT.sIx xs.length xs.length hi = xs.length) ∧ ∀ p, H p = none → Q (.ref p) (upd H p (.tup (cutV xs lo hi)))
theorem sl_tup : SlR X (rSlT X.K) := by
  intro pins s σ H x v vl vu lo hi sl Q I rx hs pl pu h
  obtain ⟨a, xs, rfl, hx, hw, q⟩ := h
  cases rx
  obtain ⟨its, r, ht, hz⟩ := I.tuple hx
  have hlen : its.toArray.size = xs.length := by rw [List.size_toArray]; exact r.length.symm
  refine ⟨"tuple", _, PyProof.Rows.slot_tuple_getitem.lookup, ht.typeIs, ?_⟩
  refine HT.getItem_tuple_cut ht hs pl pu (by rw [hlen]; exact hw) ?_ (by rw [hlen]; exact hz)
  rw [hlen]
  refine ⟨.ref s.heap.objs.size, _, I.laid (t' := s.toks) (o := .tup (cutV xs lo hi)) (fun b ob q => Heap.get?_push_of_some _ q) (Nat.le_refl _) ?_, rfl, q _ (I.hok.fresh (Nat.le_refl _))⟩
  exact ⟨Nat.le_trans (cutV_length xs lo hi) hz, _, (r.drop (HT.sIx xs.length 0 lo)).take (HT.sIx xs.length xs.length hi - HT.sIx xs.length 0 lo), IsTD.new _ _⟩

/-! ### t < u, t + u -/
def rLtT (K : PySem.W.Frag) : R2 := fun x y H Q => ∃ a b ns ms, x = .ref a ∧ y = .ref b ∧ SqT K H a (ns.map V.int) ∧ SqT K H b (ms.map V.int) ∧ Q (.bl (HT.lexLt ns ms)) H
theorem op_ltT (hu : X.A.units < cLine) : OpR X (compareOp .Lt) (rLtT X.K) := by
  intro pins s σ H x y v u Q I rx ry h
  obtain ⟨a, b, ns, ms, rfl, rfl, ha, hb, q⟩ := h
  cases rx
  cases ry
  obtain ⟨its, r1, p1, _⟩ := I.tuple ha
  obtain ⟨its2, r2, p2, _⟩ := I.tuple hb
  have i1 : IntsAre its.toArray.toList ns := intsAre_of r1
  have i2 : IntsAre its2.toArray.toList ms := intsAre_of r2
  exact HT.lt_tupInts p1 p2 i1 i2 hu ⟨.bl (HT.lexLt ns ms), H, I, rfl, q⟩
/-- t + u, t not empty: u empty gives t itself -/
def rCatT (K : PySem.W.Frag) : R2 := fun x y H Q => ∃ a b xs ys, x = .ref a ∧ y = .ref b ∧ SqT K H a xs ∧ SqT K H b ys ∧ xs ≠ [] ∧ xs.length + ys.length ≤ sizeLine ∧
  (ys = [] → Q (.ref a) H) ∧ (ys ≠ [] → ∀ p, H p = none → Q (.ref p) (upd H p (.tup (xs ++ ys))))
theorem Vals.nil_iff {xs : List V} {us : List Value} (r : Vals xs us) : us = [] ↔ xs = [] := by
  cases r with
  | nil => simp
  | cons _ _ => simp
theorem op_catT : OpR X (binaryOp .Add) (rCatT X.K) := by
  intro pins s σ H x y v u Q I rx ry h
  obtain ⟨a, b, xs, ys, rfl, rfl, ha, hb, hx, hz, q1, q2⟩ := h
  cases rx
  cases ry
  obtain ⟨its, r1, p1, _⟩ := I.tuple ha
  obtain ⟨its2, r2, p2, _⟩ := I.tuple hb
  refine HT.cat_tup p1 p2 (fun z => hx (r1.nil_iff.mp z)) (fun z => ⟨.ref a, H, I, rfl, q1 (r2.nil_iff.mp z)⟩) (fun z => ?_) (by rw [← r1.length, ← r2.length]; exact hz)
  refine ⟨.ref s.heap.objs.size, _, I.laid (t' := s.toks) (o := .tup (xs ++ ys)) (fun b ob q => Heap.get?_push_of_some _ q) (Nat.le_refl _) ?_, rfl, q2 (fun w => z (r2.nil_iff.mpr w)) _ (I.hok.fresh (Nat.le_refl _))⟩
  exact ⟨by rw [List.length_append]; exact hz, _, r1.append r2, IsTD.new _ _⟩
end
end L2

namespace L2
open PySem PySem.Spec PyProof.Rows

/-! ### places -/
/-- the place that an index of any sign means -/
def ixN (n : Nat) (i : Int) : Option Nat := if 0 ≤ i then (if i < n then some i.toNat else none) else if -(n : Int) ≤ i then some (i + n).toNat else none
def atI {α : Type} (xs : List α) (i : Int) : Option α := (ixN xs.length i).bind fun j => xs[j]?
theorem ixN_seq {n : Nat} {i : Int} {j : Nat} (h : ixN n i = some j) : seqIndex? i n = some j ∧ j < n ∧ -(n : Int) ≤ i ∧ i < n := by
  unfold ixN at h
  by_cases h0 : 0 ≤ i
  · rw [if_pos h0] at h
    by_cases h1 : i < n
    · rw [if_pos h1] at h
      have e : i.toNat = j := Option.some.inj h
      exact ⟨by rw [seqIndex_of h0 h1, e], by omega, by omega, h1⟩
    · rw [if_neg h1] at h; cases h
  · rw [if_neg h0] at h
    by_cases h1 : -(n : Int) ≤ i
    · rw [if_pos h1] at h
      have e : (i + n).toNat = j := Option.some.inj h
      exact ⟨by rw [seqIndex_neg (by omega) h1, e], by omega, h1, by omega⟩
    · rw [if_neg h1] at h; cases h
theorem atI_get {α : Type} {xs : List α} {i : Int} {v : α} (h : atI xs i = some v) : ∃ j, seqIndex? i xs.length = some j ∧ xs[j]? = some v ∧ j < xs.length ∧ -(xs.length : Int) ≤ i ∧ i < xs.length := by
  unfold atI at h
  cases e : ixN xs.length i with
  | none => rw [e] at h; cases h
  | some j =>
    rw [e] at h
    obtain ⟨h1, h2, h3, h4⟩ := ixN_seq e
    exact ⟨j, h1, h, h2, h3, h4⟩
theorem atI_nat {α : Type} {xs : List α} {j : Nat} {v : α} (h : xs[j]? = some v) : atI xs (j : Int) = some v := by
  have hj : j < xs.length := (List.getElem?_eq_some_iff.mp h).1
  have e : ixN xs.length (j : Int) = some j := by
    unfold ixN
    rw [if_pos (by omega), if_pos (by omega)]; simp
  unfold atI; rw [e]; exact h
theorem atI_last {α : Type} (xs : List α) (v : α) : atI (xs ++ [v]) (-1) = some v := by
  have hl : (xs ++ [v]).length = xs.length + 1 := by simp
  have e : ixN (xs ++ [v]).length (-1) = some xs.length := by
    unfold ixN
    rw [hl, if_neg (by decide), if_pos (by omega)]
    congr 1
    omega
  unfold atI
  rw [e]
  show (xs ++ [v])[xs.length]? = some v
  simp

/-! ### what may be subscripted -/
/-- what stands as an index of a plain subscript -/
def PlainIx (b : Expr) : Prop := ∀ o i, subscripted b false o i = operate [o, i] (getItem o i)
/-- a subscript by values -/
def IxR (X : Cx) (r : R2) : Prop :=
  ∀ (value slice : Expr) (pins : List (Addr × Obj)) (s : Shared) (σ : St) (H : Hp) (x y : V) (v u : Value) (Q : VK), Inv X pins σ H s → RelV x v → RelV y u → r x y H Q →
    subscripted slice false v u = operate [v, u] (getItem v u) → wpAny (model X.prog X.w) X.A (subscriptTail value slice v u) (EP X pins σ Q) X.xe s
/-- a call of a builtin's method by values: the receiver, the arguments -/
def MtR (X : Cx) (id : String) (r : V → List V → Hp → VK → Prop) : Prop :=
  ∀ (pins : List (Addr × Obj)) (s : Shared) (σ : St) (H : Hp) (x : V) (xs : List V) (v : Value) (us : List Value) (Q : VK), Inv X pins σ H s → RelV x v → Vals xs us → r x xs H Q →
    wpAny (model X.prog X.w) X.A (call (.builtin id) (v :: us)) (EP X pins σ Q) X.xe s
section
variable {X : Cx} {a b : Expr} {ta tb : TE} {pos : Pos}
theorem IxR.or {r r' : R2} (h : IxR X r) (h' : IxR X r') : IxR X (fun x y H Q => r x y H Q ∨ r' x y H Q) := by
  intro value slice pins s σ H x y v u Q I rx ry q hs
  rcases q with q | q
  · exact h value slice pins s σ H x y v u Q I rx ry q hs
  · exact h' value slice pins s σ H x y v u Q I rx ry q hs
theorem MtR.or {id : String} {r r' : V → List V → Hp → VK → Prop} (h : MtR X id r) (h' : MtR X id r') : MtR X id (fun x xs H Q => r x xs H Q ∨ r' x xs H Q) := by
  intro pins s σ H x xs v us Q I rx rs q
  rcases q with q | q
  · exact h pins s σ H x xs v us Q I rx rs q
  · exact h' pins s σ H x xs v us Q I rx rs q
/-- a[b] -/
theorem pe_ix {r : R2} (hr : IxR X r) (ha : PE X a ta) (hb : PE X b tb) (hs : PlainIx b) : PE X (.Subscript a b pos) (tOp r ta tb) := by
  intro pins s σ H Q I h
  exact Subscript_ (binT ha hb I h fun v u s2 x y H2 I2 rx ry q => hr a b pins s2 σ H2 x y v u Q I2 rx ry q (hs _ _))

def rIxL (K : PySem.W.Frag) : R2 := fun x y H Q => ∃ p xs i v, x = .ref p ∧ y = .int i ∧ SqL K H p xs ∧ atI xs i = some v ∧ Q v H
def rIxT (K : PySem.W.Frag) : R2 := fun x y H Q => ∃ p xs i v, x = .ref p ∧ y = .int i ∧ SqT K H p xs ∧ atI xs i = some v ∧ Q v H
def rIxS : R2 := fun x y H Q => ∃ z i c, x = .str z ∧ y = .int i ∧ z.length ≤ sizeLine ∧ atI z.cps.toList i = some c ∧ Q (.str ⟨#[c]⟩) H
theorem ix_list : IxR X (rIxL X.K) := by
  intro value slice pins s σ H x y v u Q I rx ry h hs
  obtain ⟨p, xs, i, z, rfl, rfl, hq, he, q⟩ := h
  cases rx
  obtain ⟨t, rfl⟩ := ry
  obtain ⟨its, r, pl, hz⟩ := I.list hq
  obtain ⟨j, h1, h2, h3, h4, h5⟩ := atI_get he
  obtain ⟨w, ew, rw'⟩ := r.get h2
  have hl := r.length
  have hn := line63
  have fin : EP X pins σ Q w s := ⟨z, H, I, rw', q⟩
  by_cases h0 : 0 ≤ i
  · have hj : i.toNat = j := by
      rw [seqIndex_of h0 h5] at h1
      exact Option.some.inj h1
    exact item_listR pl.isList h0 (by omega) (by rw [hj]; simpa using ew) fin hs
  · have hj : (i + (its.toArray.size : Int)).toNat = j := by
      rw [seqIndex_neg (by omega) h4] at h1
      rw [List.size_toArray, ← hl]
      exact Option.some.inj h1
    exact subscriptTail_builtinR (x := w) pl.isList.typeIs slot_list_getitem.lookup
      (wpAny_getItem_list_neg (Q := fun r s' => r = w ∧ EP X pins σ Q r s') pl.isList (by omega) (by rw [List.size_toArray] <;> omega) (by omega) (by rw [hj]; simpa using ew) ⟨rfl, fin⟩) hs
theorem ix_tup : IxR X (rIxT X.K) := by
  intro value slice pins s σ H x y v u Q I rx ry h hs
  obtain ⟨p, xs, i, z, rfl, rfl, hq, he, q⟩ := h
  cases rx
  obtain ⟨t, rfl⟩ := ry
  obtain ⟨its, r, pl, hz⟩ := I.tuple hq
  obtain ⟨j, h1, h2, h3, h4, h5⟩ := atI_get he
  obtain ⟨w, ew, rw'⟩ := r.get h2
  have hl := r.length
  have hn := line63
  have fin : EP X pins σ Q w s := ⟨z, H, I, rw', q⟩
  exact subscriptTail_builtinR (x := w) pl.typeIs slot_tuple_getitem.lookup
    (getItem_tuple (j := j) (Q := fun r s' => r = w ∧ EP X pins σ Q r s') pl (by omega) (by omega) (by rw [List.size_toArray, ← hl]; exact h1) (by simpa using ew) ⟨rfl, fin⟩) hs
theorem ix_str : IxR X rIxS := by
  intro value slice pins s σ H x y v u Q I rx ry h hs
  obtain ⟨z, i, c, rfl, rfl, hz, he, q⟩ := h
  obtain ⟨t, rfl⟩ := rx
  obtain ⟨t', rfl⟩ := ry
  obtain ⟨j, h1, h2, h3, h4, h5⟩ := atI_get he
  have hl : z.cps.toList.length = z.length := by simp [Str.length]
  rw [hl] at h1 h4 h5
  have hn := line63
  exact tail_any (typeIs_str s z t) slot_str_getitem.lookup (getItem_str (c := c) (by
    have e1 : decide (i < -(2 ^ 63 : Int)) = false := decide_eq_false (by omega)
    have e2 : decide (i ≥ 2 ^ 63) = false := decide_eq_false (by omega)
    rw [e1, e2, Bool.or_false]) (by rw [h1]; simpa using h2) ⟨.str ⟨#[c]⟩, H, I.tok _, ⟨_, rfl⟩, q⟩) hs
/-- list, tuple or str -/
def rIx (K : PySem.W.Frag) : R2 := fun x y H Q => rIxL K x y H Q ∨ rIxT K x y H Q ∨ rIxS x y H Q
theorem ix_seq : IxR X (rIx X.K) := ix_list.or (ix_tup.or ix_str)

/-! ### xs[i] = v, any sign -/
/-- the list's object behind a store -/
theorem mapSeq_set (its : List Value) (n j : Nat) (u : Value) : Obj.mapSeq (·.setIfInBounds j u) { cls := .type "list", data := .seq its.toArray n } = { cls := .type "list", data := .seq (its.set j u).toArray n } := by
  simp [Obj.mapSeq]
theorem Inv.lst {pins : List (Addr × Obj)} {σ : St} {H : Hp} {s : Shared} {p : Addr} {xs : List V} (I : Inv X pins σ H s) (h : H p = some (.lst xs)) :
    ∃ (its : List Value) (n : Nat), Vals xs its ∧ s.heap.get? p = some { cls := .type "list", data := .seq its.toArray n } ∧ xs.length ≤ sizeLine := by
  obtain ⟨z, its, n, r, e⟩ := I.hok p _ h
  exact ⟨its, n, r, e, z⟩
/-- the list at p is written by an update of its object -/
theorem Inv.lstUpd {pins : List (Addr × Obj)} {σ : St} {H : Hp} {s : Shared} {p : Addr} {xs ys : List V} {its its' : List Value} {n n' : Nat} {f : Obj → Obj} (I : Inv X pins σ H s) (h : H p = some (.lst xs))
    (ho : s.heap.get? p = some { cls := .type "list", data := .seq its.toArray n }) (hf : f { cls := .type "list", data := .seq its.toArray n } = { cls := .type "list", data := .seq its'.toArray n' }) (r : Vals ys its') (hz : ys.length ≤ sizeLine) (t : Nat) :
    Inv X pins σ (upd H p (.lst ys)) { s with heap := s.heap.update p f, toks := t } := by
  have e : (s.heap.update p f).get? p = some { cls := .type "list", data := .seq its'.toArray n' } := by
    rw [Heap.get?_update_self f ho (by rw [hf] <;> rfl), hf]
  refine I.write (x := p) (e := p) (by rw [h]; trivial) (.inl rfl) (fun b u hb q => (Heap.get?_update_other _ _ (Ne.symm hb)).trans q) ⟨_, e⟩ ?_
  exact ⟨hz, its', n', r, e⟩
def rSetL : V → V → V → Hp → (Hp → Prop) → Prop := fun o i v H Q => ∃ p xs k j, o = .ref p ∧ i = .int k ∧ H p = some (.lst xs) ∧ ixN xs.length k = some j ∧ Q (upd H p (.lst (xs.set j v)))
theorem set_list : PSet X rSetL := by
  intro pins s σ H o i v ov iv u Q I ro ri rv h
  obtain ⟨p, xs, k, j, rfl, rfl, hp, hj, q⟩ := h
  cases ro
  obtain ⟨t, rfl⟩ := ri
  obtain ⟨its, n, r, ho, hz⟩ := I.lst hp
  obtain ⟨h1, h2, h3, h4⟩ := ixN_seq hj
  have hl := r.length
  have hn := line63
  have I' : Inv X pins σ (upd H p (.lst (xs.set j v))) { s with heap := s.heap.update p (Obj.mapSeq (·.setIfInBounds j u)) } :=
    I.lstUpd hp ho (mapSeq_set its n j u) (r.set rv j) (by rw [List.length_set]; exact hz) s.toks
  by_cases h0 : 0 ≤ k
  · have hk : k.toNat = j := by
      rw [seqIndex_of h0 h4] at h1
      exact Option.some.inj h1
    exact PySem.W.ki_setAt ho h0 (by omega) (by rw [List.size_toArray, ← hl]; exact h4) (by rw [hk]; exact ⟨_, I', q⟩)
  · have hk : (k + (its.toArray.size : Int)).toNat = j := by
      rw [seqIndex_neg (by omega) h3] at h1
      rw [List.size_toArray, ← hl]
      exact Option.some.inj h1
    exact PySem.W.ki_setBack ho (by omega) (by rw [List.size_toArray, ← hl]; exact h3) (by omega) (by rw [hk]; exact ⟨_, I', q⟩)

/-! ### slices -/
theorem slice_bounds (lo hi : Option Int) (n : Nat) : (sliceBounds lo hi none n).1 = ((HT.sIx n 0 lo : Nat) : Int) ∧ (sliceBounds lo hi none n).2.1 = ((HT.sIx n n hi : Nat) : Int) ∧ (sliceBounds lo hi none n).2.2 = 1 := by
  refine ⟨?_, ?_, rfl⟩
  · cases lo with
    | none => simp [sliceBounds, HT.sIx]
    | some i =>
      simp only [sliceBounds, HT.sIx, Option.getD_none, show (1 : Int) > 0 by decide, if_true]
      by_cases h : i < 0
      · simp only [h, if_true] <;> omega
      · simp only [h, if_false] <;> omega
  · cases hi with
    | none => simp [sliceBounds, HT.sIx]
    | some i =>
      simp only [sliceBounds, HT.sIx, Option.getD_none, show (1 : Int) > 0 by decide, if_true]
      by_cases h : i < 0
      · simp only [h, if_true] <;> omega
      · simp only [h, if_false] <;> omega
theorem slicePick_cut (its : List Value) (lo hi : Option Int) : slicePick its.toArray lo hi none = ((its.drop (HT.sIx its.length 0 lo)).take (HT.sIx its.length its.length hi - HT.sIx its.length 0 lo)).toArray := by
  obtain ⟨h1, h2, h3⟩ := slice_bounds lo hi its.toArray.size
  unfold slicePick
  rw [h1, h2, h3]
  simp only [sliceRange_one, pick_run, List.size_toArray] <;> rfl
/-- xs[lo:hi] of a list: a new list -/
def rSlL (K : PySem.W.Frag) : V → Option Int → Option Int → Hp → VK → Prop := fun x lo hi H Q => ∃ a xs, x = .ref a ∧ SqL K H a xs ∧ ∀ p, H p = none → Q (.ref p) (upd H p (.lst (cutV xs lo hi)))
theorem sl_list : SlR X (rSlL X.K) := by
  intro pins s σ H x v vl vu lo hi sl Q I rx hs pl pu h
  obtain ⟨a, xs, rfl, hx, q⟩ := h
  cases rx
  obtain ⟨its, r, ht, hz⟩ := I.list hx
  have hlen := r.length
  refine ⟨"list", _, slot_list_getitem.lookup, ht.isList.typeIs, ?_⟩
  refine wpAny_getItem_list_slice ht.isList hs pl pu .none (by simp) ?_ (by rw [List.size_toArray] <;> omega)
  rw [slicePick_cut, ← hlen]
  refine ⟨.ref s.heap.objs.size, _, I.laid (t' := s.toks) (o := .lst (cutV xs lo hi)) (fun b ob q => Heap.get?_push_of_some _ q) (Nat.le_refl _) ?_, rfl, q _ (I.hok.fresh (Nat.le_refl _))⟩
  exact ⟨Nat.le_trans (cutV_length xs lo hi) hz, _, 0, (r.drop (HT.sIx xs.length 0 lo)).take (HT.sIx xs.length xs.length hi - HT.sIx xs.length 0 lo), Heap.get?_push_size _ rfl⟩

/-! ### in, not in: flat items -/
/-! ### len, list(x), tuple(x) of any list or tuple that is read -/
theorem call_len_seq : CallR X (.builtin "len") (fun xs H Q => ∃ p ys, xs = [.ref p] ∧ (SqL X.K H p ys ∨ SqT X.K H p ys) ∧ Q (.int ys.length) H) := by
  intro pins s σ H xs us Q I r h
  obtain ⟨p, ys, rfl, hq, q⟩ := h
  obtain ⟨u, rfl, rx⟩ := vals1 r
  cases rx
  have hn := line63
  rcases hq with hq | hq
  · obtain ⟨its, r', pl, hz⟩ := I.list hq
    have hlen := r'.length
    exact Calls.call_len_list pl.isList (by simp only [List.size_toArray] <;> omega) ⟨.int ys.length, H, I.tok _, ⟨s.toks + 1, by rw [List.size_toArray, hlen]⟩, q⟩
  · obtain ⟨its, r', pl, hz⟩ := I.tuple hq
    have hlen := r'.length
    exact len_tuple pl (by simp only [List.size_toArray] <;> omega) ⟨.int ys.length, H, I.tok _, ⟨s.toks + 1, by rw [List.size_toArray, hlen]⟩, q⟩
theorem CallR.or {f : Value} {r r' : List V → Hp → VK → Prop} (h : CallR X f r) (h' : CallR X f r') : CallR X f (fun xs H Q => r xs H Q ∨ r' xs H Q) := by
  intro pins s σ H xs us Q I rs q
  rcases q with q | q
  · exact h pins s σ H xs us Q I rs q
  · exact h' pins s σ H xs us Q I rs q
theorem call_list_of : CallR X (.type "list") (fun xs H Q => ∃ p ys, xs = [.ref p] ∧ (SqL X.K H p ys ∨ SqT X.K H p ys) ∧ ∀ l, H l = none → Q (.ref l) (upd H l (.lst ys))) := by
  intro pins s σ H xs us Q I r h
  obtain ⟨p, ys, rfl, hq, q⟩ := h
  obtain ⟨u, rfl, rx⟩ := vals1 r
  cases rx
  have fin : ∀ (its : List Value), Vals ys its → ys.length ≤ sizeLine → ∀ (h' : Heap) (c' : Nat), (∀ b o', s.heap.get? b = some o' → h'.get? b = some o') →
      h'.get? s.heap.objs.size = some { cls := .type "list", dict := none, data := .seq its.toArray c', slots := #[] } → EP X pins σ Q (.ref s.heap.objs.size) { s with heap := h' } := fun its r' hz h' c' kp e =>
    ⟨.ref s.heap.objs.size, _, I.laid (t' := s.toks) kp (Nat.le_refl _) (show ObjOk X.prog X.w _ h' _ (.lst ys) from ⟨hz, its, c', r', e⟩), rfl, q _ (I.hok.fresh (Nat.le_refl _))⟩
  rcases hq with hq | hq
  · obtain ⟨its, r', pl, hz⟩ := I.list hq
    have hlen := r'.length
    obtain ⟨o, ho, hc, n, hd⟩ := pl.isList
    exact call_list_seq p (.inl rfl) ho hc hd (fun h' c' kp e => fin its r' hz h' c' kp e) (by simp only [List.size_toArray] <;> omega)
  · obtain ⟨its, r', pl, hz⟩ := I.tuple hq
    have hlen := r'.length
    obtain ⟨o, ho, hc, n, hd⟩ := pl
    exact call_list_seq p (.inr rfl) ho hc hd (fun h' c' kp e => fin its r' hz h' c' kp e) (by simp only [List.size_toArray] <;> omega)
theorem call_tuple_of : CallR X (.type "tuple") (fun xs H Q => ∃ p ys, xs = [.ref p] ∧ ((SqL X.K H p ys ∧ ∀ l, H l = none → Q (.ref l) (upd H l (.tup ys))) ∨ (SqT X.K H p ys ∧ Q (.ref p) H))) := by
  intro pins s σ H xs us Q I r h
  obtain ⟨p, ys, rfl, h⟩ := h
  obtain ⟨u, rfl, rx⟩ := vals1 r
  cases rx
  rcases h with ⟨hq, q⟩ | ⟨hq, q⟩
  · obtain ⟨its, r', pl, hz⟩ := I.list hq
    have hlen := r'.length
    refine call_tuple_list pl.isList (fun h' kp => ?_) (by simp only [List.size_toArray] <;> omega)
    have I1 : Inv X pins σ H { s with heap := h' } := I.kept (t' := s.toks) kp
    have I2 : Inv X pins σ (upd H h'.objs.size (.tup ys)) { s with heap := h'.push { cls := .type "tuple", data := .seq its.toArray } } :=
      I1.laid (t' := s.toks) (fun b o e => Heap.get?_push_of_some _ e) (Nat.le_refl _) (show ObjOk X.prog X.w _ _ _ (.tup ys) from ⟨hz, its, r', IsTD.new _ _⟩)
    exact ⟨.ref h'.objs.size, _, I2, rfl, q _ (I1.hok.fresh (Nat.le_refl _))⟩
  · obtain ⟨its, r', pl, hz⟩ := I.tuple hq
    exact call_tuple_same pl ⟨.ref p, H, I, rfl, q⟩

/-! ### the call of a builtin's method: o.m(..) -/
/-- the value is of that builtin type -/
def tyV (K : PySem.W.Frag) (T : String) (x : V) (H : Hp) : Prop := match x with
  | .str _ => T = "str"
  | .int _ => T = "int"
  | .ref p => (T = "list" ∧ ∃ xs, SqL K H p xs) ∨ (T = "tuple" ∧ ((∃ o, K.lookup p = some o ∧ o.cls = .type "tuple" ∧ o.dict = none) ∨ ∃ xs, H p = some (.tup xs))) ∨
      (T = "dict" ∧ ((∃ kvs, H p = some (.dK kvs)) ∨ ∃ kvs, H p = some (.dT kvs))) ∨ (T = "set" ∧ ∃ S n, H p = some (.set S n))
  | _ => False
theorem tyV_is {pins : List (Addr × Obj)} {σ : St} {H : Hp} {s : Shared} {T : String} {x : V} {v : Value} (I : Inv X pins σ H s) (r : RelV x v) (ty : tyV X.K T x H) :
    s.TypeIs v T ∧ ∀ a, v = .ref a → ∃ ob, s.heap.get? a = some ob ∧ ob.dict = none := by
  cases x with
  | str z =>
    obtain ⟨t, rfl⟩ := r
    cases (show T = "str" from ty)
    exact ⟨typeIs_str s z t, fun _ e => nomatch e⟩
  | int i =>
    obtain ⟨t, rfl⟩ := r
    cases (show T = "int" from ty)
    exact ⟨typeIs_int s i t, fun _ e => nomatch e⟩
  | ref p =>
    cases r
    rcases ty with ⟨rfl, xs, hq⟩ | ⟨rfl, ⟨o, hk, hc, hd⟩ | ⟨xs, hx⟩⟩ | ⟨rfl, hk⟩ | ⟨rfl, S, n, hk⟩
    · obtain ⟨its, _, pl, _⟩ := I.list hq
      refine ⟨pl.isList.typeIs, fun a e => ?_⟩
      cases e
      obtain ⟨o, n, e, c, hd, _⟩ := pl
      exact ⟨o, e, hd⟩
    · refine ⟨⟨o, I.kIn p o hk, hc⟩, fun a e => ?_⟩
      cases e
      exact ⟨o, I.kIn _ o hk, hd⟩
    · obtain ⟨_, its, r, o, e, c, _, hd⟩ := I.hok p _ hx
      refine ⟨⟨o, e, c⟩, fun a e2 => ?_⟩
      cases e2
      exact ⟨o, e, hd⟩
    · have z : ∃ o, s.heap.get? p = some o ∧ o.ExactDict := by
        rcases hk with ⟨kvs, hk⟩ | ⟨kvs, hk⟩
        · obtain ⟨_, _, _, _, o, _, _, e, ex, _⟩ := I.hok p _ hk
          exact ⟨o, e, ex⟩
        · obtain ⟨_, _, _, _, o, _, _, e, ex, _⟩ := I.hok p _ hk
          exact ⟨o, e, ex⟩
      obtain ⟨o, e, ex⟩ := z
      refine ⟨⟨o, e, ex.1⟩, fun a e2 => ?_⟩
      cases e2
      exact ⟨o, e, ex.2.1⟩
    · obtain ⟨o, _, _, _, e, ex, _⟩ := I.hok p _ hk
      refine ⟨⟨o, e, ex.1⟩, fun a e2 => ?_⟩
      cases e2
      exact ⟨o, e, ex.2.1⟩
  | _ => exact False.elim ty
def tBM0 (K : PySem.W.Frag) (T : String) (r : V → List V → Hp → VK → Prop) (to : TE) : TE := fun σ H Q => to σ H fun x H1 => tyV K T x H1 ∧ r x [] H1 Q
def tBM (K : PySem.W.Frag) (T : String) (r : V → List V → Hp → VK → Prop) (to : TE) (t : TA) : TE := fun σ H Q => to σ H fun x H1 => tyV K T x H1 ∧ t σ H1 fun xs H2 => r x xs H2 Q
variable {o e : Expr} {es : List Expr} {to : TE} {t : TA} {name : Str} {apos cpos : Pos} {T id : String} {r : V → List V → Hp → VK → Prop}
theorem pe_bm0 (pa : PlainAttrs T) (slot : Slot T name id) (hty : typeOf (.builtin id) = pure (.type "method_descriptor")) (hm : MtR X id r) (ho : PE X o to)
    (hbase : attributeBase o name X.env (eval o X.env) = eval o X.env := by rfl) (hline : (apos.endLine == cpos.line) = true := by rfl) : PE X (.Call (.Attribute o name apos) [] [] cpos) (tBM0 X.K T r to) := by
  intro pins s σ H Q I h
  refine wpAny_Call_method0_late hbase hline (thn (ho pins s σ H _ I h) fun v s1 ⟨x, H1, I1, r1, ty, q1⟩ => ?_)
  obtain ⟨h1, h2⟩ := tyV_is I1 r1 ty
  exact ⟨T, id, pa, slot, hty, h1, h2, Calls.callWith_builtin rfl (PySem.evalArgs_none (hm pins s1 σ H1 x [] v [] Q I1 r1 .nil q1))⟩
theorem pe_bm (pa : PlainAttrs T) (slot : Slot T name id) (hty : typeOf (.builtin id) = pure (.type "method_descriptor")) (hm : MtR X id r) (ho : PE X o to) (ha : PA X (e :: es) t)
    (hbase : attributeBase o name X.env (eval o X.env) = eval o X.env := by rfl)
    (hfew : ((backTo cpos (starEach (e :: es) X.env)).all (fun x => !x.1) && (backToKw cpos (keywordEach [] X.env)).all (fun x => x.1.isSome)
      && decide ((e :: es).length + ([] : List Keyword).length + (if ([] : List Keyword).isEmpty then 0 else 1) < 30)) = true := by rfl)
    (hline : (apos.endLine == cpos.line) = true := by rfl) (hs : starEach (e :: es) X.env = (false, eval e X.env) :: starEach es X.env := by rfl) (hplain : (backTo cpos (starEach es X.env)).any (·.1) = false := by rfl) :
    PE X (.Call (.Attribute o name apos) (e :: es) [] cpos) (tBM X.K T r to t) := by
  intro pins s σ H Q I h
  refine wpAny_Call_method_late hbase hfew hline rfl (thn (ho pins s σ H _ I h) fun v s1 ⟨x, H1, I1, r1, ty, q1⟩ => ?_)
  obtain ⟨h1, h2⟩ := tyV_is I1 r1 ty
  refine ⟨T, id, pa, slot, hty, h1, h2, ?_⟩
  have hA := ha cpos pins s1 σ H1 _ I1 q1
  rw [hs] at hA ⊢
  refine Calls.callWith_builtin (by show (false || (backTo cpos (starEach es X.env)).any (·.1)) = false; rw [hplain] <;> rfl) (Calls.evalArgs_plain ?_)
  exact thn hA fun us s2 ⟨vs, H2, I2, r2, q2⟩ => hm pins s2 σ H2 x vs v us Q I2 r1 r2 q2
/- xs.append(e), list.index on a module's tuple .. are MtR facts of 06m -/
end
end L2

namespace L2
open PySem PySem.Spec PyProof.Rows

def MtM (X : Cx) (id : String) (r : V → List V → Hp → VK → Prop) : Prop :=
  ∀ (pins : List (Addr × Obj)) (s : Shared) (σ : St) (H : Hp) (x : V) (xs : List V) (v : Value) (us : List Value) (Q : VK), Inv X pins σ H s → RelV x v → Vals xs us → r x xs H Q →
    wpAny (model X.prog X.w) X.A (call (.builtin id) (v :: us)) (EP X pins σ Q) X.xe s

/-! ### lists of values -/
theorem Vals.one : ∀ {x : V} {us : List Value}, Vals [x] us → ∃ u, us = [u] ∧ RelV x u
  | _, _, .cons r .nil => ⟨_, rfl, r⟩
theorem Vals.two : ∀ {x y : V} {us : List Value}, Vals [x, y] us → ∃ u v, us = [u, v] ∧ RelV x u ∧ RelV y v
  | _, _, _, .cons r (.cons q .nil) => ⟨_, _, rfl, r, q⟩
theorem Vals.zero : ∀ {us : List Value}, Vals [] us → us = []
  | _, .nil => rfl
theorem Vals.dropLast {xs : List V} {us : List Value} (h : Vals xs us) : Vals xs.dropLast us.dropLast := by
  induction h with
  | nil => exact .nil
  | cons r t ih =>
    cases t with
    | nil => exact .nil
    | cons q t' => exact .cons r ih
theorem Vals.eraseIdx : ∀ {xs : List V} {us : List Value} (i : Nat), Vals xs us → Vals (xs.eraseIdx i) (us.eraseIdx i)
  | _, _, _, .nil => .nil
  | _, _, 0, .cons _ t => t
  | _, _, i + 1, .cons r t => .cons r (Vals.eraseIdx i t)
theorem Vals.reverse {xs : List V} {us : List Value} (h : Vals xs us) : Vals xs.reverse us.reverse := by
  induction h with
  | nil => exact .nil
  | cons r t ih => rw [List.reverse_cons, List.reverse_cons]; exact Vals.append ih (.cons r .nil)
theorem Vals.rep {xs : List V} {us : List Value} (h : Vals xs us) : ∀ k : Nat, Vals (List.replicate k xs).flatten (List.replicate k us).flatten
  | 0 => .nil
  | k + 1 => by
    rw [List.replicate_succ, List.replicate_succ, List.flatten_cons, List.flatten_cons]
    exact Vals.append h (Vals.rep h k)
theorem erase_last {α : Type} (l : List α) : l.eraseIdx (l.length - 1) = l.dropLast := by
  induction l with
  | nil => rfl
  | cons a r ih =>
    cases r with
    | nil => rfl
    | cons b r =>
      have e : (a :: b :: r).length - 1 = ((b :: r).length - 1) + 1 := by
        have h1 : (a :: b :: r).length = r.length + 2 := rfl
        have h2 : (b :: r).length = r.length + 1 := rfl
        omega
      rw [e, List.eraseIdx_cons_succ, ih]
      all_goals rfl
theorem foldl_rep (its : List Value) : ∀ (k : Nat) (acc : List Value),
    List.foldl (fun x1 x2 => x1 ++ x2) acc.toArray (List.replicate k its.toArray) = (acc ++ (List.replicate k its).flatten).toArray
  | 0, acc => by simp
  | k + 1, acc => by
    have e : acc.toArray ++ its.toArray = (acc ++ its).toArray := by simp
    have e2 : (acc ++ its) ++ (List.replicate k its).flatten = acc ++ (List.replicate (k + 1) its).flatten := by
      rw [List.replicate_succ, List.flatten_cons, List.append_assoc]
    rw [← e2, ← foldl_rep its k (acc ++ its), ← e, List.replicate_succ, List.foldl_cons]

section
variable {X : Cx} {pins : List (Addr × Obj)} {σ : St} {H : Hp} {s : Shared} {l b : Addr} {xs ys zs : List V}

/-! ### the two steps: a tracked list is rewritten, a new list is laid -/
theorem Inv.lset {its its' : List Value} {n : Nat} {f : Array Value → Array Value} {t' : Nat} (I : Inv X pins σ H s) (hH : H l = some (.lst xs))
    (e : s.heap.get? l = some { cls := .type "list", data := .seq its.toArray n }) (hf : f its.toArray = its'.toArray) (hv : Vals ys its') (hz : ys.length ≤ sizeLine) :
    Inv X pins σ (upd H l (.lst ys)) { s with heap := s.heap.update l (Obj.mapSeq f), toks := t' } := by
  have q := PySem.IsL.update e f
  rw [hf] at q
  refine I.write (x := l) (e := l) (by rw [hH]; exact trivial) (.inl rfl) (fun b' u hb hu => (Heap.get?_update_other s.heap (Obj.mapSeq f) (Ne.symm hb)).trans hu) ⟨_, q⟩ ?_
  exact ⟨hz, its', _, hv, q⟩
theorem Inv.lnew {its : List Value} {t' : Nat} (I : Inv X pins σ H s) (hv : Vals ys its) (hz : ys.length ≤ sizeLine) :
    Inv X pins σ (upd H s.heap.objs.size (.lst ys)) { s with heap := s.heap.push { cls := .type "list", data := .seq its.toArray }, toks := t' } :=
  I.laid (fun _ _ q => Heap.get?_push_of_some _ q) (Nat.le_refl _) ⟨hz, its, 0, hv, Heap.get?_push_size _ rfl⟩
theorem Inv.fresh (I : Inv X pins σ H s) : H s.heap.objs.size = none := I.hok.fresh (Nat.le_refl _)
theorem Inv.lstM (I : Inv X pins σ H s) (hH : H l = some (.lst xs)) : xs.length ≤ sizeLine ∧ ∃ (its : List Value) (n : Nat), Vals xs its ∧ xs.length = its.length ∧ s.heap.get? l = some { cls := .type "list", data := .seq its.toArray n } := by
  obtain ⟨z, its, n, r, e⟩ := I.hok l _ hH
  exact ⟨z, its, n, r, r.length, e⟩

theorem notLongL {n : Nat} (h : n ≤ sizeLine) : Builtin.List.listTooLong n = false := by
  unfold Builtin.List.listTooLong
  exact decide_eq_false (by omega)
end

section
variable {X : Cx}

/-! ### methods -/
def rAppend : V → List V → Hp → VK → Prop := fun x vs H Q => ∃ l xs y, x = .ref l ∧ vs = [y] ∧ H l = some (.lst xs) ∧ xs.length < sizeLine ∧ Q .non (upd H l (.lst (xs ++ [y])))
theorem mt_append : MtM X "list.append" rAppend := by
  intro pins s σ H x vs v us Q I rx rv h
  obtain ⟨l, xs, y, rfl, rfl, hH, hz, q⟩ := h
  cases rx
  obtain ⟨u, rfl, ru⟩ := rv.one
  obtain ⟨z, its, n, r, hl, e⟩ := I.lstM hH
  refine call_meets F.slot_list_append ⟨_, e, rfl⟩ F.entry_list_append (F.args_list_append_2 _ _) (PySem.list_append l its.toArray n u (by rw [List.size_toArray]; omega)) ⟨e, ?_⟩
  refine ⟨.non, _, I.lset (its' := its ++ [u]) hH e (by simp) (r.append (.cons ru .nil)) ?_, rfl, q⟩
  rw [List.length_append, List.length_singleton]
  omega

def rExtend : V → List V → Hp → VK → Prop := fun x vs H Q => ∃ l b xs zs, x = .ref l ∧ vs = [.ref b] ∧ H l = some (.lst xs) ∧ H b = some (.lst zs) ∧ xs.length + zs.length ≤ sizeLine ∧ Q .non (upd H l (.lst (xs ++ zs)))
theorem mt_extend : MtM X "list.extend" rExtend := by
  intro pins s σ H x vs v us Q I rx rv h
  obtain ⟨l, b, xs, zs, rfl, rfl, hH, hB, hz, q⟩ := h
  cases rx
  obtain ⟨u, rfl, ru⟩ := rv.one
  cases ru
  obtain ⟨z, its, n, r, hl, e⟩ := I.lstM hH
  obtain ⟨z2, its2, n2, r2, hl2, e2⟩ := I.lstM hB
  have hsz : its.toArray.size + its2.toArray.size ≤ sizeLine := by rw [List.size_toArray, List.size_toArray]; omega
  have hlong : ¬ (!its.toArray.isEmpty && Builtin.List.listTooLong (its.toArray.size + its2.toArray.size)) = true := by
    rw [notLongL hsz, Bool.and_false]
    exact Bool.false_ne_true
  refine call_meets F.slot_list_extend ⟨_, e, rfl⟩ F.entry_list_extend (F.args_list_extend_2 _ _)
    (AutoSeq1.list_extend_list_list_0 l its.toArray n b its2.toArray n2 hlong (by rw [List.size_toArray]; omega) (by omega)) ⟨e, e2, ?_⟩
  refine ⟨.non, _, I.lset (its' := its ++ its2) hH e (by simp) (r.append r2) ?_, rfl, q⟩
  rw [List.length_append]
  omega

def rPop : V → List V → Hp → VK → Prop := fun x vs H Q => ∃ l xs y, x = .ref l ∧ vs = [] ∧ H l = some (.lst xs) ∧ xs[xs.length - 1]? = some y ∧ Q y (upd H l (.lst xs.dropLast))
theorem mt_pop : MtM X "list.pop" rPop := by
  intro pins s σ H x vs v us Q I rx rv h
  obtain ⟨l, xs, y, rfl, rfl, hH, hy, q⟩ := h
  cases rx
  have hus := rv.zero
  subst hus
  obtain ⟨z, its, n, r, hl, e⟩ := I.lstM hH
  obtain ⟨u, hu, ru⟩ := r.get hy
  have hy' : its.toArray[its.toArray.size - 1]? = some u := by
    show its.toArray[its.length - 1]? = some u
    rw [← Array.getElem?_toList, ← hl]
    exact hu
  refine call_meets F.slot_list_pop ⟨_, e, rfl⟩ F.entry_list_pop (F.args_list_pop_1 _) (MeetsSeq.list_pop_last l its.toArray n u hy' (by rw [List.size_toArray]; omega)) ⟨e, ?_⟩
  refine ⟨y, _, I.lset (its' := its.dropLast) hH e ?_ r.dropLast ?_, ru, q⟩
  · show its.toArray.eraseIdxIfInBounds (its.toArray.size - 1) = its.dropLast.toArray
    rw [List.size_toArray, List.eraseIdxIfInBounds_toArray, erase_last]
  · rw [List.length_dropLast]
    omega

def rClear : V → List V → Hp → VK → Prop := fun x vs H Q => ∃ l xs, x = .ref l ∧ vs = [] ∧ H l = some (.lst xs) ∧ Q .non (upd H l (.lst []))
theorem mt_clear : MtM X "list.clear" rClear := by
  intro pins s σ H x vs v us Q I rx rv h
  obtain ⟨l, xs, rfl, rfl, hH, q⟩ := h
  cases rx
  have hus := rv.zero
  subst hus
  obtain ⟨z, its, n, r, hl, e⟩ := I.lstM hH
  refine call_meets F.slot_list_clear ⟨_, e, rfl⟩ F.entry_list_clear (F.args_list_clear_1 _) (AutoSeq1.list_clear_list_0 l its.toArray n (by rw [List.size_toArray]; omega)) ⟨e, ?_⟩
  exact ⟨.non, _, I.lset (its' := []) (ys := []) hH e rfl .nil (Nat.zero_le _), rfl, q⟩

/-! ### list + list, list += list, list * int -/
def rCat : R2 := fun x y H Q => ∃ l b xs zs, x = .ref l ∧ y = .ref b ∧ H l = some (.lst xs) ∧ H b = some (.lst zs) ∧ xs.length + zs.length ≤ sizeLine ∧ ∀ p, H p = none → Q (.ref p) (upd H p (.lst (xs ++ zs)))
theorem op_cat : OpR X (binaryOp .Add) rCat := by
  intro pins s σ H x y v u Q I rx ry h
  obtain ⟨l, b, xs, zs, rfl, rfl, hH, hB, hz, q⟩ := h
  cases rx
  cases ry
  obtain ⟨z, its, n, r, hl, e⟩ := I.lstM hH
  obtain ⟨z2, its2, n2, r2, hl2, e2⟩ := I.lstM hB
  refine PySem.P.add_list e e2 ?_ (by rw [List.size_toArray, List.size_toArray]; omega)
  have ea : its.toArray ++ its2.toArray = (its ++ its2).toArray := by simp
  rw [ea]
  exact ⟨.ref _, _, I.lnew (t' := s.toks) (r.append r2) (by rw [List.length_append]; omega), rfl, q _ I.fresh⟩
theorem len_rep {α : Type} (xs : List α) (k : Nat) : (List.replicate k xs).flatten.length = k * xs.length := by
  induction k with
  | zero => simp
  | succ k ih => rw [List.replicate_succ, List.flatten_cons, List.length_append, ih, Nat.succ_mul, Nat.add_comm]
/-! ### del xs[i] -/
end

/-! ### xs[a:b] = ys -/
section
variable {prog : Program} {w : World} {A : Around} {E : Value → Shared → Prop} {s : Shared}
end

section
variable {X : Cx}
end
end L2

namespace L2
open PySem PySem.Spec PyProof.Rows

theorem Vals.ints : ∀ {ns : List Int} {us : List Value}, Vals (ns.map V.int) us → IntsAre us ns
  | [], us, h => by
    rw [List.map_nil] at h
    cases h
    exact IntsAre.nil
  | n :: ns, us, h => by
    rw [List.map_cons] at h
    cases h with
    | cons r t =>
      obtain ⟨k, rfl⟩ := r
      exact IntsAre.cons n k (Vals.ints t)
theorem Vals.strs : ∀ {xs : List Str} {us : List Value}, Vals (xs.map V.str) us → StrsAre us xs
  | [], us, h => by
    rw [List.map_nil] at h
    cases h
    exact StrsAre.nil
  | x :: xs, us, h => by
    rw [List.map_cons] at h
    cases h with
    | cons r t =>
      obtain ⟨k, rfl⟩ := r
      exact StrsAre.cons x k (Vals.strs t)
theorem Vals.bls : ∀ {bs : List Bool} {us : List Value}, Vals (bs.map V.bl) us → us = bs.map Value.bool
  | [], us, h => by
    rw [List.map_nil] at h
    cases h
    rfl
  | b :: bs, us, h => by
    rw [List.map_cons] at h
    cases h with
    | cons r t =>
      cases r
      rw [Vals.bls t, List.map_cons]
theorem Vals.ref1 {a : Addr} {us : List Value} (r : Vals [V.ref a] us) : us = [Value.ref a] := by
  cases r with
  | cons r t =>
    cases t
    cases r
    rfl
/-! ### the library's walks over a list of ints, kept objects alone -/
section
variable {prog : Program} {w : World} {A : Around} {E : Value → Shared → Prop} {s : Shared} {l : Addr} {its : List Value} {ns : List Int} {Q : Value → Shared → Prop}
theorem sum_raw (hh : A.handled = none) (hl : s.heap.IsList l its.toArray) (hi : IntsAre its ns)
    (h : ∀ h' tk t', (∀ b o, s.heap.get? b = some o → h'.get? b = some o) → Q (.int ns.sum t') { s with heap := h', toks := tk }) : wpAny (model prog w) A (call (.builtin "sum") [.ref l]) Q E s := by
  obtain ⟨xs, e⟩ := hi.allInts.items
  have hn : numsOf (intItems xs).toList = ns := by rw [← e]; exact hi.numsOf
  rw [nums_intItems] at hn
  rw [e] at hl
  refine PySem.sum_intListG hh hl fun h' tk t' hk => ?_
  have := h h' tk t' hk
  rw [preSum_eq, List.take_of_length_le (by simp), hn]; exact this
end

/-! ### the calls, by values (CallR of 03t; MtR of 06l) -/
section
variable {X : Cx}
/-- sum(xs) of a list of ints -/
def rSum (K : PySem.W.Frag) : List V → Hp → VK → Prop := fun vs H Q => ∃ (a : Addr) (ns : List Int), vs = [V.ref a] ∧ SqL K H a (ns.map V.int) ∧ Q (.int ns.sum) H
theorem cr_sum (hc : X.calm = true) : CallR X (.builtin "sum") (rSum X.K) := by
  intro pins s σ H vs us Q I r h
  obtain ⟨a, ns, rfl, hs, q⟩ := h
  obtain ⟨its, rv, hl, _⟩ := I.list hs
  rw [Vals.ref1 r]
  exact sum_raw (I.ok.hd hc) hl.isList rv.ints fun h' tk t' hk => ⟨.int _, H, I.kept hk, ⟨_, rfl⟩, q⟩
/-! sorted, sort (fewer than 64 items: the library's own bound) -/
end

/-! ### list.index, flat items -/
section
variable {X : Cx}
end

/-! ### type(x) of an own instance; is, is not of a module's class -/
section
variable {X : Cx}
end

/-! ### any(xs), all(xs) of a list of bools -/
theorem iter_any {prog : Program} {w : World} {A : Around} {E : Value → Shared → Prop} {s : Shared} {l : Addr} {items : Array Value} {Q : Value → Shared → Prop} (hl : s.heap.IsList l items)
    (h : ∀ s₂ : Shared, s₂ = { s with heap := s.heap.push { cls := .type "list_iterator", data := .fields #[.ref l, .int 0 0] } } →
      (s₂.heap.IsListIter s.heap.objs.size l 0 ∧ s₂.heap.IsList l items) → l ≠ s.heap.objs.size → Q (.ref s.heap.objs.size) s₂) : wpAny (model prog w) A (pyIter (.ref l)) Q E s := by
  have hlt : l < s.heap.objs.size := by obtain ⟨_, e, _⟩ := hl; exact Heap.lt_size e
  exact wpAny_pyIter_list hl (h _ rfl ⟨⟨_, Heap.get?_push_size _ rfl, rfl, rfl⟩, hl.push _⟩ (Nat.ne_of_lt hlt))
theorem truth_bools {prog : Program} {w : World} {A : Around} {bs : List Bool} {its : List Value} (e : its = bs.map Value.bool) :
    TruthOf prog w A (fun i v => its.toArray[i]? = some v) (fun i => bs.getD i false) := fun i v s Q E hv hq => by
  have hv' : its[i]? = some v := by simpa using hv
  rw [e, List.getElem?_map] at hv'
  obtain ⟨b, hb, rfl⟩ := Option.map_eq_some_iff.mp hv'
  have hg : bs.getD i false = b := by rw [List.getD_eq_getElem?_getD, hb] <;> rfl
  have hq' : Q (bs.getD i false) s := hq
  rw [hg] at hq'
  exact wpAny_truthy_bool hq'
theorem any_range : ∀ bs : List Bool, (List.range bs.length).any (fun i => bs.getD i false) = bs.any id
  | [] => rfl
  | b :: bs => by
    rw [List.length_cons, List.range_succ_eq_map, List.any_cons, List.any_map, List.any_cons, ← any_range bs]
    all_goals rfl
theorem all_range : ∀ bs : List Bool, (List.range bs.length).all (fun i => bs.getD i false) = bs.all id
  | [] => rfl
  | b :: bs => by
    rw [List.length_cons, List.range_succ_eq_map, List.all_cons, List.all_map, List.all_cons, ← all_range bs]
    all_goals rfl
section
variable {X : Cx}
def rAll (K : PySem.W.Frag) : List V → Hp → VK → Prop := fun vs H Q => ∃ (a : Addr) (bs : List Bool), vs = [V.ref a] ∧ SqL K H a (bs.map V.bl) ∧ Q (.bl (bs.all id)) H
theorem cr_all (hc : X.calm = true) : CallR X (.builtin "all") (rAll X.K) := by
  intro pins s σ H vs us Q I r h
  obtain ⟨a, bs, rfl, hs, q⟩ := h
  obtain ⟨its, rv, hl, _⟩ := I.list hs
  rw [Vals.ref1 r]
  have hb := rv.bls
  refine call_all_walk (iter_any hl.isList fun s₂ e2 st hne => ?_)
  subst e2
  refine ⟨_, _, _, _, _, _, _, rfl, Walks.list (A := X.A.in1) (I.ok.hd hc) _ a hne its.toArray, st, truth_bools hb, fun h' tk hk => ?_⟩
  refine ⟨.bl _, H, I.kept fun b o eo => hk b o (fun hmem => ?_) (Heap.get?_push_of_some _ eo), ?_, q⟩
  · rcases List.mem_cons.mp hmem with e1 | hmem
    · exact absurd (e1 ▸ Heap.lt_size eo) (Nat.lt_irrefl _)
    · cases hmem
  · show Value.bool _ = Value.bool _
    rw [← all_range, hb, List.size_toArray, List.length_map]
end

/-! ### == and != of data at any depth: none, bools, ints, texts, lists, tuples -/
mutual
inductive Dp (K : PySem.W.Frag) (H : Hp) : V → PyData → Prop
  | non : Dp K H .non .none
  | bl (b : Bool) : Dp K H (.bl b) (.bool b)
  | int (i : Int) : Dp K H (.int i) (.int i)
  | str (x : Str) : Dp K H (.str x) (.str x)
  | lst {a : Addr} {xs : List V} {ds : List PyData} : SqL K H a xs → DpAll K H xs ds → Dp K H (.ref a) (.list ds)
  | tup {a : Addr} {xs : List V} {ds : List PyData} : SqT K H a xs → DpAll K H xs ds → Dp K H (.ref a) (.tuple ds)
inductive DpAll (K : PySem.W.Frag) (H : Hp) : List V → List PyData → Prop
  | nil : DpAll K H [] []
  | cons {v : V} {vs : List V} {d : PyData} {ds : List PyData} : Dp K H v d → DpAll K H vs ds → DpAll K H (v :: vs) (d :: ds)
end
section
variable {X : Cx} {pins : List (Addr × Obj)} {σ : St} {H : Hp} {s : Shared}
mutual
theorem Dp.reads (I : Inv X pins σ H s) : ∀ (d : PyData) (v : V) (u : Value), Dp X.K H v d → RelV v u → ∃ as, Reads s.heap u d as
  | .none, _, _, h, r => by
    cases h
    cases r
    exact ⟨_, Reads.none⟩
  | .bool b, _, _, h, r => by
    cases h
    cases r
    exact ⟨_, Reads.bool b⟩
  | .int i, _, _, h, r => by
    cases h
    obtain ⟨t, rfl⟩ := r
    exact ⟨_, Reads.int i t⟩
  | .str x, _, _, h, r => by
    cases h
    obtain ⟨t, rfl⟩ := r
    exact ⟨_, Reads.str x t⟩
  | .list ds, _, _, h, r => by
    cases h with
    | lst hs ha =>
      cases r
      obtain ⟨its, rv, ⟨o, n, ho, hc, _, hd⟩, _⟩ := I.list hs
      obtain ⟨as, hr⟩ := Dp.readsAll I ds _ its ha rv
      exact ⟨_, Reads.list ho hc hd hr⟩
  | .tuple ds, _, _, h, r => by
    cases h with
    | tup hs ha =>
      cases r
      obtain ⟨its, rv, ⟨o, ho, hc, n, hd⟩, _⟩ := I.tuple hs
      obtain ⟨as, hr⟩ := Dp.readsAll I ds _ its ha rv
      exact ⟨_, Reads.tuple ho hc hd hr⟩
  | .dict _, _, _, h, _ => by cases h
theorem Dp.readsAll (I : Inv X pins σ H s) : ∀ (ds : List PyData) (vs : List V) (us : List Value), DpAll X.K H vs ds → Vals vs us → ∃ as, ReadsAll s.heap us ds as
  | [], _, _, h, r => by
    cases h
    cases r
    exact ⟨_, ReadsAll.nil⟩
  | d :: ds, _, _, h, r => by
    cases h with
    | cons h1 h2 =>
      cases r with
      | cons r1 r2 =>
        obtain ⟨as, q1⟩ := Dp.reads I d _ _ h1 r1
        obtain ⟨bs, q2⟩ := Dp.readsAll I ds _ _ h2 r2
        exact ⟨_, ReadsAll.cons q1 q2⟩
end
end
section
variable {X : Cx}
def rEqD (K : PySem.W.Frag) : R2 := fun x y H Q => ∃ d e, Dp K H x d ∧ Dp K H y e ∧ SeqAt.shaped d = true ∧ SeqAt.shaped e = true ∧ Q (.bl (PyData.eqv d e)) H
def rNeD (K : PySem.W.Frag) : R2 := fun x y H Q => ∃ d e, Dp K H x d ∧ Dp K H y e ∧ SeqAt.shaped d = true ∧ SeqAt.shaped e = true ∧ Q (.bl (!PyData.eqv d e)) H
theorem op_eqD (hu : X.A.units + 64 < cLine) : OpR X (compareOp .Eq) (rEqD X.K) := by
  intro pins s σ H x y v u Q I rx ry h
  obtain ⟨d, e, hd, he, sd, se, q⟩ := h
  obtain ⟨as, r1⟩ := Dp.reads I d x v hd rx
  obtain ⟨bs, r2⟩ := Dp.reads I e y u he ry
  exact SeqAt.compareEq_shaped r1 r2 sd se hu ⟨.bl _, H, I, rfl, q⟩
theorem op_neD (hu : X.A.units + 64 < cLine) : OpR X (compareOp .NotEq) (rNeD X.K) := by
  intro pins s σ H x y v u Q I rx ry h
  obtain ⟨d, e, hd, he, sd, se, q⟩ := h
  obtain ⟨as, r1⟩ := Dp.reads I d x v hd rx
  obtain ⟨bs, r2⟩ := Dp.reads I e y u he ry
  exact SeqAt.compareNe_shaped r1 r2 sd se hu ⟨.bl _, H, I, rfl, q⟩
end
end L2

namespace L2
open PySem PySem.Spec PyProof.Rows
abbrev CellAt (h : Heap) (c : Addr) (v : Option Value) : Prop := h.IsCell c v
def relS (scope sc : Scope) : Scope :=
  { scope with names := scope.names.map fun (n, k) => if (k == .free && sc.kind == .function && sc.names.lookup n == some .cell) then (n, .cell) else (n, k) }

def cloFrom (cells : List (Str × Addr)) : List (Str × NameKind) → List (Str × Addr) → List (Str × Addr)
  | [], acc => acc
  | (n, k) :: r, acc => if k == .free then cloFrom cells r ((n, (cells.lookup n).getD 0) :: acc) else cloFrom cells r acc

theorem closure_loop (env : Env) (f : Str × NameKind → List (Str × Addr) → Sem (ForInStep (List (Str × Addr))))
    (hf : ∀ n k c, f (n, k) c = if k == .free then (do let a ← cellOf env n; pure (.yield ((n, a) :: c))) else pure (.yield c)) :
    ∀ (names : List (Str × NameKind)) (acc : List (Str × Addr)), (∀ y ∈ names, y.2 = .free → ∃ c, env.cells.lookup y.1 = some c) → forIn names acc f = pure (cloFrom env.cells names acc)
  | [], acc, _ => by rw [List.forIn_nil]; rfl
  | (n, k) :: r, acc, h => by
    rw [List.forIn_cons, hf]
    have ih := fun acc => closure_loop env f hf r acc fun y hy => h y (List.mem_cons_of_mem _ hy)
    unfold cloFrom
    by_cases hk : (k == NameKind.free) = true
    · rw [if_pos hk, if_pos hk]
      obtain ⟨c, hc⟩ := h (n, k) List.mem_cons_self (by simpa using hk)
      have e : cellOf env n = pure c := by unfold cellOf; rw [hc]
      rw [e]
      have e2 : (env.cells.lookup n).getD 0 = c := by rw [hc]; rfl
      rw [e2]
      exact ih _
    · rw [if_neg hk, if_neg hk]
      exact ih _
theorem closure_ok {scope : Scope} {env : Env} (h : ∀ y ∈ scope.names, y.2 = .free → ∃ c, env.cells.lookup y.1 = some c) : closureFor scope env = pure (cloFrom env.cells scope.names []) := by
  simp only [closureFor]
  rw [closure_loop env _ (fun n k c => rfl) scope.names [] h]
  rfl

theorem mem_lookup {α : Type} : ∀ {l : List (Str × α)} {n : Str} {c : α}, (n, c) ∈ l → ∃ c', l.lookup n = some c'
  | (k, v) :: r, n, c, h => by
    rw [List.lookup_cons]
    cases hb : n == k with
    | true => exact ⟨_, rfl⟩
    | false =>
      rcases List.mem_cons.mp h with e | h
      · cases e; simp at hb
      · exact mem_lookup h

theorem cloFrom_mem {cells : List (Str × Addr)} : ∀ {names : List (Str × NameKind)} {acc : List (Str × Addr)} {n : Str} {c : Addr}, (n, c) ∈ cloFrom cells names acc → (n, c) ∈ acc ∨ ((n, .free) ∈ names ∧ c = (cells.lookup n).getD 0)
  | [], _, _, _, h => .inl h
  | (m, k) :: r, acc, n, c, h => by
    unfold cloFrom at h
    split at h
    · rename_i hk
      have hk : k = .free := by simpa using hk
      rcases cloFrom_mem h with h | ⟨h1, h2⟩
      · rcases List.mem_cons.mp h with e | h
        · cases e; exact .inr ⟨hk ▸ List.mem_cons_self, rfl⟩
        · exact .inl h
      · exact .inr ⟨List.mem_cons_of_mem _ h1, h2⟩
    · rcases cloFrom_mem h with h | ⟨h1, h2⟩
      · exact .inl h
      · exact .inr ⟨List.mem_cons_of_mem _ h1, h2⟩
theorem cloFrom_acc {cells : List (Str × Addr)} : ∀ {names : List (Str × NameKind)} {acc : List (Str × Addr)} {p : Str × Addr}, p ∈ acc → p ∈ cloFrom cells names acc
  | [], _, _, h => h
  | (m, k) :: r, acc, p, h => by
    unfold cloFrom
    split
    · exact cloFrom_acc (List.mem_cons_of_mem _ h)
    · exact cloFrom_acc h
theorem cloFrom_has {cells : List (Str × Addr)} : ∀ {names : List (Str × NameKind)} {acc : List (Str × Addr)} {n : Str}, (n, .free) ∈ names → (n, (cells.lookup n).getD 0) ∈ cloFrom cells names acc
  | (m, k) :: r, acc, n, h => by
    unfold cloFrom
    rcases List.mem_cons.mp h with e | h
    · cases e
      exact cloFrom_acc List.mem_cons_self
    · split
      · exact cloFrom_has h
      · exact cloFrom_has h

theorem cells_mem : ∀ {names : List (Str × NameKind)} {h : Heap} {acc : List (Str × Addr)} {x : Str} {c : Addr}, (x, c) ∈ cellsFrom h.objs.size names acc →
    (x, c) ∈ acc ∨ ((x, .cell) ∈ names ∧ h.objs.size ≤ c ∧ CellAt (pushCells h names) c none)
  | [], _, _, _, _, h => .inl h
  | (n, k) :: r, h, acc, x, c, hm => by
    unfold cellsFrom at hm
    unfold pushCells
    split at hm
    · rename_i hk
      rw [if_pos hk]
      have hk : k = .cell := by simpa using hk
      rw [← Heap.size_push h { cls := .type "cell", data := .cell none }] at hm
      rcases cells_mem hm with hm | ⟨h1, h2, h3⟩
      · rcases List.mem_cons.mp hm with e | hm
        · cases e
          exact .inr ⟨hk ▸ List.mem_cons_self, Nat.le_refl _, _, pushCells_keeps r _ _ _ (Heap.get?_push_size _ rfl), rfl⟩
        · exact .inl hm
      · rw [Heap.size_push] at h2
        exact .inr ⟨List.mem_cons_of_mem _ h1, Nat.le_of_succ_le h2, h3⟩
    · rename_i hk
      rw [if_neg hk]
      rcases cells_mem hm with hm | ⟨h1, h2, h3⟩
      · exact .inl hm
      · exact .inr ⟨List.mem_cons_of_mem _ h1, h2, h3⟩
theorem cells_acc : ∀ {names : List (Str × NameKind)} {n : Nat} {acc : List (Str × Addr)} {p : Str × Addr}, p ∈ acc → p ∈ cellsFrom n names acc
  | [], _, _, _, h => h
  | (m, k) :: r, n, acc, p, h => by
    unfold cellsFrom
    split
    · exact cells_acc (List.mem_cons_of_mem _ h)
    · exact cells_acc h
theorem cells_has : ∀ {names : List (Str × NameKind)} {n : Nat} {acc : List (Str × Addr)} {x : Str}, (x, .cell) ∈ names → ∃ c, (x, c) ∈ cellsFrom n names acc
  | (m, k) :: r, n, acc, x, h => by
    unfold cellsFrom
    rcases List.mem_cons.mp h with e | h
    · cases e
      exact ⟨n, cells_acc List.mem_cons_self⟩
    · split
      · exact cells_has h
      · exact cells_has h
theorem cells_inj : ∀ {names : List (Str × NameKind)} {h : Heap} {acc : List (Str × Addr)} {x y : Str} {c : Addr}, (∀ p ∈ acc, p.2 < h.objs.size) → (∀ x y c, (x, c) ∈ acc → (y, c) ∈ acc → x = y) →
    (x, c) ∈ cellsFrom h.objs.size names acc → (y, c) ∈ cellsFrom h.objs.size names acc → x = y
  | [], _, _, _, _, _, _, hi, h1, h2 => hi _ _ _ h1 h2
  | (n, k) :: r, h, acc, x, y, c, hl, hi, h1, h2 => by
    unfold cellsFrom at h1 h2
    split at h1
    · rename_i hk
      rw [if_pos hk] at h2
      rw [← Heap.size_push h { cls := .type "cell", data := .cell none }] at h1 h2
      refine cells_inj (h := h.push _) (fun p hp => ?_) (fun x y c a b => ?_) h1 h2
      · rw [Heap.size_push]
        rcases List.mem_cons.mp hp with rfl | hp
        · exact Nat.lt_succ_self _
        · exact Nat.lt_succ_of_lt (hl p hp)
      · rcases List.mem_cons.mp a with e | a <;> rcases List.mem_cons.mp b with e' | b
        · cases e; cases e'; rfl
        · cases e; exact absurd (hl _ b) (Nat.lt_irrefl _)
        · cases e'; exact absurd (hl _ a) (Nat.lt_irrefl _)
        · exact hi _ _ _ a b
    · rename_i hk
      rw [if_neg hk] at h2
      exact cells_inj hl hi h1 h2

theorem newEnv_comp {M : Model} {A : Around} {E : Value → Shared → Prop} {s : Shared} {scope : Scope} {globals : Addr} {closure : List (Str × Addr)} {qual : Str} {func : Option Addr} {code : Value} {around : Env} {builtins : Addr} {Q : Env → Shared → Prop}
    (h : Q (newEnv scope s.heap.objs.size globals (cellsFrom (s.heap.objs.size + 1) scope.names closure) qual func code (some around) builtins)
      { s with heap := pushCells (s.heap.push { cls := .type "dict", data := .dict #[] }) scope.names }) :
    wpAny M A (newFunctionEnv scope globals closure [] qual func code (some around) builtins) Q E s := by
  simp only [newFunctionEnv, Option.isSome_some, if_true]
  refine wpAny_bind (wpAny_alloc ?_)
  refine wpAny_bind (wpAny_layCells _ (fun n k c => rfl) scope.names closure _ _ ?_)
  rw [show ({ s with heap := s.heap.push { cls := .type "dict", data := .dict #[] } } : Shared).heap.objs.size = s.heap.objs.size + 1 from Heap.size_push ..]
  rw [List.forIn_nil]
  exact wpAny_bind (wpAny_pure (wpAny_pure h))

/-- every name of the written scope, in the scope that runs -/
theorem lookup_relS {sc : Scope} : ∀ {names : List (Str × NameKind)} {x : Str} {k : NameKind},
    (names.map fun (n, k) => if (k == NameKind.free && sc.kind == .function && sc.names.lookup n == some .cell) then (n, NameKind.cell) else (n, k)).lookup x = some k →
    ∃ k', names.lookup x = some k' ∧ (k = k' ∨ (k' = .free ∧ k = .cell))
  | [], _, _, h => by simp at h
  | (n, k₀) :: r, x, k, h => by
    have ih := @lookup_relS sc r x k
    have h' : List.lookup x ((if (k₀ == NameKind.free && sc.kind == .function && sc.names.lookup n == some .cell) = true then (n, NameKind.cell) else (n, k₀)) :: (r.map _)) = some k := h
    cases hx : x == n with
    | true =>
      simp only [List.lookup_cons, hx]
      by_cases hc : (k₀ == NameKind.free && sc.kind == .function && sc.names.lookup n == some .cell) = true
      · rw [if_pos hc] at h'
        simp only [List.lookup_cons, hx] at h'
        cases h'
        simp only [Bool.and_eq_true, beq_iff_eq] at hc
        exact ⟨k₀, rfl, .inr ⟨hc.1.1, rfl⟩⟩
      · rw [if_neg hc] at h'
        simp only [List.lookup_cons, hx] at h'
        cases h'
        exact ⟨_, rfl, .inl rfl⟩
    | false =>
      simp only [List.lookup_cons, hx]
      by_cases hc : (k₀ == NameKind.free && sc.kind == .function && sc.names.lookup n == some .cell) = true
      · rw [if_pos hc] at h'
        simp only [List.lookup_cons, hx] at h'
        exact ih h'
      · rw [if_neg hc] at h'
        simp only [List.lookup_cons, hx] at h'
        exact ih h'
/-- the names of a comprehension's block: its own (with their places in N), or captured -/
structure BlkOk (N : List Str) (sc scope : Scope) (own : List (Str × Nat)) : Prop where
  kind : scope.kind = .function
  uniq : ∀ y ∈ scope.names, scope.names.lookup y.1 = some y.2
  ix : ∀ p ∈ own, N[p.2]? = some p.1
  free : ∀ y ∈ scope.names, y.2 = .free → sc.names.lookup y.1 = some .cell ∨ sc.names.lookup y.1 = some .free
  own : ∀ y ∈ scope.names, y.2 = .local ∨ y.2 = .cell → y.1 ∈ own.map (·.1) ∨ y.1 ∉ N
/-- the slots of the block's own names forgotten -/
def wipe (σ : St) : List Nat → St
  | [] => σ
  | v :: vs => (wipe σ vs).set v none
theorem wipe_length (σ : St) : ∀ vs : List Nat, (wipe σ vs).length = σ.length
  | [] => rfl
  | v :: vs => by unfold wipe; rw [List.length_set, wipe_length σ vs]
theorem wipe_some {σ : St} {i : Nat} {x : V} : ∀ {vs : List Nat}, (wipe σ vs)[i]? = some (some x) → σ[i]? = some (some x) ∧ i ∉ vs
  | [], h => ⟨h, by simp⟩
  | v :: vs, h => by
    unfold wipe at h
    by_cases hi : v = i
    · subst hi
      by_cases hv : v < (wipe σ vs).length
      · rw [List.getElem?_set_self hv] at h; cases h
      · rw [List.getElem?_eq_none (by simpa using hv)] at h; cases h
    · rw [List.getElem?_set_ne hi] at h
      obtain ⟨h1, h2⟩ := wipe_some h
      exact ⟨h1, by simp only [List.mem_cons, not_or]; exact ⟨fun e => hi e.symm, h2⟩⟩

/-- the context of a block that starts at s, its iterator's objects at fp -/
abbrev Cx.blk (X : Cx) (s : Shared) (H : Hp) (scope : Scope) (cenv : Env) (fp : List Addr) : Cx := { X with s_0 := s, H_0 := H, env := cenv, outer := X.stack, ex := fp, fn := fun x => scope.names.lookup x == some .cell, pn := [], xe := fun _ _ => False }
section
variable {X : Cx} {pins : List (Addr × Obj)} {σ : St} {H : Hp} {s : Shared}
theorem block_start {scope : Scope} {own : List (Str × Nat)} {fp : List Addr} (I : Inv X pins σ H s) (ok : BlkOk X.N X.env.scope scope own) (hN : X.N.Nodup) (hfp : ∀ b ∈ fp, FpOk X pins H b ∧ b < s.heap.objs.size) :
    Inv (X.blk s H scope (compEnvC scope (cellsFrom (s.heap.objs.size + 1) scope.names (cloFrom X.env.cells scope.names [])) s.heap.objs.size X.env) fp) [] (wipe σ (own.map (·.2))) H { s with heap := pushCells (s.heap.push { cls := .type "dict", data := .dict #[] }) scope.names } := by
  have hfree : ∀ y ∈ scope.names, y.2 = .free → ∃ c, X.env.cells.lookup y.1 = some c := fun y hy e => by
    rcases ok.free y hy e with k | k
    · exact I.ok.has _ (.inl k)
    · exact I.ok.has _ (.inr k)
  generalize hcenv : compEnvC scope (cellsFrom (s.heap.objs.size + 1) scope.names (cloFrom X.env.cells scope.names [])) s.heap.objs.size X.env = cenv
  have kp : ∀ b o, s.heap.get? b = some o → (pushCells (s.heap.push { cls := .type "dict", data := .dict #[] }) scope.names).get? b = some o := fun b o e => pushCells_keeps _ _ _ _ (Heap.get?_push_of_some _ e)
  have hL : cenv.locals = s.heap.objs.size := by rw [← hcenv]; rfl
  have hcl : cenv.cells = cellsFrom (s.heap.objs.size + 1) scope.names (cloFrom X.env.cells scope.names []) := by rw [← hcenv]; rfl
  have hsc : cenv.scope = relS scope X.env.scope := by rw [← hcenv]; rfl
  rw [← Heap.size_push s.heap { cls := .type "dict", data := .dict #[] }] at hcl
  have cm : ∀ {y c}, (y, c) ∈ cloFrom X.env.cells scope.names [] → X.env.cells.lookup y = some c ∧ c < s.heap.objs.size := fun {y c} hm => by
    rcases cloFrom_mem hm with hm | ⟨h1, rfl⟩
    · cases hm
    · obtain ⟨c, hc⟩ := hfree _ h1 rfl
      rw [hc]
      obtain ⟨w, z⟩ := I.cell _ _ hc
      exact ⟨rfl, z.lt⟩
  have mem : ∀ {y c}, cenv.cells.lookup y = some c → (X.env.cells.lookup y = some c ∧ c < s.heap.objs.size) ∨ (s.heap.objs.size + 1 ≤ c ∧ CellAt (pushCells (s.heap.push { cls := .type "dict", data := .dict #[] }) scope.names) c none) := fun {y c} e => by
    rw [hcl] at e
    rcases cells_mem (PySem.mem_of_lookup e) with hm | ⟨_, h2, h3⟩
    · exact .inl (cm hm)
    · rw [Heap.size_push] at h2; exact .inr ⟨h2, h3⟩
  have look : ∀ {y}, scope.names.lookup y = some .free → ∃ c, cenv.cells.lookup y = some c ∧ X.env.cells.lookup y = some c := fun {y} hl => by
    have hy : (y, NameKind.free) ∈ scope.names := PySem.mem_of_lookup hl
    obtain ⟨c', e'⟩ := mem_lookup (cells_acc (names := scope.names) (n := (s.heap.push { cls := .type "dict", data := .dict #[] }).objs.size) (cloFrom_has (cells := X.env.cells) (acc := []) hy))
    rw [← hcl] at e'
    refine ⟨c', e', ?_⟩
    rw [hcl] at e'
    rcases cells_mem (PySem.mem_of_lookup e') with hm | ⟨h1, _, _⟩
    · exact (cm hm).1
    · have := ok.uniq _ h1
      rw [hl] at this; cases this
  have okB : (X.blk s H scope cenv fp).Ok := by
    refine ⟨I.ok.mod, by show cenv.scope.kind = _; rw [hsc]; exact ok.kind, by show cenv.globals = _; rw [← hcenv]; exact I.ok.glob, by show cenv.builtins = _; rw [← hcenv]; exact I.ok.blt, by show s.heap.objs.size ≤ cenv.locals; rw [hL]; exact Nat.le_refl _,
      fun y z c e1 e2 => ?_, fun y hy => ?_, fun y c z e => ?_, I.ok.hd, I.ok.frames, .inl rfl, fun b hb => ⟨?_, fun y c e z => ?_⟩, I.bs, Nat.le_trans I.ok.bsz I.sz, fun b o e hb => ?_, fun b hb z => ?_, I.stack, I.stkFree⟩
    · have e1 : cenv.cells.lookup y = some c := e1
      have e2 : cenv.cells.lookup z = some c := e2
      rw [hcl] at e1 e2
      refine cells_inj (fun p hp => ?_) (fun y z c a b => I.ok.inj y z c (cm a).1 (cm b).1) (PySem.mem_of_lookup e1) (PySem.mem_of_lookup e2)
      rw [Heap.size_push]
      exact Nat.lt_succ_of_lt (cm (y := p.1) (c := p.2) hp).2
    · show ∃ c, cenv.cells.lookup y = some c
      have key : ∀ k, cenv.kindOf y = some k → (k = .cell ∨ k = .free) → ∃ c, cenv.cells.lookup y = some c := fun k hk hk' => by
        unfold Env.kindOf at hk
        rw [hsc] at hk
        obtain ⟨k', e, r⟩ := lookup_relS hk
        have : k' = .cell ∨ k' = .free := by
          rcases r with rfl | ⟨rfl, _⟩
          · exact hk'
          · exact .inr rfl
        rcases this with rfl | rfl
        · obtain ⟨c, hm⟩ := cells_has (n := (s.heap.push { cls := .type "dict", data := .dict #[] }).objs.size) (acc := cloFrom X.env.cells scope.names []) (PySem.mem_of_lookup e)
          obtain ⟨c', e'⟩ := mem_lookup hm
          exact ⟨c', by rw [hcl]; exact e'⟩
        · obtain ⟨c, h1, _⟩ := look e
          exact ⟨c, h1⟩
      rcases hy with hy | hy
      · exact key _ hy (.inl rfl)
      · exact key _ hy (.inr rfl)
    · have z : (scope.names.lookup y == some NameKind.cell) = true := z
      have z : scope.names.lookup y = some .cell := by simpa using z
      have e : cenv.cells.lookup y = some c := e
      rw [hcl] at e
      rcases cells_mem (PySem.mem_of_lookup e) with hm | ⟨_, h2, _⟩
      · rcases cloFrom_mem hm with hm | ⟨h1, _⟩
        · cases hm
        · have q := ok.uniq _ h1
          rw [z] at q; cases q
      · rw [Heap.size_push] at h2
        exact Nat.le_of_succ_le h2
    · show b ≠ cenv.locals
      rw [hL]; exact Nat.ne_of_lt (hfp b hb).2
    · have e : cenv.cells.lookup y = some c := e
      rcases mem e with ⟨h1, _⟩ | ⟨h1, _⟩
      · exact (hfp b hb).1.2.2.2.2.1 y c h1 z
      · have h2 : s.heap.objs.size + 1 ≤ b := by rw [← z]; exact h1
        exact absurd (Nat.lt_of_lt_of_le (hfp b hb).2 (Nat.le_of_succ_le h2)) (Nat.lt_irrefl _)
    · rcases (hfp b hb).1.2.2.2.1 with z | z
      · exact I.ok.noex b o e z
      · exact absurd (Nat.lt_of_lt_of_le (Heap.lt_size e) (Nat.le_trans I.ok.bsz z)) (Nat.lt_irrefl _)
    · rcases List.mem_cons.mp (I.stkSub b z) with z | z
      · exact (hfp b hb).1.2.1 z
      · exact (hfp b hb).1.2.2.1 z
  refine ⟨okB, rfl, I.bare, Un.kept kp, ⟨fun _ => none, ?_, fun i y av e1 e2 e3 => ?_⟩, fun y c e => ?_, ?_, fun y c e => ?_, fun p hp => ?_, I.hok.kept kp, by rw [wipe_length]; exact I.len⟩
  · show Heap.Ns _ cenv.locals _
    rw [hL]
    exact Heap.Ns.keeps (Heap.Ns.new ..) fun b o e => pushCells_keeps _ _ _ _ e
  · obtain ⟨e2, hne⟩ := wipe_some e2
    have hfr : scope.names.lookup y = some .free ∧ (cenv.kindOf y = some .cell ∨ cenv.kindOf y = some .free) := by
      have key : ∀ k, cenv.scope.names.lookup y = some k → k = .local ∨ k = .cell ∨ k = .free → scope.names.lookup y = some .free ∧ (cenv.kindOf y = some .cell ∨ cenv.kindOf y = some .free) := fun k hk hk' => by
        have hk0 := hk
        rw [hsc] at hk
        obtain ⟨k', e, r⟩ := lookup_relS hk
        have no : ¬ (k' = .local ∨ k' = .cell) := fun hh => by
          rcases ok.own _ (PySem.mem_of_lookup e) hh with e' | e'
          · obtain ⟨p, hp, hpy⟩ := List.mem_map.mp e'
            have e3 := ok.ix p hp
            have : p.1 = y := hpy
            rw [this] at e3
            exact hne (List.mem_map.mpr ⟨p, hp, nodup_ix hN e3 e1⟩)
          · exact e' (List.mem_of_getElem? e1)
        rcases r with rfl | ⟨rfl, rfl⟩
        · rcases hk' with rfl | rfl | rfl
          · exact absurd (.inl rfl) no
          · exact absurd (.inr rfl) no
          · exact ⟨e, .inr hk0⟩
        · exact ⟨e, .inl hk0⟩
      have e3 : Vis cenv.scope y := e3
      rcases e3 with e3 | e3 | e3
      · exact key _ e3 (.inl rfl)
      · exact key _ e3 (.inr (.inl rfl))
      · exact key _ e3 (.inr (.inr rfl))
    obtain ⟨m, hn, hl⟩ := I.loc
    have hvis : Vis X.env.scope y := (ok.free _ (PySem.mem_of_lookup hfr.1) rfl).elim (fun k => .inr (.inl k)) (fun k => .inr (.inr k))
    obtain ⟨w, r, q⟩ := hl i y av e1 e2 hvis
    refine ⟨w, r, .inr ⟨hfr.2, ?_⟩⟩
    obtain ⟨c, h1, h2⟩ := look hfr.1
    rcases q with ⟨k, _⟩ | ⟨_, c', e', z⟩
    · have k : X.env.scope.names.lookup y = some .local := k
      rcases ok.free _ (PySem.mem_of_lookup hfr.1) rfl with k' | k' <;> rw [show X.env.scope.names.lookup y = _ from k'] at k <;> cases k
    · rw [h2] at e'; cases e'
      exact ⟨c, h1, z.keeps kp⟩
  · have e : cenv.cells.lookup y = some c := e
    rcases mem e with ⟨h1, _⟩ | ⟨_, z⟩
    · obtain ⟨w, z⟩ := I.cell y c h1
      exact ⟨w, z.keeps kp⟩
    · exact ⟨_, z⟩
  · show H cenv.locals = none
    rw [hL]; exact I.hok.fresh (Nat.le_refl _)
  · have e : cenv.cells.lookup y = some c := e
    rcases mem e with ⟨h1, _⟩ | ⟨h1, _⟩
    · exact I.freeC y c h1
    · exact I.hok.fresh (Nat.le_of_succ_le h1)
  · exact absurd (show p ∈ ([] : List (Addr × Obj)) ++ [] from hp) (by simp)

/-- an item appended to a tracked list -/
theorem app_ok {E : Value → Shared → Prop} {D : Addr} {xs : List V} {y : V} {v : Value} {Q : Value → Shared → Prop} (I : Inv X pins σ H s) (hD : H D = some (.lst xs)) (hz : xs.length < sizeLine) (r : RelV y v)
    (h : ∀ s', Inv X pins σ (upd H D (.lst (xs ++ [y]))) s' → Q .none s') : wpAny (model X.prog X.w) X.A (call (.builtin "list.append") [.ref D, v]) Q E s := by
  obtain ⟨hz', its, n, ri, e⟩ := I.hok D _ hD
  have hl := ri.length
  refine append_at (hsz := by rw [List.size_toArray]; omega) e fun h' sb ho' => ?_
  refine h { s with heap := h' } (I.write (t' := s.toks) (by rw [hD]; trivial) (.inl rfl) (fun b u hb q => (sb.2 b hb).trans q) ⟨_, ho'⟩ ⟨by rw [List.length_append]; exact hz, its ++ [v], n + 1, ri.append (.cons r .nil), ?_⟩)
  rw [ho']
  simp

/-- a clause's tests -/
def PTs (X : Cx) (ifs : List Expr) (t : TT) : Prop :=
  ∀ (pins : List (Addr × Obj)) (s : Shared) (σ : St) (H : Hp) (Q : Bool → Hp → Prop), Inv X pins σ H s → t σ H Q →
    wpAny (model X.prog X.w) X.A (forIn ifs true fun c r => if r = true then do let ok ← isTrue c X.env (eval c X.env); pure (ForInStep.yield ok) else pure (ForInStep.yield r)) (TP X pins σ Q) X.xe s
def tYes : TT := fun _ H Q => Q true H
theorem pts_nil : PTs X [] tYes := fun _ _ _ H _ I h => wpAny_tests_nil ⟨H, I, h⟩
theorem pts_one {c : Expr} {t : TT} (h : PT X c t) : PTs X [c] t := fun pins s σ H Q I hw => wpAny_tests_one (h pins s σ H Q I hw)
end

theorem thnF {α : Type} {t : Sem α} {Q Q' : α → Shared → Prop} {M : Model} {A : Around} {E : Value → Shared → Prop} {s : Shared} (h : wpAny M A t Q (fun _ _ => False) s) (hQ : ∀ a s, Q a s → Q' a s) : wpAny M A t Q' E s := wpAny_mono h hQ fun _ _ z => False.elim z

/-- the loop of a list comprehension's block, the target of any form (codeAny_compLoop_tests asks a target that no tuple goes to; statement and proof follow it, PyProof/CompMap.lean:41-61, with the step letOwnedTupleGo kept) -/
theorem compLoop_any {prog : Program} {w : World} {A : Around} {R : Result → Shared → Prop} {s : Shared} {elt target iter : Expr} {ifs : List Expr} {scope : Scope} {pos : Pos} {it acc : Value} {env : Env} (I : Nat → Shared → Prop)
    (turn : ∀ n s, I n s → wpAny (model prog w) A (pyNext it) (fun r s₁ => match r with
      | none => R (.ok .next) s₁
      | some v => wpAny (model prog w) A (letOwnedTupleGo target it v) (fun _ s₁' => wpAny (model prog w) A (assign target env v) (fun _ s₂ =>
          wpAny (model prog w) A (forIn ifs true fun c r => if r = true then do let ok ← isTrue c env (eval c env); pure (ForInStep.yield ok) else pure (ForInStep.yield r)) (fun ok s₃ =>
            if ok = true then wpAny (model prog w) A (eval elt env) (fun x s₄ =>
              wpAny (model prog w) A (call (.builtin "list.append") [acc, x]) (fun _ s₅ => ∃ m, m < n ∧ I m s₅) (notedBy (model prog w) A env fun e s' => R (.error e) s') s₄) (notedBy (model prog w) A env fun e s' => R (.error e) s') s₃
            else ∃ m, m < n ∧ I m s₃) (notedBy (model prog w) A env fun e s' => R (.error e) s') s₂) (notedBy (model prog w) A env fun e s' => R (.error e) s') s₁') (notedBy (model prog w) A env fun e s' => R (.error e) s') s₁) (notedBy (model prog w) A env fun e s' => R (.error e) s') s)
    (n : Nat) (h : I n s) :
    codeAny (model prog w) A (.compLoop (.ListComp elt [⟨target, iter, ifs, 0⟩] scope pos) 0 it acc env) R s := by
  refine codeAny_loop rfl I (fun n s hI => ?_) n h
  show wpAny _ A ((compTurn (.ListComp elt [⟨target, iter, ifs, 0⟩] scope pos) 0 it acc env).onRaise (fun x => do noteFrame x env; theTreesLotGoes x)) _ _ s
  refine wpAny_noted ?_
  rw [compTurn_list]
  refine wpAny_bind (wpAny_standAt (wpAny_bind (wpAny_mono (turn n s hI) (fun r s₁ h₁ => ?_) fun _ _ h' => h')))
  cases r with
  | none => exact wpAny_pure h₁
  | some v =>
    refine wpAny_bind (wpAny_mono h₁ (fun _ s₁' h₁' => ?_) fun _ _ h' => h')
    refine wpAny_bind (wpAny_mono h₁' (fun _ s₂ h₂ => wpAny_bind (wpAny_mono h₂ (fun ok s₃ h₃ => ?_) fun _ _ h' => h')) fun _ _ h' => h')
    cases ok with
    | false => exact wpAny_pure ⟨rfl, h₃⟩
    | true =>
      exact wpAny_bind (wpAny_bind (wpAny_mono h₃ (fun x s₄ h₄ => wpAny_bind (wpAny_mono h₄ (fun _ s₅ h₅ => wpAny_pure (wpAny_pure ⟨rfl, h₅⟩)) fun _ _ h' => h')) fun _ _ h' => h'))

section
variable {X : Cx}
/-- [elt for target in iter if ..]: D the new list; W by the turn and a measure, Nx what a turn is to reach -/
def tLc (wi : TI) (g : TG) (tt : TT) (te : TE) (vs : List Nat) : TE := fun σ H Q => wi σ H fun J H1 => ∀ D, H1 D = none → ∃ W : Nat → Nat → Hp → Prop, (∃ m, W 0 m (upd H1 D (.lst []))) ∧ ∀ i m H, W i m H →
  (J.stop i H ∧ Q (.ref D) H) ∨ (J.go i H ∧ ∃ Nx : Hp → Prop, (∀ H', Nx H' → ∃ m', m' < m ∧ W (i + 1) m' H') ∧ ∀ x H', J.yld i H x H' → g x (wipe σ vs) H' fun σ2 H2 => wipe σ2 vs = wipe σ vs ∧ tt σ2 H2 fun b H3 =>
    if b = true then te σ2 H3 fun y H4 => ∃ acc, H4 D = some (.lst acc) ∧ acc.length < sizeLine ∧ Nx (upd H4 D (.lst (acc ++ [y]))) else Nx H3)
theorem lc_core {pins : List (Addr × Obj)} {s : Shared} {σ : St} {H : Hp} {Q : VK} {elt tg iter : Expr} {ifs : List Expr} {scope : Scope} {own : List (Str × Nat)} {pos pos' : Pos} {wi : TI} {g : TG} {tt : TT} {te : TE} {use : Option (Value → Sem Unit)} {Qf : Value → Shared → Prop}
    (hc : X.calm = true) (hN : X.N.Nodup) (I : Inv X pins σ H s) (hi : PI X tg iter wi) (ok : BlkOk X.N X.env.scope scope own)
    (hg : ∀ (s : Shared) (H : Hp) (C : Addr) (cl : List (Str × Addr)) (fp : List Addr), PG (X.blk s H scope (compEnvC scope cl C X.env) fp) tg g) (ht : ∀ (s : Shared) (H : Hp) (C : Addr) (cl : List (Str × Addr)) (fp : List Addr), PTs (X.blk s H scope (compEnvC scope cl C X.env) fp) ifs tt)
    (he : ∀ (s : Shared) (H : Hp) (C : Addr) (cl : List (Str × Addr)) (fp : List Addr), PE (X.blk s H scope (compEnvC scope cl C X.env) fp) elt te) (hs : ∀ x, foldedSetIterable iter X.env x = pure x)
    (h : tLc wi g tt te (own.map (·.2)) σ H Q)
    (hRR : ∀ D C s' m H', Inv X pins σ H' s' → Q (.ref D) H' → s'.heap.Ns C m → FpOk X pins H' C → compPost (model X.prog X.w) X.A X.xe use Qf (.ref D) C (.ok .next) s') :
    wpAny (model X.prog X.w) X.A (comprehension (.ListComp elt [⟨tg, iter, ifs, 0⟩] scope pos) scope X.env pos' (newList []) false (eval iter X.env) use) Qf X.xe s := by
  have hfree : ∀ y ∈ scope.names, y.2 = .free → ∃ c, X.env.cells.lookup y.1 = some c := fun y hy e => by
    rcases ok.free y hy e with k | k
    · exact I.ok.has _ (.inl k)
    · exact I.ok.has _ (.inr k)
  refine wpAny_comprehension_free (use := use) rfl hs (closure_ok hfree) ok.kind (fun y hy e => by rw [ok.uniq y hy, e])
    (thn (hi pins s σ H _ I h) fun xv s1 hx => thn hx fun itv s2 h2 => ?_)
  obtain ⟨it, fp, tn, J, H2, e, I2, T, st2, f2, q⟩ := h2
  subst e
  refine wpAny_newObj_type (newEnv_comp ?_) (by show 0 ≤ sizeLine; decide)
  generalize hD : s2.heap.objs.size = D
  have hDn : H2 D = none := I2.hok.fresh (Nat.le_of_eq hD)
  obtain ⟨W, ⟨m0, w0⟩, turn⟩ := q D hDn
  -- the new list
  generalize hs3 : ({ s2 with heap := s2.heap.push { cls := .type "list", data := .seq ([] : List Value).toArray } } : Shared) = s3
  have I3 : Inv X pins σ (upd H2 D (.lst [])) s3 := by
    rw [← hs3]
    refine I2.laid (t' := s2.toks) (fun b o e => Heap.get?_push_of_some _ e) (Nat.le_of_eq hD) ⟨Nat.zero_le _, [], 0, .nil, ?_⟩
    rw [← hD]
    exact Heap.get?_push_size _ rfl
  have h3 : s3.heap = s2.heap.push { cls := .type "list", data := .seq ([] : List Value).toArray } := by rw [← hs3]
  have sz : ∀ b ∈ fp, b < s2.heap.objs.size := fun b hb => by
    obtain ⟨o, e, _⟩ := T.obj _ _ st2 b hb
    exact Heap.lt_size e
  have f3 : ∀ b ∈ fp, FpOk X pins (upd H2 D (.lst [])) b ∧ b < s3.heap.objs.size := fun b hb => by
    have hlt := sz b hb
    refine ⟨⟨?_, (f2 b hb).2⟩, by rw [h3, Heap.size_push]; exact Nat.lt_succ_of_lt hlt⟩
    rw [upd_ne (by rw [← hD]; exact Nat.ne_of_lt hlt)]
    exact (f2 b hb).1
  have st3 : tn 0 s3.heap := T.keep _ _ _ st2 fun b _ o e => by rw [h3]; exact Heap.get?_push_of_some _ e
  have I4 := block_start I3 ok hN f3
  have pg := hg s3 (upd H2 D (.lst [])) s3.heap.objs.size (cellsFrom (s3.heap.objs.size + 1) scope.names (cloFrom X.env.cells scope.names [])) fp
  have pt := ht s3 (upd H2 D (.lst [])) s3.heap.objs.size (cellsFrom (s3.heap.objs.size + 1) scope.names (cloFrom X.env.cells scope.names [])) fp
  have pe := he s3 (upd H2 D (.lst [])) s3.heap.objs.size (cellsFrom (s3.heap.objs.size + 1) scope.names (cloFrom X.env.cells scope.names [])) fp
  show codeAny _ _ (.compStart (.ListComp elt [⟨tg, iter, ifs, 0⟩] scope pos) 0 (.ref it) (.ref D) (compEnvC scope (cellsFrom (s3.heap.objs.size + 1) scope.names (cloFrom X.env.cells scope.names [])) s3.heap.objs.size X.env)) (compPost (model X.prog X.w) X.A X.xe use Qf (.ref D) s3.heap.objs.size) { s3 with heap := pushCells (s3.heap.push { cls := .type "dict", data := .dict #[] }) scope.names }
  have nfp : ∀ b ∈ fp, (upd H2 D (.lst [])) b = none := fun b hb => (f3 b hb).1.1
  generalize hce : compEnvC scope (cellsFrom (s3.heap.objs.size + 1) scope.names (cloFrom X.env.cells scope.names [])) s3.heap.objs.size X.env = ce at I4 pg pt pe ⊢
  have cL : ce.locals = s3.heap.objs.size := by subst hce; rfl
  generalize hH3 : upd H2 D (.lst []) = H3 at I3 I4 pg pt pe w0 nfp f3
  generalize hs4 : ({ s3 with heap := pushCells (s3.heap.push { cls := .type "dict", data := .dict #[] }) scope.names } : Shared) = s4 at I4 ⊢
  have st4 : tn 0 s4.heap := T.keep _ _ _ st3 fun b _ o e => by rw [← hs4]; exact pushCells_keeps _ _ _ _ (Heap.get?_push_of_some _ e)
  have stat : ∀ {σ' : St} {H' : Hp} {s' : Shared}, Inv (X.blk s3 H3 scope ce fp) [] σ' H' s' → (∀ b ∈ fp, H' b = none) → ∀ b ∈ fp, FpOk (X.blk s3 H3 scope ce fp) [] H' b := fun {σ' H' s'} I' hn b hb =>
    ⟨hn b hb, (I'.ok.exf b hb).1, I'.ok.exfs b hb, .inl hb, fun x c e => (I'.ok.exf b hb).2 x c e, fun p hp => absurd (show p ∈ ([] : List (Addr × Obj)) ++ [] from hp) (by simp)⟩
  have loop : codeAny (model X.prog X.w) X.A (.compLoop (.ListComp elt [⟨tg, iter, ifs, 0⟩] scope pos) 0 (.ref it) (.ref D) ce) (compPost (model X.prog X.w) X.A X.xe use Qf (.ref D) s3.heap.objs.size) s4 := by
    refine compLoop_any (fun n s' => ∃ i H', Inv (X.blk s3 H3 scope ce fp) [] (wipe σ (own.map (·.2))) H' s' ∧ tn i s'.heap ∧ (∀ b ∈ fp, H' b = none) ∧ W i n H') ?_ m0 ⟨0, H3, I4, st4, nfp, w0⟩
    rintro n s5 ⟨i, H5, I5, st5, n5, w5⟩
    rcases turn i n H5 w5 with ⟨stop, qq⟩ | ⟨go, Nx, hNx, step⟩
    · have td := T.done (X.blk s3 H3 scope ce fp) rfl rfl rfl hc i [] s5 _ H5 (fun _ _ => False) I5 (stat I5 n5) st5 stop
      refine thnF td fun r s6 ⟨hr, I6⟩ => ?_
      subst hr
      -- back in the def's context
      have I7 : Inv X pins σ H5 s6 := I3.call' (ch := fp) I6.os I6.base I6.hok I6.bare fun b hb => ⟨(f3 b hb).1.2.2.2.1, (f3 b hb).1.2.1, (f3 b hb).1.2.2.2.2.1, (f3 b hb).1.2.2.2.2.2⟩
      have nC : H5 s3.heap.objs.size = none := by
        have z : H5 ce.locals = none := I6.free
        rw [cL] at z
        exact z
      obtain ⟨m, hn, _⟩ := I6.loc
      have hn : s6.heap.Ns ce.locals m := hn
      rw [cL] at hn
      exact hRR D s3.heap.objs.size s6 m H5 I7 qq hn (I3.fpOk (Nat.le_refl _) nC)
    · have ti := T.item (X.blk s3 H3 scope ce fp) rfl rfl rfl hc i [] s5 _ H5 (fun _ _ => False) I5 (stat I5 n5) st5 go
      refine thnF ti fun r s6 ⟨u, hr, h6⟩ => ?_
      subst hr
      refine thnF h6 fun _ s7 ⟨x, H7, I7, r7, y7, st7, n7⟩ => ?_
      have I7' := I7.pinned (stat I7 n7) (T.obj _ _ st7)
      refine thnF (pg _ s7 _ H7 x u _ I7' r7 (step x H7 y7)) fun _ s8 ⟨σ8, H8, I8, hw8, q8⟩ => ?_
      refine thnF (pt _ s8 σ8 H8 _ I8 q8) fun b s9 ⟨H9, I9, q9⟩ => ?_
      -- the turn's end
      have fin : ∀ {s' : Shared} {H' : Hp}, Inv (X.blk s3 H3 scope ce fp) ([] ++ pinsAt fp s7.heap) σ8 H' s' → Nx H' → ∃ m, m < n ∧ ∃ i H', Inv (X.blk s3 H3 scope ce fp) [] (wipe σ (own.map (·.2))) H' s' ∧ tn i s'.heap ∧ (∀ b ∈ fp, H' b = none) ∧ W i m H' := fun {s' H'} I' nx => by
        obtain ⟨m', hm, w'⟩ := hNx H' nx
        have pin' : ∀ b ∈ fp, ∀ o, s7.heap.get? b = some o → s'.heap.get? b = some o ∧ H' b = none := fun b hb o e =>
          let z := I'.pin (b, o) (List.mem_append_right _ (List.mem_append_right _ (mem_pinsAt hb e)))
          ⟨z.1, z.2.1⟩
        have hl : (wipe σ (own.map (·.2))).length = σ8.length := by rw [← hw8, wipe_length]
        refine ⟨m', hm, i + 1, H', (I'.unpinned (pins := [])).weak hl (fun j v e => ?_), T.keep _ _ _ st7 fun b hb o e => (pin' b hb o e).1, fun b hb => ?_, w'⟩
        · rw [← hw8] at e
          exact (wipe_some e).1
        · obtain ⟨o, e, _⟩ := T.obj _ _ st7 b hb
          exact (pin' b hb o e).2
      cases b with
      | false =>
        simp only [Bool.false_eq_true, if_false] at q9 ⊢
        exact fin I9 q9
      | true =>
        simp only [if_true] at q9 ⊢
        refine thnF (pe _ s9 σ8 H9 _ I9 q9) fun z s10 ⟨yv, H10, I10, r10, acc, hD10, hz10, nx⟩ => ?_
        exact app_ok (X := X.blk s3 H3 scope ce fp) I10 hD10 hz10 r10 fun s11 I11 => fin I11 nx
  exact codeAny_compStart_list loop (T.self X.A 0 _ _ _ st4 loop)
/-- as a value -/
theorem pe_lc {elt tg iter : Expr} {ifs : List Expr} {scope : Scope} {own : List (Str × Nat)} {pos : Pos} {wi : TI} {g : TG} {tt : TT} {te : TE} (hc : X.calm = true) (hN : X.N.Nodup) (hi : PI X tg iter wi) (ok : BlkOk X.N X.env.scope scope own)
    (hg : ∀ (s : Shared) (H : Hp) (C : Addr) (cl : List (Str × Addr)) (fp : List Addr), PG (X.blk s H scope (compEnvC scope cl C X.env) fp) tg g) (ht : ∀ (s : Shared) (H : Hp) (C : Addr) (cl : List (Str × Addr)) (fp : List Addr), PTs (X.blk s H scope (compEnvC scope cl C X.env) fp) ifs tt)
    (he : ∀ (s : Shared) (H : Hp) (C : Addr) (cl : List (Str × Addr)) (fp : List Addr), PE (X.blk s H scope (compEnvC scope cl C X.env) fp) elt te) (hs : ∀ x, foldedSetIterable iter X.env x = pure x := by intro _; rfl) :
    PE X (.ListComp elt [⟨tg, iter, ifs, 0⟩] scope pos) (tLc wi g tt te (own.map (·.2))) := by
  intro pins s σ H Q I h
  rw [eval_ListComp]
  refine lc_core hc hN I hi ok hg ht he hs h fun D C s' m H' I' q hn f => ⟨m, hn, fun h'' sb => ?_⟩
  obtain ⟨f0, f1, f2, f3, f4, f5⟩ := f
  exact ⟨.ref D, H', I'.turned (t' := s'.toks) (fun b o hb e => (sb.2 b hb).trans e) f0 f1 f3 f4 f5, rfl, q⟩
/-- name = [..] on one line, the name a local -/
theorem ps_setLc {i : Nat} {y : Str} {py : Pos} {elt tg iter : Expr} {ifs : List Expr} {scope : Scope} {own : List (Str × Nat)} {pos spos : Pos} {wi : TI} {g : TG} {tt : TT} {te : TE} (hc : X.calm = true) (hN : X.N.Nodup) (hy : X.N[i]? = some y) (hyl : X.env.scope.names.lookup y = some .local)
    (hsw : swapsWith (.ListComp elt [⟨tg, iter, ifs, 0⟩] scope pos) (some (.Name y py)) spos.line X.env = pure true) (hi : PI X tg iter wi) (ok : BlkOk X.N X.env.scope scope own)
    (hg : ∀ (s : Shared) (H : Hp) (C : Addr) (cl : List (Str × Addr)) (fp : List Addr), PG (X.blk s H scope (compEnvC scope cl C X.env) fp) tg g) (ht : ∀ (s : Shared) (H : Hp) (C : Addr) (cl : List (Str × Addr)) (fp : List Addr), PTs (X.blk s H scope (compEnvC scope cl C X.env) fp) ifs tt)
    (he : ∀ (s : Shared) (H : Hp) (C : Addr) (cl : List (Str × Addr)) (fp : List Addr), PE (X.blk s H scope (compEnvC scope cl C X.env) fp) elt te) (hs : ∀ x, foldedSetIterable iter X.env x = pure x := by intro _; rfl) :
    PS X (.Assign [.Name y py] (.ListComp elt [⟨tg, iter, ifs, 0⟩] scope pos) spos) (tAsg (tLc wi g tt te (own.map (·.2))) (gName i)) := by
  intro pins s σ H D I h
  rw [exec_Assign_Name_used _ _ _ _ hsw]
  refine wpAny_bind (wpAny_standAt (wpAny_bind ?_))
  show wpAny _ X.A (do let _ ← comprehension (.ListComp elt [⟨tg, iter, ifs, 0⟩] scope pos) scope X.env (firstIterPos [⟨tg, iter, ifs, 0⟩] pos) (newList []) false (eval iter X.env) (some (assign (.Name y py) X.env))) _ _ s
  have h : tLc wi g tt te (own.map (·.2)) σ H (fun x H1 => gName i x σ H1 D.nx) := h
  refine wpAny_bind (thn (lc_core (Qf := fun _ s' => SP X pins D .next s') hc hN I hi ok hg ht he hs h fun L C s' m H' I' q hn f => ?_) fun _ s' hq => wpAny_pure (wpAny_pure hq))
  show wpAny _ _ (assign (.Name y py) X.env (.ref L)) _ _ _
  refine wpAny_assign_Name (store_ok2 (v := V.ref L) I' hN hy (.inl hyl) rfl (fun s2 I2 ⟨a, sb, ha⟩ => ?_) (.inr hyl))
  obtain ⟨f0, f1, f2, f3, f4, f5⟩ := f
  have haC : C ≠ a := by
    rcases ha with z | z
    · rw [z]; exact f1
    · exact fun e => f4 y a z e.symm
  refine ⟨m, hn.sameBut sb haC, fun h3 sb3 => ?_⟩
  exact ⟨_, H', I2.turned (t' := s2.toks) (fun b o hb e => (sb3.2 b hb).trans e) f0 f1 f3 f4 f5, q⟩
theorem sw_true {elt : Expr} {gs : List Comprehension} {scope : Scope} {pos py : Pos} {y : Str} {l : Nat} {env : Env} (hk : env.scope.kind = .function) (hy : env.scope.names.lookup y = some .local) (hl : (py.line == pos.line) = true)
    (ha : (scope.names.any fun (n, k) => n == y && (k == .local || k == .cell)) = false) : swapsWith (.ListComp elt gs scope pos) (some (.Name y py)) l env = pure true := by
  have ky : env.kindOf y = some .local := hy
  have hb : env.blockKind = .function := by unfold Env.blockKind; rw [hk]; rfl
  unfold swapsWith
  simp only [hb, ky, ha, Expr.pos, hl]
  rfl
end

/-! ### the forms one uses -/
/-- over a range: Pv by the turn and the heap (the new list at D within) -/
theorem lc_range {lo : Int} {n : Nat} {g : TG} {tt : TT} {te : TE} {vs : List Nat} {σ : St} {H1 : Hp} {D : Addr} {Qd : Hp → Prop} (Pv : Nat → Hp → Prop) (h0 : Pv 0 (upd H1 D (.lst [])))
    (hs : ∀ i H, i < n → Pv i H → g (.int (lo + i)) (wipe σ vs) H fun σ2 H2 => wipe σ2 vs = wipe σ vs ∧ tt σ2 H2 fun b H3 =>
      if b = true then te σ2 H3 fun y H4 => ∃ acc, H4 D = some (.lst acc) ∧ acc.length < sizeLine ∧ Pv (i + 1) (upd H4 D (.lst (acc ++ [y]))) else Pv (i + 1) H3) (hd : ∀ H, Pv n H → Qd H) :
    ∃ W : Nat → Nat → Hp → Prop, (∃ m, W 0 m (upd H1 D (.lst []))) ∧ ∀ i m H, W i m H →
      ((Itr lo n).stop i H ∧ Qd H) ∨ ((Itr lo n).go i H ∧ ∃ Nx : Hp → Prop, (∀ H', Nx H' → ∃ m', m' < m ∧ W (i + 1) m' H') ∧ ∀ x H', (Itr lo n).yld i H x H' → g x (wipe σ vs) H' fun σ2 H2 => wipe σ2 vs = wipe σ vs ∧ tt σ2 H2 fun b H3 =>
        if b = true then te σ2 H3 fun y H4 => ∃ acc, H4 D = some (.lst acc) ∧ acc.length < sizeLine ∧ Nx (upd H4 D (.lst (acc ++ [y]))) else Nx H3) := by
  refine ⟨fun i m H => m = n - i ∧ i ≤ n ∧ Pv i H, ⟨n, by simp, Nat.zero_le _, h0⟩, ?_⟩
  rintro i m H ⟨rfl, hi, p⟩
  by_cases hlt : i < n
  · refine .inr ⟨hlt, Pv (i + 1), fun H' p' => ⟨n - (i + 1), by omega, rfl, hlt, p'⟩, fun x H' y => ?_⟩
    obtain ⟨e, y⟩ := y
    subst e y
    exact hs i _ hlt p
  · have e : i = n := by omega
    subst e
    exact .inl ⟨Nat.le_refl _, hd H p⟩
/-- over a list that the block leaves as it is -/
theorem lc_list {K : PySem.W.Frag} {a : Addr} {xs : List V} {g : TG} {tt : TT} {te : TE} {vs : List Nat} {σ : St} {H1 : Hp} {D : Addr} {Qd : Hp → Prop} (Pv : Nat → Hp → Prop) (h0 : Pv 0 (upd H1 D (.lst []))) (hl : ∀ i H, i ≤ xs.length → Pv i H → SqL K H a xs)
    (hs : ∀ i x H, xs[i]? = some x → Pv i H → g x (wipe σ vs) H fun σ2 H2 => wipe σ2 vs = wipe σ vs ∧ tt σ2 H2 fun b H3 =>
      if b = true then te σ2 H3 fun y H4 => ∃ acc, H4 D = some (.lst acc) ∧ acc.length < sizeLine ∧ Pv (i + 1) (upd H4 D (.lst (acc ++ [y]))) else Pv (i + 1) H3) (hd : ∀ H, Pv xs.length H → Qd H) :
    ∃ W : Nat → Nat → Hp → Prop, (∃ m, W 0 m (upd H1 D (.lst []))) ∧ ∀ i m H, W i m H →
      ((Itl K a).stop i H ∧ Qd H) ∨ ((Itl K a).go i H ∧ ∃ Nx : Hp → Prop, (∀ H', Nx H' → ∃ m', m' < m ∧ W (i + 1) m' H') ∧ ∀ x H', (Itl K a).yld i H x H' → g x (wipe σ vs) H' fun σ2 H2 => wipe σ2 vs = wipe σ vs ∧ tt σ2 H2 fun b H3 =>
        if b = true then te σ2 H3 fun y H4 => ∃ acc, H4 D = some (.lst acc) ∧ acc.length < sizeLine ∧ Nx (upd H4 D (.lst (acc ++ [y]))) else Nx H3) := by
  refine ⟨fun i m H => m = xs.length - i ∧ i ≤ xs.length ∧ Pv i H, ⟨xs.length, by simp, Nat.zero_le _, h0⟩, ?_⟩
  rintro i m H ⟨rfl, hi, p⟩
  have q := hl i H hi p
  by_cases hlt : i < xs.length
  · refine .inr ⟨⟨xs, xs[i], q, by simp [hlt]⟩, Pv (i + 1), fun H' p' => ⟨xs.length - (i + 1), by omega, rfl, hlt, p'⟩, fun x H' y => ?_⟩
    obtain ⟨e, y⟩ := y
    subst e
    exact hs i x _ (y xs q) p
  · have e : i = xs.length := by omega
    subst e
    exact .inl ⟨⟨xs, q, Nat.le_refl _⟩, hd H p⟩
/-- over a tuple -/
theorem lc_tup {K : PySem.W.Frag} {a : Addr} {xs : List V} {g : TG} {tt : TT} {te : TE} {vs : List Nat} {σ : St} {H1 : Hp} {D : Addr} {Qd : Hp → Prop} (Pv : Nat → Hp → Prop) (h0 : Pv 0 (upd H1 D (.lst []))) (hl : ∀ i H, i ≤ xs.length → Pv i H → SqT K H a xs)
    (hs : ∀ i x H, xs[i]? = some x → Pv i H → g x (wipe σ vs) H fun σ2 H2 => wipe σ2 vs = wipe σ vs ∧ tt σ2 H2 fun b H3 =>
      if b = true then te σ2 H3 fun y H4 => ∃ acc, H4 D = some (.lst acc) ∧ acc.length < sizeLine ∧ Pv (i + 1) (upd H4 D (.lst (acc ++ [y]))) else Pv (i + 1) H3) (hd : ∀ H, Pv xs.length H → Qd H) :
    ∃ W : Nat → Nat → Hp → Prop, (∃ m, W 0 m (upd H1 D (.lst []))) ∧ ∀ i m H, W i m H →
      ((Itt K a).stop i H ∧ Qd H) ∨ ((Itt K a).go i H ∧ ∃ Nx : Hp → Prop, (∀ H', Nx H' → ∃ m', m' < m ∧ W (i + 1) m' H') ∧ ∀ x H', (Itt K a).yld i H x H' → g x (wipe σ vs) H' fun σ2 H2 => wipe σ2 vs = wipe σ vs ∧ tt σ2 H2 fun b H3 =>
        if b = true then te σ2 H3 fun y H4 => ∃ acc, H4 D = some (.lst acc) ∧ acc.length < sizeLine ∧ Nx (upd H4 D (.lst (acc ++ [y]))) else Nx H3) := by
  refine ⟨fun i m H => m = xs.length - i ∧ i ≤ xs.length ∧ Pv i H, ⟨xs.length, by simp, Nat.zero_le _, h0⟩, ?_⟩
  rintro i m H ⟨rfl, hi, p⟩
  have q := hl i H hi p
  by_cases hlt : i < xs.length
  · refine .inr ⟨⟨xs, xs[i], q, by simp [hlt]⟩, Pv (i + 1), fun H' p' => ⟨xs.length - (i + 1), by omega, rfl, hlt, p'⟩, fun x H' y => ?_⟩
    obtain ⟨e, y⟩ := y
    subst e
    exact hs i x _ (y xs q) p
  · have e : i = xs.length := by omega
    subst e
    exact .inl ⟨⟨xs, q, Nat.le_refl _⟩, hd H p⟩
def blkC (N : List Str) (sc scope : Scope) (own : List (Str × Nat)) : Bool :=
  (match scope.kind with | .function => true | _ => false) && (scope.names.all fun y => decide (scope.names.lookup y.1 = some y.2)) && (own.all fun p => decide (N[p.2]? = some p.1)) &&
    (scope.names.all fun y => match y.2 with
      | .free => (match sc.names.lookup y.1 with | some .cell => true | some .free => true | _ => false)
      | .local => decide (y.1 ∈ own.map (·.1)) || decide (y.1 ∉ N)
      | .cell => decide (y.1 ∈ own.map (·.1)) || decide (y.1 ∉ N)
      | _ => true)
theorem blkOk_by {N : List Str} {sc scope : Scope} {own : List (Str × Nat)} (h : blkC N sc scope own = true) : BlkOk N sc scope own := by
  unfold blkC at h
  simp only [Bool.and_eq_true, List.all_eq_true, decide_eq_true_eq] at h
  obtain ⟨⟨⟨h1, h2⟩, h3⟩, h4⟩ := h
  refine ⟨?_, h2, h3, fun y hy e => ?_, fun y hy e => ?_⟩
  · split at h1
    · assumption
    · cases h1
  · have q := h4 y hy
    simp only [e] at q
    split at q <;> first | exact .inl (by assumption) | exact .inr (by assumption) | cases q
  · have q := h4 y hy
    rcases e with e | e <;> (simp only [e, Bool.or_eq_true, decide_eq_true_eq] at q; exact q)
end L2

namespace L2
open PySem PySem.Spec PyProof.Rows

theorem compTurn2_out (elt t0 i0 t1 i1 : Expr) (ifs0 ifs1 : List Expr) (scope : Scope) (pos : Pos) (it acc : Value) (env : Env) :
    compTurn (.ListComp elt [⟨t0, i0, ifs0, 0⟩, ⟨t1, i1, ifs1, 0⟩] scope pos) 0 it acc env = (do
      standAt i0.pos
      match ← pyNext it with
      | none => pure (.done .next)
      | some v =>
        letOwnedTupleGo t0 it v
        assign t0 env v
        let mut ok := true
        for c in ifs0 do
          if ok then ok ← isTrue c env (eval c env)
        if ok then
          let x ← eval i1 env
          standAt i1.pos
          let x ← foldedSetIterable i1 env x
          let _ ← runOwn (.compStart (.ListComp elt [⟨t0, i0, ifs0, 0⟩, ⟨t1, i1, ifs1, 0⟩] scope pos) 1 (← holding [x] (pyIter x)) acc env) env
        again (.compLoop (.ListComp elt [⟨t0, i0, ifs0, 0⟩, ⟨t1, i1, ifs1, 0⟩] scope pos) 0 it acc env)) := by rfl
theorem compTurn2_in (elt t0 i0 t1 i1 : Expr) (ifs0 ifs1 : List Expr) (scope : Scope) (pos : Pos) (it acc : Value) (env : Env) :
    compTurn (.ListComp elt [⟨t0, i0, ifs0, 0⟩, ⟨t1, i1, ifs1, 0⟩] scope pos) 1 it acc env = (do
      standAt i1.pos
      match ← pyNext it with
      | none => pure (.done .next)
      | some v =>
        letOwnedTupleGo t1 it v
        assign t1 env v
        let mut ok := true
        for c in ifs1 do
          if ok then ok ← isTrue c env (eval c env)
        if ok then
          (do let _ ← call (.builtin "list.append") [acc, ← eval elt env])
        again (.compLoop (.ListComp elt [⟨t0, i0, ifs0, 0⟩, ⟨t1, i1, ifs1, 0⟩] scope pos) 1 it acc env)) := by rfl

section
variable {prog : Program} {w : World} {A : Around} {R : Result → Shared → Prop} {s : Shared} {elt t0 i0 t1 i1 : Expr} {ifs0 ifs1 : List Expr} {scope : Scope} {pos : Pos} {it acc : Value} {env : Env}
/-- the loop of the first clause -/
theorem compLoop2_out (hs : ∀ x, foldedSetIterable i1 env x = pure x) (I : Nat → Shared → Prop)
    (turn : ∀ n s, I n s → wpAny (model prog w) A (pyNext it) (fun r s₁ => match r with
      | none => R (.ok .next) s₁
      | some v => wpAny (model prog w) A (letOwnedTupleGo t0 it v) (fun _ s₁' => wpAny (model prog w) A (assign t0 env v) (fun _ s₂ =>
          wpAny (model prog w) A (forIn ifs0 true fun c r => if r = true then do let ok ← isTrue c env (eval c env); pure (ForInStep.yield ok) else pure (ForInStep.yield r)) (fun ok s₃ =>
            if ok = true then wpAny (model prog w) A (eval i1 env) (fun x s₄ => wpAny (model prog w) A (pyIter x) (fun it1 s₅ =>
              codeAny (model prog w) A (.compStart (.ListComp elt [⟨t0, i0, ifs0, 0⟩, ⟨t1, i1, ifs1, 0⟩] scope pos) 1 it1 acc env) (fun r s' => match r with
                | .ok _ => ∃ m, m < n ∧ I m s'
                | .error _ => False) s₅) (notedBy (model prog w) A env fun e s' => R (.error e) s') s₄) (notedBy (model prog w) A env fun e s' => R (.error e) s') s₃
            else ∃ m, m < n ∧ I m s₃) (notedBy (model prog w) A env fun e s' => R (.error e) s') s₂) (notedBy (model prog w) A env fun e s' => R (.error e) s') s₁') (notedBy (model prog w) A env fun e s' => R (.error e) s') s₁) (notedBy (model prog w) A env fun e s' => R (.error e) s') s)
    (n : Nat) (h : I n s) :
    codeAny (model prog w) A (.compLoop (.ListComp elt [⟨t0, i0, ifs0, 0⟩, ⟨t1, i1, ifs1, 0⟩] scope pos) 0 it acc env) R s := by
  refine codeAny_loop rfl I (fun n s hI => ?_) n h
  show wpAny _ A ((compTurn (.ListComp elt [⟨t0, i0, ifs0, 0⟩, ⟨t1, i1, ifs1, 0⟩] scope pos) 0 it acc env).onRaise (fun x => do noteFrame x env; theTreesLotGoes x)) _ _ s
  refine wpAny_noted ?_
  rw [compTurn2_out]
  refine wpAny_bind (wpAny_standAt (wpAny_bind (wpAny_mono (turn n s hI) (fun r s₁ h₁ => ?_) fun _ _ h' => h')))
  cases r with
  | none => exact wpAny_pure h₁
  | some v =>
    refine wpAny_bind (wpAny_mono h₁ (fun _ s₁' h₁' => ?_) fun _ _ h' => h')
    refine wpAny_bind (wpAny_mono h₁' (fun _ s₂ h₂ => wpAny_bind (wpAny_mono h₂ (fun ok s₃ h₃ => ?_) fun _ _ h' => h')) fun _ _ h' => h')
    cases ok with
    | false => exact wpAny_pure ⟨rfl, h₃⟩
    | true =>
      refine wpAny_bind (wpAny_mono h₃ (fun x s₄ h₄ => ?_) fun _ _ h' => h')
      refine wpAny_bind (wpAny_standAt (wpAny_bind (wpAny_of_eq (hs x) (wpAny_bind (wpAny_holding (wpAny_mono h₄ (fun it1 s₅ h₅ => ?_) fun _ _ h' => h'))))))
      refine wpAny_bind (wpAny_runOwn ?_)
      rw [Around.mark_none]
      refine codeAny_mono h₅ fun r s' hr => ?_
      cases r with
      | ok f =>
        first
          | exact wpAny_pure ⟨rfl, hr⟩
          | exact wpAny_bind (wpAny_pure (wpAny_pure ⟨rfl, hr⟩))
      | error e => exact hr.elim
/-- the loop of the second -/
theorem compLoop2_in (I : Nat → Shared → Prop)
    (turn : ∀ n s, I n s → wpAny (model prog w) A (pyNext it) (fun r s₁ => match r with
      | none => R (.ok .next) s₁
      | some v => wpAny (model prog w) A (letOwnedTupleGo t1 it v) (fun _ s₁' => wpAny (model prog w) A (assign t1 env v) (fun _ s₂ =>
          wpAny (model prog w) A (forIn ifs1 true fun c r => if r = true then do let ok ← isTrue c env (eval c env); pure (ForInStep.yield ok) else pure (ForInStep.yield r)) (fun ok s₃ =>
            if ok = true then wpAny (model prog w) A (eval elt env) (fun x s₄ =>
              wpAny (model prog w) A (call (.builtin "list.append") [acc, x]) (fun _ s₅ => ∃ m, m < n ∧ I m s₅) (notedBy (model prog w) A env fun e s' => R (.error e) s') s₄) (notedBy (model prog w) A env fun e s' => R (.error e) s') s₃
            else ∃ m, m < n ∧ I m s₃) (notedBy (model prog w) A env fun e s' => R (.error e) s') s₂) (notedBy (model prog w) A env fun e s' => R (.error e) s') s₁') (notedBy (model prog w) A env fun e s' => R (.error e) s') s₁) (notedBy (model prog w) A env fun e s' => R (.error e) s') s)
    (n : Nat) (h : I n s) :
    codeAny (model prog w) A (.compLoop (.ListComp elt [⟨t0, i0, ifs0, 0⟩, ⟨t1, i1, ifs1, 0⟩] scope pos) 1 it acc env) R s := by
  refine codeAny_loop rfl I (fun n s hI => ?_) n h
  show wpAny _ A ((compTurn (.ListComp elt [⟨t0, i0, ifs0, 0⟩, ⟨t1, i1, ifs1, 0⟩] scope pos) 1 it acc env).onRaise (fun x => do noteFrame x env; theTreesLotGoes x)) _ _ s
  refine wpAny_noted ?_
  rw [compTurn2_in]
  refine wpAny_bind (wpAny_standAt (wpAny_bind (wpAny_mono (turn n s hI) (fun r s₁ h₁ => ?_) fun _ _ h' => h')))
  cases r with
  | none => exact wpAny_pure h₁
  | some v =>
    refine wpAny_bind (wpAny_mono h₁ (fun _ s₁' h₁' => ?_) fun _ _ h' => h')
    refine wpAny_bind (wpAny_mono h₁' (fun _ s₂ h₂ => wpAny_bind (wpAny_mono h₂ (fun ok s₃ h₃ => ?_) fun _ _ h' => h')) fun _ _ h' => h')
    cases ok with
    | false => exact wpAny_pure ⟨rfl, h₃⟩
    | true =>
      exact wpAny_bind (wpAny_bind (wpAny_mono h₃ (fun x s₄ h₄ => wpAny_bind (wpAny_mono h₄ (fun _ s₅ h₅ => wpAny_pure (wpAny_pure ⟨rfl, h₅⟩)) fun _ _ h' => h')) fun _ _ h' => h'))
/-- the second clause's start -/
theorem compStart1_ok (h0 : codeAny (model prog w) A (.compLoop (.ListComp elt [⟨t0, i0, ifs0, 0⟩, ⟨t1, i1, ifs1, 0⟩] scope pos) 1 it acc env) R s)
    (h : wpAny (model prog w) A (pyIter it) (fun it' s' => codeAny (model prog w) A (.compLoop (.ListComp elt [⟨t0, i0, ifs0, 0⟩, ⟨t1, i1, ifs1, 0⟩] scope pos) 1 it' acc env) R s')
      (notedBy (model prog w) A env fun x s' => R (.error x) s') s) :
    codeAny (model prog w) A (.compStart (.ListComp elt [⟨t0, i0, ifs0, 0⟩, ⟨t1, i1, ifs1, 0⟩] scope pos) 1 it acc env) R s := by
  refine codeAny_of_tree ?_
  show wpAny _ _ ((compStart (.ListComp elt [⟨t0, i0, ifs0, 0⟩, ⟨t1, i1, ifs1, 0⟩] scope pos) 1 it acc env).onRaise (fun x => do noteFrame x env; standAt theWindowsPlace)) _ _ s
  refine wpAny_notedAt ?_
  unfold compStart
  show wpAny _ _ (ask >>= _) _ _ s
  refine wpAny_bind (wpAny_askSetting (wpAny_ite ?_))
  split
  · first
      | exact wpAny_bind (wpAny_pure (wpAny_pure (And.intro rfl h0)))
      | exact wpAny_pure (And.intro rfl h0)
  · first
      | exact wpAny_bind (wpAny_rule (wpAny_bind (wpAny_standAt (wpAny_bind (wpAny_mono h (fun it' s' h' => wpAny_pure (And.intro rfl h')) fun _ _ x => x)))))
      | (refine wpAny_bind (wpAny_rule ?_); show wpAny _ _ (standAt i1.pos >>= _) _ _ s; exact wpAny_bind (wpAny_standAt (wpAny_bind (wpAny_mono h (fun it' s' h' => wpAny_pure (And.intro rfl h')) fun _ _ x => x))))
end

theorem wipe_out {σ : St} {i : Nat} : ∀ {vs : List Nat}, i ∉ vs → (wipe σ vs)[i]? = σ[i]?
  | [], _ => rfl
  | v :: vs, h => by
    have h1 : v ≠ i := fun e => h (by rw [e]; exact List.mem_cons_self)
    have h2 : i ∉ vs := fun m => h (List.mem_cons_of_mem _ m)
    unfold wipe
    rw [List.getElem?_set_ne h1]
    exact wipe_out h2
section
variable {X : Cx}
/-- [elt for tg in iter if .. for tg1 in iter1 if ..]: behind the first clause's store and tests the second source's own loop, from which Nx is reached. vs: the block's names; vs1: those of the second target -/
def tLc2 (wi : TI) (g : TG) (tt : TT) (wi1 : TI) (g1 : TG) (tt1 : TT) (te : TE) (vs vs1 : List Nat) : TE := fun σ H Q => wi σ H fun J H1 => ∀ D, H1 D = none → ∃ W : Nat → Nat → Hp → Prop, (∃ m, W 0 m (upd H1 D (.lst []))) ∧ ∀ i m H, W i m H →
  (J.stop i H ∧ Q (.ref D) H) ∨ (J.go i H ∧ ∃ Nx : Hp → Prop, (∀ H', Nx H' → ∃ m', m' < m ∧ W (i + 1) m' H') ∧ ∀ x H', J.yld i H x H' → g x (wipe σ vs) H' fun σ2 H2 => wipe σ2 vs = wipe σ vs ∧ tt σ2 H2 fun b H3 =>
    if b = true then wi1 σ2 H3 fun J1 H4 => ∃ W1 : Nat → Nat → Hp → Prop, (∃ m, W1 0 m H4) ∧ ∀ j k H, W1 j k H →
      (J1.stop j H ∧ Nx H) ∨ (J1.go j H ∧ ∃ Nx1 : Hp → Prop, (∀ H', Nx1 H' → ∃ k', k' < k ∧ W1 (j + 1) k' H') ∧ ∀ x H', J1.yld j H x H' → g1 x (wipe σ2 vs1) H' fun σ3 H5 => wipe σ3 vs1 = wipe σ2 vs1 ∧ tt1 σ3 H5 fun b H6 =>
        if b = true then te σ3 H6 fun y H7 => ∃ acc, H7 D = some (.lst acc) ∧ acc.length < sizeLine ∧ Nx1 (upd H7 D (.lst (acc ++ [y]))) else Nx1 H6)
    else Nx H3)
theorem lc2_core {pins : List (Addr × Obj)} {s : Shared} {σ : St} {H : Hp} {Q : VK} {elt tg iter tg1 iter1 : Expr} {ifs ifs1 : List Expr} {scope : Scope} {own : List (Str × Nat)} {vs1 : List Nat} {pos pos' : Pos} {wi wi1 : TI} {g g1 : TG} {tt tt1 : TT} {te : TE} {use : Option (Value → Sem Unit)} {Qf : Value → Shared → Prop}
    (hc : X.calm = true) (hN : X.N.Nodup) (I : Inv X pins σ H s) (hi : PI X tg iter wi) (ok : BlkOk X.N X.env.scope scope own) (hv : ∀ i ∈ vs1, i ∈ own.map (·.2))
    (hg : ∀ (s : Shared) (H : Hp) (C : Addr) (cl : List (Str × Addr)) (fp : List Addr), PG (X.blk s H scope (compEnvC scope cl C X.env) fp) tg g) (ht : ∀ (s : Shared) (H : Hp) (C : Addr) (cl : List (Str × Addr)) (fp : List Addr), PTs (X.blk s H scope (compEnvC scope cl C X.env) fp) ifs tt)
    (he : ∀ (s : Shared) (H : Hp) (C : Addr) (cl : List (Str × Addr)) (fp : List Addr), PE (X.blk s H scope (compEnvC scope cl C X.env) fp) elt te) (hs : ∀ x, foldedSetIterable iter X.env x = pure x)
    (hi1 : ∀ (s : Shared) (H : Hp) (C : Addr) (cl : List (Str × Addr)) (fp : List Addr), PI (X.blk s H scope (compEnvC scope cl C X.env) fp) tg1 iter1 wi1)
    (hg1 : ∀ (s : Shared) (H : Hp) (C : Addr) (cl : List (Str × Addr)) (fp : List Addr), PG (X.blk s H scope (compEnvC scope cl C X.env) fp) tg1 g1)
    (ht1 : ∀ (s : Shared) (H : Hp) (C : Addr) (cl : List (Str × Addr)) (fp : List Addr), PTs (X.blk s H scope (compEnvC scope cl C X.env) fp) ifs1 tt1)
    (hs1 : ∀ env x, foldedSetIterable iter1 env x = pure x)
    (h : tLc2 wi g tt wi1 g1 tt1 te (own.map (·.2)) vs1 σ H Q)
    (hRR : ∀ D C s' m H', Inv X pins σ H' s' → Q (.ref D) H' → s'.heap.Ns C m → FpOk X pins H' C → compPost (model X.prog X.w) X.A X.xe use Qf (.ref D) C (.ok .next) s') :
    wpAny (model X.prog X.w) X.A (comprehension (.ListComp elt [⟨tg, iter, ifs, 0⟩, ⟨tg1, iter1, ifs1, 0⟩] scope pos) scope X.env pos' (newList []) false (eval iter X.env) use) Qf X.xe s := by
  have hfree : ∀ y ∈ scope.names, y.2 = .free → ∃ c, X.env.cells.lookup y.1 = some c := fun y hy e => by
    rcases ok.free y hy e with k | k
    · exact I.ok.has _ (.inl k)
    · exact I.ok.has _ (.inr k)
  refine wpAny_comprehension_free (use := use) rfl hs (closure_ok hfree) ok.kind (fun y hy e => by rw [ok.uniq y hy, e])
    (thn (hi pins s σ H _ I h) fun xv s1 hx => thn hx fun itv s2 h2 => ?_)
  obtain ⟨it, fp, tn, J, H2, e, I2, T, st2, f2, q⟩ := h2
  subst e
  refine wpAny_newObj_type (newEnv_comp ?_) (by show 0 ≤ sizeLine; decide)
  generalize hD : s2.heap.objs.size = D
  have hDn : H2 D = none := I2.hok.fresh (Nat.le_of_eq hD)
  obtain ⟨W, ⟨m0, w0⟩, turn⟩ := q D hDn
  -- the new list
  generalize hs3 : ({ s2 with heap := s2.heap.push { cls := .type "list", data := .seq ([] : List Value).toArray } } : Shared) = s3
  have I3 : Inv X pins σ (upd H2 D (.lst [])) s3 := by
    rw [← hs3]
    refine I2.laid (t' := s2.toks) (fun b o e => Heap.get?_push_of_some _ e) (Nat.le_of_eq hD) ⟨Nat.zero_le _, [], 0, .nil, ?_⟩
    rw [← hD]
    exact Heap.get?_push_size _ rfl
  have h3 : s3.heap = s2.heap.push { cls := .type "list", data := .seq ([] : List Value).toArray } := by rw [← hs3]
  have sz : ∀ b ∈ fp, b < s2.heap.objs.size := fun b hb => by
    obtain ⟨o, e, _⟩ := T.obj _ _ st2 b hb
    exact Heap.lt_size e
  have f3 : ∀ b ∈ fp, FpOk X pins (upd H2 D (.lst [])) b ∧ b < s3.heap.objs.size := fun b hb => by
    have hlt := sz b hb
    refine ⟨⟨?_, (f2 b hb).2⟩, by rw [h3, Heap.size_push]; exact Nat.lt_succ_of_lt hlt⟩
    rw [upd_ne (by rw [← hD]; exact Nat.ne_of_lt hlt)]
    exact (f2 b hb).1
  have st3 : tn 0 s3.heap := T.keep _ _ _ st2 fun b _ o e => by rw [h3]; exact Heap.get?_push_of_some _ e
  have I4 := block_start I3 ok hN f3
  have pg := hg s3 (upd H2 D (.lst [])) s3.heap.objs.size (cellsFrom (s3.heap.objs.size + 1) scope.names (cloFrom X.env.cells scope.names [])) fp
  have pt := ht s3 (upd H2 D (.lst [])) s3.heap.objs.size (cellsFrom (s3.heap.objs.size + 1) scope.names (cloFrom X.env.cells scope.names [])) fp
  have pe := he s3 (upd H2 D (.lst [])) s3.heap.objs.size (cellsFrom (s3.heap.objs.size + 1) scope.names (cloFrom X.env.cells scope.names [])) fp
  have pi1 := hi1 s3 (upd H2 D (.lst [])) s3.heap.objs.size (cellsFrom (s3.heap.objs.size + 1) scope.names (cloFrom X.env.cells scope.names [])) fp
  have pg1 := hg1 s3 (upd H2 D (.lst [])) s3.heap.objs.size (cellsFrom (s3.heap.objs.size + 1) scope.names (cloFrom X.env.cells scope.names [])) fp
  have pt1 := ht1 s3 (upd H2 D (.lst [])) s3.heap.objs.size (cellsFrom (s3.heap.objs.size + 1) scope.names (cloFrom X.env.cells scope.names [])) fp
  show codeAny _ _ (.compStart (.ListComp elt [⟨tg, iter, ifs, 0⟩, ⟨tg1, iter1, ifs1, 0⟩] scope pos) 0 (.ref it) (.ref D) (compEnvC scope (cellsFrom (s3.heap.objs.size + 1) scope.names (cloFrom X.env.cells scope.names [])) s3.heap.objs.size X.env)) (compPost (model X.prog X.w) X.A X.xe use Qf (.ref D) s3.heap.objs.size) { s3 with heap := pushCells (s3.heap.push { cls := .type "dict", data := .dict #[] }) scope.names }
  have nfp : ∀ b ∈ fp, (upd H2 D (.lst [])) b = none := fun b hb => (f3 b hb).1.1
  generalize hce : compEnvC scope (cellsFrom (s3.heap.objs.size + 1) scope.names (cloFrom X.env.cells scope.names [])) s3.heap.objs.size X.env = ce at I4 pg pt pe pi1 pg1 pt1 ⊢
  have cL : ce.locals = s3.heap.objs.size := by subst hce; rfl
  generalize hH3 : upd H2 D (.lst []) = H3 at I3 I4 pg pt pe pi1 pg1 pt1 w0 nfp f3
  generalize hs4 : ({ s3 with heap := pushCells (s3.heap.push { cls := .type "dict", data := .dict #[] }) scope.names } : Shared) = s4 at I4 ⊢
  have st4 : tn 0 s4.heap := T.keep _ _ _ st3 fun b _ o e => by rw [← hs4]; exact pushCells_keeps _ _ _ _ (Heap.get?_push_of_some _ e)
  have stat : ∀ {σ' : St} {H' : Hp} {s' : Shared}, Inv (X.blk s3 H3 scope ce fp) [] σ' H' s' → (∀ b ∈ fp, H' b = none) → ∀ b ∈ fp, FpOk (X.blk s3 H3 scope ce fp) [] H' b := fun {σ' H' s'} I' hn b hb =>
    ⟨hn b hb, (I'.ok.exf b hb).1, I'.ok.exfs b hb, .inl hb, fun x c e => (I'.ok.exf b hb).2 x c e, fun p hp => absurd (show p ∈ ([] : List (Addr × Obj)) ++ [] from hp) (by simp)⟩
  have loop : codeAny (model X.prog X.w) X.A (.compLoop (.ListComp elt [⟨tg, iter, ifs, 0⟩, ⟨tg1, iter1, ifs1, 0⟩] scope pos) 0 (.ref it) (.ref D) ce) (compPost (model X.prog X.w) X.A X.xe use Qf (.ref D) s3.heap.objs.size) s4 := by
    refine compLoop2_out (hs1 ce) (fun n s' => ∃ i H', Inv (X.blk s3 H3 scope ce fp) [] (wipe σ (own.map (·.2))) H' s' ∧ tn i s'.heap ∧ (∀ b ∈ fp, H' b = none) ∧ W i n H') ?_ m0 ⟨0, H3, I4, st4, nfp, w0⟩
    rintro n s5 ⟨i, H5, I5, st5, n5, w5⟩
    rcases turn i n H5 w5 with ⟨stop, qq⟩ | ⟨go, Nx, hNx, step⟩
    · have td := T.done (X.blk s3 H3 scope ce fp) rfl rfl rfl hc i [] s5 _ H5 (fun _ _ => False) I5 (stat I5 n5) st5 stop
      refine thnF td fun r s6 ⟨hr, I6⟩ => ?_
      subst hr
      -- back in the def's context
      have I7 : Inv X pins σ H5 s6 := I3.call' (ch := fp) I6.os I6.base I6.hok I6.bare fun b hb => ⟨(f3 b hb).1.2.2.2.1, (f3 b hb).1.2.1, (f3 b hb).1.2.2.2.2.1, (f3 b hb).1.2.2.2.2.2⟩
      have nC : H5 s3.heap.objs.size = none := by
        have z : H5 ce.locals = none := I6.free
        rw [cL] at z
        exact z
      obtain ⟨m, hn, _⟩ := I6.loc
      have hn : s6.heap.Ns ce.locals m := hn
      rw [cL] at hn
      exact hRR D s3.heap.objs.size s6 m H5 I7 qq hn (I3.fpOk (Nat.le_refl _) nC)
    · have ti := T.item (X.blk s3 H3 scope ce fp) rfl rfl rfl hc i [] s5 _ H5 (fun _ _ => False) I5 (stat I5 n5) st5 go
      refine thnF ti fun r s6 ⟨u, hr, h6⟩ => ?_
      subst hr
      refine thnF h6 fun _ s7 ⟨x, H7, I7, r7, y7, st7, n7⟩ => ?_
      have I7' := I7.pinned (stat I7 n7) (T.obj _ _ st7)
      refine thnF (pg _ s7 _ H7 x u _ I7' r7 (step x H7 y7)) fun _ s8 ⟨σ8, H8, I8, hw8, q8⟩ => ?_
      refine thnF (pt _ s8 σ8 H8 _ I8 q8) fun b s9 ⟨H9, I9, q9⟩ => ?_
      -- the turn's end, from any slots that know what the block knew at its start
      have fin : ∀ {σ9 : St} {s' : Shared} {H' : Hp}, Inv (X.blk s3 H3 scope ce fp) ([] ++ pinsAt fp s7.heap) σ9 H' s' → (wipe σ (own.map (·.2))).length = σ9.length → (∀ (j : Nat) v, (wipe σ (own.map (·.2)))[j]? = some (some v) → σ9[j]? = some (some v)) → Nx H' →
          ∃ m, m < n ∧ ∃ i H', Inv (X.blk s3 H3 scope ce fp) [] (wipe σ (own.map (·.2))) H' s' ∧ tn i s'.heap ∧ (∀ b ∈ fp, H' b = none) ∧ W i m H' := fun {σ9 s' H'} I' hl hk nx => by
        obtain ⟨m', hm, w'⟩ := hNx H' nx
        have pin' : ∀ b ∈ fp, ∀ o, s7.heap.get? b = some o → s'.heap.get? b = some o ∧ H' b = none := fun b hb o e =>
          let z := I'.pin (b, o) (List.mem_append_right _ (List.mem_append_right _ (mem_pinsAt hb e)))
          ⟨z.1, z.2.1⟩
        refine ⟨m', hm, i + 1, H', (I'.unpinned (pins := [])).weak hl hk, T.keep _ _ _ st7 fun b hb o e => (pin' b hb o e).1, fun b hb => ?_, w'⟩
        obtain ⟨o, e, _⟩ := T.obj _ _ st7 b hb
        exact (pin' b hb o e).2
      have hl8 : (wipe σ (own.map (·.2))).length = σ8.length := by rw [← hw8, wipe_length]
      have hk8 : ∀ (j : Nat) v, (wipe σ (own.map (·.2)))[j]? = some (some v) → σ8[j]? = some (some v) := fun j v e => by
        rw [← hw8] at e
        exact (wipe_some e).1
      have hk9 : ∀ (j : Nat) v, (wipe σ (own.map (·.2)))[j]? = some (some v) → (wipe σ8 vs1)[j]? = some (some v) := fun j v e => by
        rw [← hw8] at e
        obtain ⟨e1, e2⟩ := wipe_some e
        rw [wipe_out fun z => e2 (hv j z)]
        exact e1
      cases b with
      | false =>
        simp only [Bool.false_eq_true, if_false] at q9 ⊢
        exact fin I9 hl8 hk8 q9
      | true =>
        simp only [if_true] at q9 ⊢
        refine thnF (pi1 _ s9 σ8 H9 _ I9 q9) fun xv s10 hx => thnF hx fun itv s11 h11 => ?_
        obtain ⟨it1, fp1, tn1, J1, H11, e1, I11, T1, st11, f11, W1, ⟨m1, w1⟩, turn1⟩ := h11
        subst e1
        -- the inner loop
        have stat1 : ∀ {H' : Hp}, (∀ b ∈ fp1, H' b = none) → ∀ b ∈ fp1, FpOk (X.blk s3 H3 scope ce fp) ([] ++ pinsAt fp s7.heap) H' b := fun hn b hb => ⟨hn b hb, (f11 b hb).2⟩
        have loop1 : codeAny (model X.prog X.w) X.A (.compLoop (.ListComp elt [⟨tg, iter, ifs, 0⟩, ⟨tg1, iter1, ifs1, 0⟩] scope pos) 1 (.ref it1) (.ref D) ce)
            (fun r s' => match r with
              | .ok _ => ∃ m, m < n ∧ ∃ i H', Inv (X.blk s3 H3 scope ce fp) [] (wipe σ (own.map (·.2))) H' s' ∧ tn i s'.heap ∧ (∀ b ∈ fp, H' b = none) ∧ W i m H'
              | .error _ => False) s11 := by
          refine compLoop2_in (fun k s' => ∃ j H', Inv (X.blk s3 H3 scope ce fp) ([] ++ pinsAt fp s7.heap) (wipe σ8 vs1) H' s' ∧ tn1 j s'.heap ∧ (∀ b ∈ fp1, H' b = none) ∧ W1 j k H') ?_ m1 ⟨0, H11, I11.weak (wipe_length _ _) (fun j v e => (wipe_some e).1), st11, fun b hb => (f11 b hb).1, w1⟩
          rintro k s12 ⟨j, H12, I12, st12, n12, w12⟩
          rcases turn1 j k H12 w12 with ⟨stop1, nx1⟩ | ⟨go1, Nx1, hNx1, step1⟩
          · refine thnF (T1.done (X.blk s3 H3 scope ce fp) rfl rfl rfl hc j _ s12 (wipe σ8 vs1) H12 (fun _ _ => False) I12 (stat1 n12) st12 stop1) fun r s13 ⟨hr, I13⟩ => ?_
            subst hr
            exact fin I13 (hl8.trans (wipe_length σ8 vs1).symm) hk9 nx1
          · refine thnF (T1.item (X.blk s3 H3 scope ce fp) rfl rfl rfl hc j _ s12 (wipe σ8 vs1) H12 (fun _ _ => False) I12 (stat1 n12) st12 go1) fun r s13 ⟨u1, hr, h13⟩ => ?_
            subst hr
            refine thnF h13 fun _ s14 ⟨x1, H14, I14, r14, y14, st14, n14⟩ => ?_
            have I14' := I14.pinned (stat1 n14) (T1.obj _ _ st14)
            refine thnF (pg1 _ s14 (wipe σ8 vs1) H14 x1 u1 _ I14' r14 (step1 x1 H14 y14)) fun _ s15 ⟨σ15, H15, I15, hw15, q15⟩ => ?_
            refine thnF (pt1 _ s15 σ15 H15 _ I15 q15) fun b1 s16 ⟨H16, I16, q16⟩ => ?_
            have fin1 : ∀ {s' : Shared} {H' : Hp}, Inv (X.blk s3 H3 scope ce fp) (([] ++ pinsAt fp s7.heap) ++ pinsAt fp1 s14.heap) σ15 H' s' → Nx1 H' → ∃ m, m < k ∧ ∃ j H', Inv (X.blk s3 H3 scope ce fp) ([] ++ pinsAt fp s7.heap) (wipe σ8 vs1) H' s' ∧ tn1 j s'.heap ∧ (∀ b ∈ fp1, H' b = none) ∧ W1 j m H' := fun {s' H'} I' nx => by
              obtain ⟨m', hm, w'⟩ := hNx1 H' nx
              have pin' : ∀ b ∈ fp1, ∀ o, s14.heap.get? b = some o → s'.heap.get? b = some o ∧ H' b = none := fun b hb o e =>
                let z := I'.pin (b, o) (List.mem_append_right _ (List.mem_append_right _ (mem_pinsAt hb e)))
                ⟨z.1, z.2.1⟩
              refine ⟨m', hm, j + 1, H', I'.unpinned.weak (by rw [← hw15, wipe_length]) (fun j v e => by rw [← hw15] at e; exact (wipe_some e).1), T1.keep _ _ _ st14 fun b hb o e => (pin' b hb o e).1, fun b hb => ?_, w'⟩
              obtain ⟨o, e, _⟩ := T1.obj _ _ st14 b hb
              exact (pin' b hb o e).2
            cases b1 with
            | false =>
              simp only [Bool.false_eq_true, if_false] at q16 ⊢
              exact fin1 I16 q16
            | true =>
              simp only [if_true] at q16 ⊢
              refine thnF (pe _ s16 σ15 H16 _ I16 q16) fun z s17 ⟨yv, H17, I17, r17, acc, hD17, hz17, nx⟩ => ?_
              exact app_ok (X := X.blk s3 H3 scope ce fp) I17 hD17 hz17 r17 fun s18 I18 => fin1 I18 nx
        exact compStart1_ok loop1 (T1.self X.A 0 _ _ _ st11 loop1)
  exact codeAny_compStart_list loop (T.self X.A 0 _ _ _ st4 loop)
theorem ps_setLc2 {i : Nat} {y : Str} {py : Pos} {elt tg iter tg1 iter1 : Expr} {ifs ifs1 : List Expr} {scope : Scope} {own : List (Str × Nat)} {vs1 : List Nat} {pos spos : Pos} {wi wi1 : TI} {g g1 : TG} {tt tt1 : TT} {te : TE} (hc : X.calm = true) (hN : X.N.Nodup) (hy : X.N[i]? = some y) (hyl : X.env.scope.names.lookup y = some .local)
    (hsw : swapsWith (.ListComp elt [⟨tg, iter, ifs, 0⟩, ⟨tg1, iter1, ifs1, 0⟩] scope pos) (some (.Name y py)) spos.line X.env = pure true) (hi : PI X tg iter wi) (ok : BlkOk X.N X.env.scope scope own) (hv : ∀ i ∈ vs1, i ∈ own.map (·.2))
    (hg : ∀ (s : Shared) (H : Hp) (C : Addr) (cl : List (Str × Addr)) (fp : List Addr), PG (X.blk s H scope (compEnvC scope cl C X.env) fp) tg g) (ht : ∀ (s : Shared) (H : Hp) (C : Addr) (cl : List (Str × Addr)) (fp : List Addr), PTs (X.blk s H scope (compEnvC scope cl C X.env) fp) ifs tt)
    (hi1 : ∀ (s : Shared) (H : Hp) (C : Addr) (cl : List (Str × Addr)) (fp : List Addr), PI (X.blk s H scope (compEnvC scope cl C X.env) fp) tg1 iter1 wi1)
    (hg1 : ∀ (s : Shared) (H : Hp) (C : Addr) (cl : List (Str × Addr)) (fp : List Addr), PG (X.blk s H scope (compEnvC scope cl C X.env) fp) tg1 g1) (ht1 : ∀ (s : Shared) (H : Hp) (C : Addr) (cl : List (Str × Addr)) (fp : List Addr), PTs (X.blk s H scope (compEnvC scope cl C X.env) fp) ifs1 tt1)
    (he : ∀ (s : Shared) (H : Hp) (C : Addr) (cl : List (Str × Addr)) (fp : List Addr), PE (X.blk s H scope (compEnvC scope cl C X.env) fp) elt te) (hs : ∀ x, foldedSetIterable iter X.env x = pure x := by intro _; rfl) (hs1 : ∀ env x, foldedSetIterable iter1 env x = pure x := by intro _ _; rfl) :
    PS X (.Assign [.Name y py] (.ListComp elt [⟨tg, iter, ifs, 0⟩, ⟨tg1, iter1, ifs1, 0⟩] scope pos) spos) (tAsg (tLc2 wi g tt wi1 g1 tt1 te (own.map (·.2)) vs1) (gName i)) := by
  intro pins s σ H D I h
  rw [exec_Assign_Name_used _ _ _ _ hsw]
  refine wpAny_bind (wpAny_standAt (wpAny_bind ?_))
  show wpAny _ X.A (do let _ ← comprehension (.ListComp elt [⟨tg, iter, ifs, 0⟩, ⟨tg1, iter1, ifs1, 0⟩] scope pos) scope X.env (firstIterPos [⟨tg, iter, ifs, 0⟩, ⟨tg1, iter1, ifs1, 0⟩] pos) (newList []) false (eval iter X.env) (some (assign (.Name y py) X.env))) _ _ s
  have h : tLc2 wi g tt wi1 g1 tt1 te (own.map (·.2)) vs1 σ H (fun x H1 => gName i x σ H1 D.nx) := h
  refine wpAny_bind (thn (lc2_core (Qf := fun _ s' => SP X pins D .next s') hc hN I hi ok hv hg ht he hs hi1 hg1 ht1 hs1 h fun L C s' m H' I' q hn f => ?_) fun _ s' hq => wpAny_pure (wpAny_pure hq))
  show wpAny _ _ (assign (.Name y py) X.env (.ref L)) _ _ _
  refine wpAny_assign_Name (store_ok2 (v := V.ref L) I' hN hy (.inl hyl) rfl (fun s2 I2 ⟨a, sb, ha⟩ => ?_) (.inr hyl))
  obtain ⟨f0, f1, f2, f3, f4, f5⟩ := f
  have haC : C ≠ a := by
    rcases ha with z | z
    · rw [z]; exact f1
    · exact fun e => f4 y a z e.symm
  refine ⟨m, hn.sameBut sb haC, fun h3 sb3 => ?_⟩
  exact ⟨_, H', I2.turned (t' := s2.toks) (fun b o hb e => (sb3.2 b hb).trans e) f0 f1 f3 f4 f5, q⟩
end
end L2

namespace L2
open PySem PySem.Spec PyProof.Rows

/-! ### lists of pairs as tables -/
section
variable {κ : Type} [DecidableEq κ]
def valV (kvs : List (κ × V)) (k : κ) : Option V := (kvs.find? fun kv => decide (kv.1 = k)).map (·.2)
/-- in its place, or at the end -/
def putK (kvs : List (κ × V)) (k : κ) (v : V) : List (κ × V) :=
  if (kvs.any fun kv => decide (kv.1 = k)) = true then kvs.map (fun kv => if kv.1 = k then (kv.1, v) else kv) else kvs ++ [(k, v)]
def dropK (kvs : List (κ × V)) (k : κ) : List (κ × V) := kvs.filter fun kv => decide (kv.1 ≠ k)

theorem valV_pos {p : κ × V} {r : List (κ × V)} {k : κ} (e : p.1 = k) : valV (p :: r) k = some p.2 := by simp [valV, List.find?_cons, e]
theorem valV_neg {p : κ × V} {r : List (κ × V)} {k : κ} (e : ¬ p.1 = k) : valV (p :: r) k = valV r k := by simp [valV, List.find?_cons, e]
theorem valV_any (k : κ) : ∀ kvs : List (κ × V), (kvs.any fun kv => decide (kv.1 = k)) = (valV kvs k).isSome
  | [] => rfl
  | p :: r => by
    rw [List.any_cons]
    by_cases e : p.1 = k
    · simp only [valV_pos e, decide_eq_true e, Bool.true_or, Option.isSome_some]
    · rw [valV_neg e, decide_eq_false e, Bool.false_or]; exact valV_any k r
theorem valV_map (k j : κ) (y : V) : ∀ kvs : List (κ × V), valV (kvs.map fun kv => if kv.1 = k then (kv.1, y) else kv) j = (valV kvs j).map fun x => if j = k then y else x
  | [] => rfl
  | p :: r => by
    have ih := valV_map k j y r
    rw [List.map_cons]
    by_cases h : p.1 = k
    · rw [if_pos h]
      by_cases e : p.1 = j
      · rw [valV_pos (p := (p.1, y)) e, valV_pos e, Option.map_some, if_pos (e.symm.trans h)]
      · rw [valV_neg (p := (p.1, y)) e, valV_neg e, ih]
    · rw [if_neg h]
      by_cases e : p.1 = j
      · rw [valV_pos (p := p) e, valV_pos e, Option.map_some, if_neg (fun z => h (e.trans z))]
      · rw [valV_neg (p := p) e, valV_neg e, ih]
theorem valV_snoc (k j : κ) (y : V) : ∀ kvs : List (κ × V), valV kvs k = none → valV (kvs ++ [(k, y)]) j = if j = k then some y else valV kvs j
  | [], _ => by
    by_cases e : k = j
    · rw [if_pos e.symm]; exact valV_pos (p := (k, y)) e
    · rw [if_neg (fun z => e z.symm)]; exact valV_neg (p := (k, y)) e
  | p :: r, hn => by
    rw [List.cons_append]
    have hk : ¬ p.1 = k := fun z => by rw [valV_pos z] at hn; cases hn
    rw [valV_neg hk] at hn
    have ih := valV_snoc k j y r hn
    by_cases e : p.1 = j
    · rw [valV_pos e, valV_pos e, if_neg (fun z => hk (e.trans z))]
    · rw [valV_neg e, valV_neg e, ih]
theorem valV_put (kvs : List (κ × V)) (k j : κ) (y : V) : valV (putK kvs k y) j = if j = k then some y else valV kvs j := by
  unfold putK
  by_cases a : (kvs.any fun kv => decide (kv.1 = k)) = true
  · rw [if_pos a, valV_map]
    rw [valV_any] at a
    by_cases e : j = k
    · obtain ⟨x, hx⟩ := Option.isSome_iff_exists.mp a
      rw [if_pos e, e, hx, Option.map_some, if_pos rfl]
    · rw [if_neg e]
      cases valV kvs j with
      | none => rfl
      | some x => rw [Option.map_some, if_neg e]
  · rw [if_neg a]
    refine valV_snoc k j y kvs ?_
    rw [valV_any] at a
    cases q : valV kvs k with
    | none => rfl
    | some x => rw [q] at a; exact (a rfl).elim
theorem length_putK (kvs : List (κ × V)) (k : κ) (v : V) : (putK kvs k v).length ≤ kvs.length + 1 := by
  unfold putK
  split
  · rw [List.length_map]; omega
  · rw [List.length_append, List.length_cons, List.length_nil]; omega
theorem putK_new {kvs : List (κ × V)} {k : κ} (v : V) (h : valV kvs k = none) : putK kvs k v = kvs ++ [(k, v)] := by
  unfold putK
  rw [valV_any, h]
  exact if_neg (by decide)

theorem RelO.isSome_eq {o : Option V} {u : Option Value} (r : RelO o u) : o.isSome = u.isSome := by
  cases o with
  | none => cases u with
    | none => rfl
    | some _ => exact (show False from r).elim
  | some _ => cases u with
    | none => exact (show False from r).elim
    | some _ => rfl
theorem RelO.getD {o : Option V} {u : Option Value} {d : V} {d' : Value} (r : RelO o u) (rd : RelV d d') : RelV (o.getD d) (u.getD d') := by
  cases o with
  | none => cases u with
    | none => exact rd
    | some _ => exact (show False from r).elim
  | some _ => cases u with
    | none => exact (show False from r).elim
    | some _ => exact r

/-- raw tables of the same keys -/
theorem KV.val {kvs : List (κ × V)} {vs : List (κ × Value)} (r : KV kvs vs) (k : κ) : RelO (valV kvs k) (valueAt vs k) := by
  unfold KV at r
  induction r with
  | nil => exact True.intro
  | @cons p q ps qs h t ih =>
    obtain ⟨h1, h2⟩ := h
    by_cases e : p.1 = k
    · have e' : q.1 = k := h1.symm.trans e
      have b : valueAt (q :: qs) k = some q.2 := by simp [valueAt, List.find?_cons, e']
      rw [valV_pos e, b]; exact h2
    · have e' : ¬ q.1 = k := fun z => e (h1.trans z)
      have b : valueAt (q :: qs) k = valueAt qs k := by simp [valueAt, List.find?_cons, e']
      rw [valV_neg e, b]; exact ih
theorem KV.any {kvs : List (κ × V)} {vs : List (κ × Value)} (r : KV kvs vs) (k : κ) : (kvs.any fun kv => decide (kv.1 = k)) = vs.any fun kv => decide (kv.1 = k) := by
  unfold KV at r
  induction r with
  | nil => rfl
  | cons h t ih => rw [List.any_cons, List.any_cons, ih, h.1]
theorem KV.repl {kvs : List (κ × V)} {vs : List (κ × Value)} (r : KV kvs vs) (k : κ) {y : V} {u : Value} (ry : RelV y u) :
    KV (kvs.map fun kv => if kv.1 = k then (kv.1, y) else kv) (vs.map fun kv => if kv.1 = k then (kv.1, u) else kv) := by
  unfold KV at r ⊢
  induction r with
  | nil => exact .nil
  | @cons p q ps qs h t ih =>
    rw [List.map_cons, List.map_cons]
    refine .cons ?_ ih
    obtain ⟨h1, h2⟩ := h
    by_cases e : p.1 = k
    · rw [if_pos e, if_pos (h1.symm.trans e)]; exact ⟨h1, ry⟩
    · rw [if_neg e, if_neg (fun z => e (h1.trans z))]; exact ⟨h1, h2⟩
theorem KV.put {kvs : List (κ × V)} {vs : List (κ × Value)} (r : KV kvs vs) (k : κ) {y : V} {u : Value} (ry : RelV y u) : KV (putK kvs k y) (stored vs k u) := by
  unfold putK stored
  rw [r.any k]
  by_cases e : (vs.any fun kv => decide (kv.1 = k)) = true
  · rw [if_pos e, if_pos e]; exact r.repl k ry
  · rw [if_neg e, if_neg e]; exact Paired.snoc r ⟨rfl, ry⟩
theorem KV.drop {kvs : List (κ × V)} {vs : List (κ × Value)} (r : KV kvs vs) (k : κ) : KV (dropK kvs k) (without vs k) := by
  unfold KV at r ⊢
  unfold dropK without
  induction r with
  | nil => exact .nil
  | @cons p q ps qs h t ih =>
    obtain ⟨h1, h2⟩ := h
    rw [List.filter_cons, List.filter_cons]
    by_cases e : p.1 = k
    · have a : ¬ decide (p.1 ≠ k) = true := by simp [e]
      have b : ¬ decide (q.1 ≠ k) = true := by simp [h1.symm.trans e]
      rw [if_neg a, if_neg b]; exact ih
    · have e' : ¬ q.1 = k := fun z => e (h1.trans z)
      have a : decide (p.1 ≠ k) = true := by simp [e]
      have b : decide (q.1 ≠ k) = true := by simp [e']
      rw [if_pos a, if_pos b]; exact .cons ⟨h1, h2⟩ ih
theorem KV.keys {kvs : List (κ × V)} {vs : List (κ × Value)} (r : KV kvs vs) : kvs.map (·.1) = vs.map (·.1) := by
  unfold KV at r
  induction r with
  | nil => rfl
  | cons h t ih => rw [List.map_cons, List.map_cons, ih, h.1]
theorem KV.length {kvs : List (κ × V)} {vs : List (κ × Value)} (r : KV kvs vs) : kvs.length = vs.length := Paired.length r
end


/-! ### a tracked dict, its keys ints and texts or tuples of these -/
theorem kV_is {P : Program} {w : World} {k : Key} {u : Value} (r : RelV (kV k) u) : (mixKind P w).is k u = true := by
  cases k with
  | inl i => obtain ⟨t, e⟩ := (show ∃ t, u = Value.int i t from r); subst e; exact mixKind_int P w i t
  | inr x => obtain ⟨t, e⟩ := (show ∃ t, u = Value.str x t from r); subst e; exact mixKind_str P w x t
theorem items_are {P : Program} {w : World} : ∀ {ks : List Key} {us : List Value}, Vals (ks.map kV) us → ItemsAre (mixKind P w) ks us
  | [], _, r => by rw [List.map_nil] at r; cases r; exact .nil
  | k :: ks, _, r => by
    rw [List.map_cons] at r
    cases r with
    | cons h t => exact .cons (kV_is h) (items_are t)

/-- raw entries of a dict with tuple keys -/
abbrev KT (H : Hp) : List (List Key × V) → List (List Key × Addr × Value) → Prop := Paired fun p q => p.1 = q.1 ∧ H q.2.1 = some (.tup (p.1.map kV)) ∧ RelV p.2 q.2.2
theorem KT.val {H : Hp} {kvs : List (List Key × V)} {xs : List (List Key × Addr × Value)} (r : KT H kvs xs) (k : List Key) : RelO (valV kvs k) ((atKey xs k).map (·.2)) := by
  induction r with
  | nil => exact True.intro
  | @cons p q ps qs h t ih =>
    obtain ⟨h1, _, h2⟩ := h
    by_cases e : p.1 = k
    · have e' : q.1 = k := h1.symm.trans e
      have b : atKey (q :: qs) k = some q.2 := by simp [atKey, List.find?_cons, e']
      rw [valV_pos e, b]; exact h2
    · have e' : ¬ q.1 = k := fun z => e (h1.trans z)
      have b : atKey (q :: qs) k = atKey qs k := by simp [atKey, List.find?_cons, e']
      rw [valV_neg e, b]; exact ih
theorem KT.repl {H : Hp} {kvs : List (List Key × V)} {xs : List (List Key × Addr × Value)} (r : KT H kvs xs) (k : List Key) {y : V} {u : Value} (ry : RelV y u) :
    KT H (kvs.map fun kv => if kv.1 = k then (kv.1, y) else kv) (xs.map (putAt k u)) := by
  induction r with
  | nil => exact .nil
  | @cons p q ps qs h t ih =>
    rw [List.map_cons, List.map_cons]
    refine .cons ?_ ih
    obtain ⟨h1, h2, h3⟩ := h
    unfold putAt
    by_cases e : p.1 = k
    · rw [if_pos e, if_pos (h1.symm.trans e)]; exact ⟨h1, h2, ry⟩
    · rw [if_neg e, if_neg (fun z => e (h1.trans z))]; exact ⟨h1, h2, h3⟩
theorem KT.put {H : Hp} {kvs : List (List Key × V)} {xs : List (List Key × Addr × Value)} (r : KT H kvs xs) (k : List Key) {b : Addr} {y : V} {u : Value} (hb : H b = some (.tup (k.map kV))) (ry : RelV y u) :
    KT H (putK kvs k y) (storedH xs k b u) := by
  have e : (kvs.any fun kv => decide (kv.1 = k)) = (atKey xs k).isSome := by
    rw [valV_any, (r.val k).isSome_eq, Option.isSome_map]
  unfold putK storedH
  rw [e]
  by_cases q : (atKey xs k).isSome = true
  · rw [if_pos q, if_pos q]; exact r.repl k ry
  · rw [if_neg q, if_neg q]; exact Paired.snoc r ⟨rfl, hb, ry⟩
theorem KT.keeps {H H' : Hp} {kvs : List (List Key × V)} {xs : List (List Key × Addr × Value)} (r : KT H kvs xs) (ht : ∀ b ys, H b = some (.tup ys) → H' b = some (.tup ys)) : KT H' kvs xs :=
  Paired.mapP r fun _ _ z => ⟨z.1, ht _ _ z.2.1, z.2.2⟩

section
variable {P : Program} {w : World} {H : Hp} {h : Heap} {a : Addr}
theorem rd_of {u : HO} (ok : HOk P w H h) (e : Rd H a u) : ObjOk P w H h a u := e.ok ok
theorem dk_rd {kvs : List (Key × V)} (ok : HOk P w H h) (e : Rd H a (.dK kvs)) : kvs.length ≤ sizeLine ∧ (a == sysModules) = false ∧ ∃ vs, KV kvs vs ∧ h.DictOf (mixKind P w) a vs :=
  show ObjOk P w H h a (.dK kvs) from rd_of ok e
theorem dk_of {kvs : List (Key × V)} (ok : HOk P w H h) (e : H a = some (.dK kvs)) : kvs.length ≤ sizeLine ∧ (a == sysModules) = false ∧ ∃ vs, KV kvs vs ∧ h.DictOf (mixKind P w) a vs := dk_rd ok (.inl e)
/-- a tracked tuple of ints and texts is a key -/
theorem key_of {ks : List Key} (ok : HOk P w H h) (e : H a = some (.tup (ks.map kV))) : (tupleKind (mixKind P w)).is h ks a := by
  obtain ⟨_, its, r, o, h1, h2, ⟨n, h3⟩, _⟩ := (show ObjOk P w H h a (.tup (ks.map kV)) from ok a _ e)
  exact ⟨o, its.toArray, n, h1, h2, h3, by simpa using items_are r⟩
theorem dt_rd {kvs : List (List Key × V)} (ok : HOk P w H h) (e : Rd H a (.dT kvs)) : kvs.length ≤ sizeLine ∧ (a == sysModules) = false ∧
    ∃ xs, KT H kvs xs ∧ h.DictOfH (tupleKind (mixKind P w)) a xs := by
  obtain ⟨z, y, xs, r, o, es, ep, h1, h2, h3, h4, h5⟩ := (show ObjOk P w H h a (.dT kvs) from rd_of ok e)
  refine ⟨z, y, xs, r, o, es, ep, h1, h2, h3, h4, fun x hx => ?_, h5⟩
  have all : ∀ {l : List (List Key × V)} {m : List (List Key × Addr × Value)}, KT H l m → ∀ x ∈ m, (tupleKind (mixKind P w)).is h x.1 x.2.1 := by
    intro l m q
    induction q with
    | nil => intro x hx; exact nomatch hx
    | @cons p q ps qs hq t ih =>
      intro x hx
      rcases List.mem_cons.mp hx with e | hx
      · subst e
        exact key_of ok (by rw [← hq.1]; exact hq.2.1)
      · exact ih x hx
  exact all r x hx
theorem dt_of {kvs : List (List Key × V)} (ok : HOk P w H h) (e : H a = some (.dT kvs)) : kvs.length ≤ sizeLine ∧ (a == sysModules) = false ∧
    ∃ xs, KT H kvs xs ∧ h.DictOfH (tupleKind (mixKind P w)) a xs := dt_rd ok (.inl e)
end

/-- what the dict at a holds at the key y -/
def DGet (H : Hp) (a : Addr) (y : V) (r : Option V) : Prop :=
  (∃ kvs k, Rd H a (.dK kvs) ∧ y = kV k ∧ r = valV kvs k) ∨ ∃ kvs k b, Rd H a (.dT kvs) ∧ y = .ref b ∧ H b = some (.tup (k.map kV)) ∧ r = valV kvs k
/-- the heap behind a[y] = v -/
def DPut (H : Hp) (a : Addr) (y v : V) (H' : Hp) : Prop :=
  (∃ kvs k, H a = some (.dK kvs) ∧ y = kV k ∧ kvs.length < sizeLine ∧ H' = upd H a (.dK (putK kvs k v))) ∨
  ∃ kvs k b, H a = some (.dT kvs) ∧ y = .ref b ∧ H b = some (.tup (k.map kV)) ∧ kvs.length < sizeLine ∧ H' = upd H a (.dT (putK kvs k v))
theorem DGet.k {H : Hp} {a : Addr} {kvs : List (Key × V)} {k : Key} (e : H a = some (.dK kvs)) : DGet H a (kV k) (valV kvs k) := .inl ⟨kvs, k, .inl e, rfl, rfl⟩
theorem DGet.t {H : Hp} {a b : Addr} {kvs : List (List Key × V)} {k : List Key} (e : H a = some (.dT kvs)) (eb : H b = some (.tup (k.map kV))) : DGet H a (.ref b) (valV kvs k) := .inr ⟨kvs, k, b, .inl e, rfl, eb, rfl⟩
theorem DPut.k {H : Hp} {a : Addr} {kvs : List (Key × V)} {k : Key} {v : V} (e : H a = some (.dK kvs)) (hl : kvs.length < sizeLine) : DPut H a (kV k) v (upd H a (.dK (putK kvs k v))) := .inl ⟨kvs, k, e, rfl, hl, rfl⟩
theorem DPut.t {H : Hp} {a b : Addr} {kvs : List (List Key × V)} {k : List Key} {v : V} (e : H a = some (.dT kvs)) (eb : H b = some (.tup (k.map kV))) (hl : kvs.length < sizeLine) :
    DPut H a (.ref b) v (upd H a (.dT (putK kvs k v))) := .inr ⟨kvs, k, b, e, rfl, eb, hl, rfl⟩


section
variable {X : Cx} {pins : List (Addr × Obj)} {σ : St} {H : Hp} {s : Shared} {a : Addr} {y v : V} {u r : Value} {o : Option V} {A : Around} {E : Value → Shared → Prop}

theorem Inv.big (I : Inv X pins σ H s) : sysModules < s.heap.objs.size := by
  have h : mainGlobals < s.heap.objs.size := (I.mod.glob.keeps I.bk).lt
  exact Nat.lt_trans (by decide) h

/-- d[y], there -/
theorem d_getItem {Q : Value → Shared → Prop} (hu : A.units + 1 < cLine) (I : Inv X pins σ H s) (g : DGet H a y (some v)) (ry : RelV y u) (h : ∀ w' s', Inv X pins σ H s' → RelV v w' → Q w' s') :
    wpAny (model X.prog X.w) A (getItem (.ref a) u) Q E s := by
  rcases g with ⟨kvs, k, e, ey, l⟩ | ⟨kvs, k, b, e, ey, eb, l⟩
  · subst ey
    obtain ⟨z, hd, vs, rel, dd⟩ := dk_rd I.hok e
    obtain ⟨w', hw, rw'⟩ := RelO.some_of (v := v) (o := valueAt vs k) (by rw [l]; exact rel.val k)
    exact wpAny_getItem_of (kV_is ry) dd.mapOf hw (h w' _ (I.tok _) rw')
  · subst ey
    cases (show u = Value.ref b from ry)
    obtain ⟨z, hd, xs, rel, dd⟩ := dt_rd I.hok e
    obtain ⟨w', hw, rw'⟩ := RelO.some_of (v := v) (o := (atKey xs k).map (·.2)) (by rw [l]; exact rel.val k)
    obtain ⟨p, hp, hp2⟩ := Option.map_eq_some_iff.mp hw
    refine wpAny_getItem_heap (tupleKind_room_in1 hu) (key_of I.hok eb) dd hp ?_
    rw [hp2]
    exact h w' _ (I.tok _) rw'
/-- y in d -/
theorem d_in {Q : Value → Shared → Prop} (hu : A.units + 1 < cLine) (I : Inv X pins σ H s) (g : DGet H a y o) (ry : RelV y u) (h : ∀ s', Inv X pins σ H s' → Q (.bool o.isSome) s') :
    wpAny (model X.prog X.w) A (compareOp .In u (.ref a)) Q E s := by
  rcases g with ⟨kvs, k, e, ey, l⟩ | ⟨kvs, k, b, e, ey, eb, l⟩
  · subst ey
    obtain ⟨z, hd, vs, rel, dd⟩ := dk_rd I.hok e
    refine wpAny_in_of (kV_is ry) hd dd.mapOf ?_
    rw [← (rel.val k).isSome_eq, ← l]
    exact h _ (I.tok _)
  · subst ey
    cases (show u = Value.ref b from ry)
    obtain ⟨z, hd, xs, rel, dd⟩ := dt_rd I.hok e
    refine wpAny_in_heap (tupleKind_room_in1 hu) (key_of I.hok eb) hd dd ?_
    have q := (rel.val k).isSome_eq
    rw [Option.isSome_map] at q
    rw [← q, ← l]
    exact h _ (I.tok _)
theorem d_notIn {Q : Value → Shared → Prop} (hu : A.units + 1 < cLine) (I : Inv X pins σ H s) (g : DGet H a y o) (ry : RelV y u) (h : ∀ s', Inv X pins σ H s' → Q (.bool (!o.isSome)) s') :
    wpAny (model X.prog X.w) A (compareOp .NotIn u (.ref a)) Q E s := by
  rcases g with ⟨kvs, k, e, ey, l⟩ | ⟨kvs, k, b, e, ey, eb, l⟩
  · subst ey
    obtain ⟨z, hd, vs, rel, dd⟩ := dk_rd I.hok e
    refine wpAny_notIn_of (kV_is ry) hd dd.mapOf ?_
    rw [← (rel.val k).isSome_eq, ← l]
    exact h _ (I.tok _)
  · subst ey
    cases (show u = Value.ref b from ry)
    obtain ⟨z, hd, xs, rel, dd⟩ := dt_rd I.hok e
    refine wpAny_notIn_heap (tupleKind_room_in1 hu) (key_of I.hok eb) hd dd ?_
    have q := (rel.val k).isSome_eq
    rw [Option.isSome_map] at q
    rw [← q, ← l]
    exact h _ (I.tok _)
/-- a dict's object is replaced -/
theorem d_write {h' : Heap} {t' : Nat} {ob : HO} (I : Inv X pins σ H s) (mu : Mut (H a)) (hs : Heap.SameBut a s.heap h') (he : ∃ q, h'.get? a = some q) (new : ObjOk X.prog X.w (upd H a ob) h' a ob) :
    Inv X pins σ (upd H a ob) { s with heap := h', toks := t' } :=
  I.write (x := a) (e := a) mu (.inl rfl) (fun b q hb z => (hs.2 b hb).trans z) he new
theorem dk_new {P : Program} {w : World} {H' : Hp} {h' : Heap} {kvs : List (Key × V)} {vs : List (Key × Value)} (z : kvs.length ≤ sizeLine) (hd : (a == sysModules) = false) (rel : KV kvs vs) (dd : h'.DictOf (mixKind P w) a vs) :
    ObjOk P w H' h' a (.dK kvs) := ⟨z, hd, vs, rel, dd⟩
end

section
variable {X : Cx} {pins : List (Addr × Obj)} {σ : St} {H : Hp} {s : Shared} {a : Addr} {kvs : List (Key × V)} {k : Key} {u : Value} {A : Around} {E : Value → Shared → Prop}
end


/-! ### readings and rules -/
/-- the element of a subscription, not a slice -/
def NoSl (i : Expr) : Prop := ∀ ov iv, subscripted i false ov iv = operate [ov, iv] (getItem ov iv)
theorem subD_of {prog : Program} {w : World} {A : Around} {E : Value → Shared → Prop} {s : Shared} {env : Env} {value slice : Expr} {pos : Pos} {T id : String} {Q : Value → Shared → Prop}
    (hl : typeLookup (.type T) "__getitem__" = pure (some (.builtin id))) (hs : NoSl slice)
    (h : wpAny (model prog w) A (eval value env) (fun o s₁ => wpAny (model prog w) A (eval slice env) (fun i s₂ => s₂.TypeIs o T ∧ wpAny (model prog w) A (getItem o i) Q E s₂) E s₁) E s) :
    wpAny (model prog w) A (eval (.Subscript value slice pos) env) Q E s := by
  refine Subscript_ (wpAny_mono h (fun o s₁ h₁ => wpAny_mono h₁ (fun i s₂ h₂ => ?_) fun _ _ x => x) fun _ _ x => x)
  obtain ⟨hT, h₂⟩ := h₂
  unfold subscriptTail
  refine wpAny_bind ?_
  rw [getitemInPython_of_ne hT.not_modules]
  refine wpAny_bind (wpAny_specialOf hT hl ?_)
  have fin : wpAny (model prog w) A (subscripted slice false o i) (fun r s₃ => wpAny (model prog w) A (letTemporaryGo value o r >>= fun _ => pure r) Q E s₃) E s₂ := by
    rw [hs o i]
    exact wpAny_operating (wpAny_mono h₂ (fun r s₃ h₃ => wpAny_bind (wpAny_letTemporaryGo (wpAny_pure h₃))) fun _ _ x => x)
  first
    | exact wpAny_pure (wpAny_bind fin)
    | exact wpAny_bind (wpAny_pure (wpAny_bind fin))
    | exact wpAny_bind fin

theorem dict_typeIs {X : Cx} {pins : List (Addr × Obj)} {σ : St} {H : Hp} {s : Shared} {a : Addr} {y : V} {o : Option V} (I : Inv X pins σ H s) (g : DGet H a y o) : s.TypeIs (.ref a) "dict" := by
  rcases g with ⟨kvs, k, e, _, _⟩ | ⟨kvs, k, b, e, _, _, _⟩
  · obtain ⟨_, _, vs, _, dd⟩ := dk_rd I.hok e
    exact dd.typeIs
  · obtain ⟨_, _, xs, _, dd⟩ := dt_rd I.hok e
    exact dd.typeIs
/-- d[y] -/
def tDGet (td ty : TE) : TE := fun σ H Q => td σ H fun x H1 => ty σ H1 fun y H2 => ∃ a v, x = .ref a ∧ DGet H2 a y (some v) ∧ Q v H2
/-- y in d, y not in d -/
def tDIn (ty td : TE) : TE := fun σ H Q => ty σ H fun y H1 => td σ H1 fun x H2 => ∃ a o, x = .ref a ∧ DGet H2 a y o ∧ Q (.bl o.isSome) H2
def tDNotIn (ty td : TE) : TE := fun σ H Q => ty σ H fun y H1 => td σ H1 fun x H2 => ∃ a o, x = .ref a ∧ DGet H2 a y o ∧ Q (.bl (!o.isSome)) H2
section
variable {X : Cx} {o i e value : Expr} {pos pos' tpos : Pos} {td ty tv : TE}
theorem pe_dget (hu : X.A.units + 1 < cLine) (ho : PE X o td) (hi : PE X i ty) (hs : NoSl i) : PE X (.Subscript o i pos) (tDGet td ty) := by
  intro pins s σ H Q I h
  refine subD_of PySem.F.slot_dict_getitem.lookup hs (thn (ho pins s σ H _ I h) fun u s1 ⟨x, H1, I1, rx, q1⟩ => thn (hi pins s1 σ H1 _ I1 q1) fun iv s2 ⟨y, H2, I2, ry, a, v, ex, g, q2⟩ => ?_)
  subst ex
  obtain rfl : u = Value.ref a := rx
  exact ⟨dict_typeIs I2 g, d_getItem hu I2 g ry fun w' s3 I3 rw' => ⟨v, H2, I3, rw', q2⟩⟩
theorem pc_din (hu : X.A.units + 1 < cLine) (hi : PE X i ty) (ho : PE X o td) : PC X .In i o (tDIn ty td) := by
  intro pins s σ H Q I h
  refine thn (hi pins s σ H _ I h) fun iv s1 ⟨y, H1, I1, ry, q1⟩ => thn (ho pins s1 σ H1 _ I1 q1) fun u s2 ⟨x, H2, I2, rx, a, ov, ex, g, q2⟩ => ?_
  subst ex
  obtain rfl : u = Value.ref a := rx
  exact d_in hu I2 g ry fun s3 I3 => ⟨.bl ov.isSome, H2, I3, rfl, q2⟩
theorem pc_dnotin (hu : X.A.units + 1 < cLine) (hi : PE X i ty) (ho : PE X o td) : PC X .NotIn i o (tDNotIn ty td) := by
  intro pins s σ H Q I h
  refine thn (hi pins s σ H _ I h) fun iv s1 ⟨y, H1, I1, ry, q1⟩ => thn (ho pins s1 σ H1 _ I1 q1) fun u s2 ⟨x, H2, I2, rx, a, ov, ex, g, q2⟩ => ?_
  subst ex
  obtain rfl : u = Value.ref a := rx
  exact d_notIn hu I2 g ry fun s3 I3 => ⟨.bl (!ov.isSome), H2, I3, rfl, q2⟩
end


/-! ### displays -/
theorem dk_empty {P : Program} {w : World} {H : Hp} (h : Heap) (hb : sysModules < h.objs.size) : ObjOk P w H (h.push { cls := .type "dict", data := .dict #[] }) h.objs.size (.dK []) :=
  ⟨Nat.zero_le _, beq_eq_false_iff_ne.mpr (Ne.symm (Nat.ne_of_lt hb)), [], .nil, Heap.DictOf.new h⟩
theorem dt_empty {P : Program} {w : World} {H : Hp} (h : Heap) (hb : sysModules < h.objs.size) : ObjOk P w H (h.push { cls := .type "dict", data := .dict #[] }) h.objs.size (.dT []) :=
  ⟨Nat.zero_le _, beq_eq_false_iff_ne.mpr (Ne.symm (Nat.ne_of_lt hb)), [], .nil, _, #[], 0, Heap.get?_push_size _ rfl, ⟨rfl, rfl, rfl⟩, rfl, rfl, List.nodup_nil⟩
section
variable {X : Cx} {pos : Pos}
end

/-- the pairs of a display, from the left -/
def tPairs : List (TE × TE) → St → Hp → (List (V × V) → Hp → Prop) → Prop
  | [], _, H, Q => Q [] H
  | (tk, tv) :: r, σ, H, Q => tk σ H fun x H1 => tv σ H1 fun y H2 => tPairs r σ H2 fun ps H3 => Q ((x, y) :: ps) H3
/-! ### methods -/
/-- a method call o.m(e) of a built-in, with one argument: what must be seen of the text -/
structure M1 (X : Cx) (o : Expr) (m : Str) (apos : Pos) (e : Expr) (cpos : Pos) : Prop where
  base : attributeBase o m X.env (eval o X.env) = eval o X.env
  few : ((backTo cpos (starEach [e] X.env)).all (fun x => !x.1) && (backToKw cpos (keywordEach [] X.env)).all (fun x => x.1.isSome)
    && decide (([e] : List Expr).length + ([] : List Keyword).length + (if ([] : List Keyword).isEmpty then 0 else 1) < 30)) = true
  line : (apos.endLine == cpos.line) = true
  trees : backTo cpos (starEach [e] X.env) = [(false, eval e X.env)]
structure M2 (X : Cx) (o : Expr) (m : Str) (apos : Pos) (e f : Expr) (cpos : Pos) : Prop where
  base : attributeBase o m X.env (eval o X.env) = eval o X.env
  few : ((backTo cpos (starEach [e, f] X.env)).all (fun x => !x.1) && (backToKw cpos (keywordEach [] X.env)).all (fun x => x.1.isSome)
    && decide (([e, f] : List Expr).length + ([] : List Keyword).length + (if ([] : List Keyword).isEmpty then 0 else 1) < 30)) = true
  line : (apos.endLine == cpos.line) = true
  trees : backTo cpos (starEach [e, f] X.env) = [(false, eval e X.env), (false, eval f X.env)]

/-- a is a dict, whatever its keys -/
def IsD (H : Hp) (a : Addr) : Prop := (∃ kvs, Rd H a (.dK kvs)) ∨ ∃ kvs, Rd H a (.dT kvs)
theorem isD_at {X : Cx} {pins : List (Addr × Obj)} {σ : St} {H : Hp} {s : Shared} {a : Addr} (I : Inv X pins σ H s) (d : IsD H a) :
    s.TypeIs (.ref a) "dict" ∧ (∀ b, Value.ref a = .ref b → ∃ ob, s.heap.get? b = some ob ∧ ob.dict = none) ∧ (a == sysModules) = false := by
  rcases d with ⟨kvs, e⟩ | ⟨kvs, e⟩
  · obtain ⟨_, hd, vs, _, dd⟩ := dk_rd I.hok e
    refine ⟨dd.typeIs, fun b q => ?_, hd⟩
    cases q
    obtain ⟨ob, _, _, h1, h2, _⟩ := dd
    exact ⟨ob, h1, h2.2.1⟩
  · obtain ⟨_, hd, xs, _, dd⟩ := dt_rd I.hok e
    refine ⟨dd.typeIs, fun b q => ?_, hd⟩
    cases q
    obtain ⟨ob, _, _, h1, h2, _⟩ := dd
    exact ⟨ob, h1, h2.2.1⟩

section
variable {X : Cx} {pins : List (Addr × Obj)} {σ : St} {H : Hp} {s : Shared} {a : Addr} {y d : V} {u r : Value} {o : Option V} {A : Around} {E : Value → Shared → Prop}
/-- d.get(y, x) -/
theorem d_get2 {Q : Value → Shared → Prop} (hu : A.units + 1 < cLine) (I : Inv X pins σ H s) (g : DGet H a y o) (ry : RelV y u) (rd : RelV d r) (h : ∀ w' s', Inv X pins σ H s' → RelV (o.getD d) w' → Q w' s') :
    wpAny (model X.prog X.w) A (call (.builtin "dict.get") [.ref a, u, r]) Q E s := by
  rcases g with ⟨kvs, k, e, ey, l⟩ | ⟨kvs, k, b, e, ey, eb, l⟩
  · subst ey
    obtain ⟨z, hd, vs, rel, dd⟩ := dk_rd I.hok e
    refine call_meetsIn PySem.F.slot_dict_get dd.typeIs PySem.F.entry_dict_get (PySem.F.args_dict_get_3 _ _ _) (meets_dict_get_default (mixKind X.prog X.w) a (kV_is ry) hd r) ⟨_, dd.mapOf, h _ _ (I.tok _) ?_⟩
    rw [l]
    exact (rel.val k).getD rd
  · subst ey
    cases (show u = Value.ref b from ry)
    obtain ⟨z, hd, xs, rel, dd⟩ := dt_rd I.hok e
    refine call_meetsIn PySem.F.slot_dict_get dd.typeIs PySem.F.entry_dict_get (PySem.F.args_dict_get_3 _ _ _) (meetsH_dict_get_default (tupleKind (mixKind X.prog X.w)) a b hd r) ⟨tupleKind_room_in1 hu, k, xs, key_of I.hok eb, dd, h _ _ (I.tok _) ?_⟩
    rw [l]
    exact (rel.val k).getD rd
end

def tDGet2 (td ty tx : TE) : TE := fun σ H Q => td σ H fun x H1 => ∃ a, x = .ref a ∧ IsD H1 a ∧ ty σ H1 fun y H2 => tx σ H2 fun z H3 => ∃ o, DGet H3 a y o ∧ Q (o.getD z) H3
section
variable {X : Cx} {o e f : Expr} {apos cpos : Pos} {td ty tx : TE}
theorem pe_dget2 (hu : X.A.units + 1 < cLine) (ho : PE X o td) (he : PE X e ty) (hf : PE X f tx) (m : M2 X o "get" apos e f cpos) : PE X (.Call (.Attribute o "get" apos) [e, f] [] cpos) (tDGet2 td ty tx) := by
  intro pins s σ H Q I h
  refine wpAny_Call_method m.base m.few m.line PySem.F.plainAttrs_dict PySem.F.slot_dict_get PySem.F.type_dict_get (thn (ho pins s σ H _ I h) fun u s1 ⟨x, H1, I1, rx, a, ex, d, q1⟩ => ?_)
  subst ex
  obtain rfl : u = Value.ref a := rx
  obtain ⟨t1, t2, _⟩ := isD_at I1 d
  refine ⟨t1, t2, ?_⟩
  rw [m.trees]
  refine Calls.callWith_builtin rfl (Calls.evalArgs_plain (Calls.spliced_cons (thn (he pins s1 σ H1 _ I1 q1) fun iv s2 ⟨y, H2, I2, ry, q2⟩ =>
    Calls.spliced_cons (thn (hf pins s2 σ H2 _ I2 q2) fun fv s3 ⟨z, H3, I3, rz, ov, g, q3⟩ => Calls.spliced_nil ?_))))
  exact d_get2 hu I3 g ry rz fun w' s4 I4 rw' => ⟨_, H3, I4, rw', q3⟩
end

/-! ### dict(d): a copy -/
section
variable {X : Cx} {pins : List (Addr × Obj)} {σ : St} {H : Hp} {s : Shared} {a : Addr} {kvs : List (Key × V)} {A : Around} {E : Value → Shared → Prop}
end


section
variable {X : Cx} {pins : List (Addr × Obj)} {σ : St} {H : Hp} {s : Shared} {a : Addr} {y : V} {u : Value} {A : Around} {E : Value → Shared → Prop}
end
end L2

namespace L2
open PySem PySem.Spec PyProof.Rows

section
variable {prog : Program} {w : World} {A : Around} {E : Value → Shared → Prop}
end

section
variable {X : Cx}
end
end L2

namespace L2
open PySem PySem.Spec PyProof.Rows

theorem boot_reversed5 : bootBuiltins "reversed" = some (.type "reversed") := by decide +kernel

section
variable {X : Cx} {pins : List (Addr × Obj)} {σ : St} {H : Hp} {s : Shared} {h' : Heap}
/-- several records of ours have turned -/
theorem Inv.turnedL {t' : Nat} {ch : List Addr} (I : Inv X pins σ H s) (k : ∀ b o, b ∉ ch → s.heap.get? b = some o → h'.get? b = some o) (hf : ∀ b ∈ ch, FpOk X pins H b) : Inv X pins σ H { s with heap := h', toks := t' } := by
  have nit : ∀ b u, H b = some u → b ∉ ch := fun b u e z => by
    have q := (hf b z).1
    rw [q] at e; cases e
  refine I.step (g' := s.gens) (d' := s.drawn) (ch := ch) (fun b hb => ⟨(hf b hb).2.2.2.1, (hf b hb).2.1, (hf b hb).2.2.2.2.1, (hf b hb).2.2.2.2.2⟩) (fun b o _ _ hc e _ => k b o hc e) (fun b o _ _ hc e _ => ⟨o.slots, k b o hc e⟩)
    (fun _ _ _ _ n => n) (fun b o hc e => ⟨o, k b o hc e⟩) (fun _ _ e => e) (fun _ _ _ e => e) (fun b ps e => ⟨#[], by rw [e]; simp⟩) (fun m hm => ?_) (fun b u e => ?_) I.bare
  · obtain ⟨o, es, ep, ho, r⟩ := hm
    exact ⟨o, es, ep, k _ o (fun z => (hf _ z).2.1 rfl) ho, r⟩
  · refine (I.hok b u e).stay (fun c v hc q => k c v ?_ q) (fun _ q => q) fun _ _ q => q
    rcases hc with z | z
    · rw [z]; exact nit b u e
    · exact nit c _ z
/-- .. and one new object is laid -/
theorem Inv.turnedNew {t' : Nat} {ch : List Addr} {T : Addr} {ob : HO} (I : Inv X pins σ H s) (k : ∀ b o, b ∉ ch → s.heap.get? b = some o → h'.get? b = some o) (hf : ∀ b ∈ ch, FpOk X pins H b) (hT : s.heap.objs.size ≤ T)
    (new : ObjOk X.prog X.w (upd H T ob) h' T ob) : Inv X pins σ (upd H T ob) { s with heap := h', toks := t' } := by
  have hn : H T = none := I.hok.fresh hT
  have nit : ∀ b u, H b = some u → b ∉ ch := fun b u e z => by
    have q := (hf b z).1
    rw [q] at e; cases e
  refine I.step (g' := s.gens) (d' := s.drawn) (ch := ch) (fun b hb => ⟨(hf b hb).2.2.2.1, (hf b hb).2.1, (hf b hb).2.2.2.2.1, (hf b hb).2.2.2.2.2⟩) (fun b o _ _ hc e _ => k b o hc e) (fun b o _ _ hc e _ => ⟨o.slots, k b o hc e⟩)
    (fun b o _ e n => ?_) (fun b o hc e => ⟨o, k b o hc e⟩) (fun b xs e => ?_) (fun b o u e => ?_) (fun b ps e => ⟨#[], ?_⟩) (fun m hm => ?_) (fun b u e => ?_) I.bare
  · rw [upd_ne (Nat.ne_of_lt (Nat.lt_of_lt_of_le (Heap.lt_size e) hT))]; exact n
  · rw [upd_ne (ne_of_none e hn)]; exact e
  · rw [upd_ne (ne_of_none e hn)]; exact e
  · rw [upd_ne (ne_of_none e hn), e]; simp
  · obtain ⟨o, es, ep, ho, r⟩ := hm
    exact ⟨o, es, ep, k _ o (fun z => (hf _ z).2.1 rfl) ho, r⟩
  · by_cases hb : b = T
    · subst hb
      rw [upd_same] at e
      cases e
      exact new
    · rw [upd_ne hb] at e
      refine (I.hok b u e).stay (fun c v hc q => k c v ?_ q) (fun c q => by rw [upd_ne (ne_of_none q hn)]; exact q) fun c xs q => by rw [upd_ne (ne_of_none q hn)]; exact q
      rcases hc with z | z
      · rw [z]; exact nit b u e
      · exact nit c _ z

/-! ### locking a thing while a statement runs -/
end
section
variable {X : Cx}
/-! ### one iterator just laid -/
theorem pi_one {tg : Expr} {pins : List (Addr × Obj)} {σ : St} {H : Hp} {s : Shared} {R : It → Hp → Prop} {J : It} {tn : Nat → Heap → Prop} {tk : Nat} (I : Inv X pins σ H s) (o : Obj)
    (T : Turn X.prog X.w X.K tg J [s.heap.objs.size] s.heap.objs.size tn) (st : tn 0 (s.heap.push o)) (q : R J H) : PIE X pins σ tg R (.ref s.heap.objs.size) { s with heap := s.heap.push o, toks := tk } := by
  refine ⟨s.heap.objs.size, [s.heap.objs.size], tn, J, H, rfl, I.kept fun b ob e => Heap.get?_push_of_some _ e, T, st, fun b hb => ?_, q⟩
  have e : b = s.heap.objs.size := by simpa using hb
  subst e
  exact I.fpOk (Nat.le_refl _) (I.hok.fresh (Nat.le_refl _))
end

/-! ### range with a step -/
section
variable {X : Cx} {tg : Expr}
end
/-! ### reversed(list) -/
/-- the list at a (n items at the start, which the loop leaves there), from its end -/
def Itv (K : PySem.W.Frag) (a : Addr) (n : Nat) : It :=
  ⟨fun i H => i < n ∧ ∃ (xs : List V) (x : V), SqL K H a xs ∧ xs[n - 1 - i]? = some x, fun i H x H' => H' = H ∧ ∀ xs, SqL K H a xs → xs[n - 1 - i]? = some x, fun i _ => n ≤ i⟩
theorem turn_rev {P : Program} {w : World} {K : PySem.W.Frag} {tg : Expr} (a it : Addr) (n : Nat) : Turn P w K tg (Itv K a n) [it] it (fun i h => i ≤ n ∧ h.IsRevIter it a ((n : Int) - 1 - (i : Nat))) where
  mem := by simp
  obj := fun i h st b hb => by
    have e : b = it := by simpa using hb
    subst e
    obtain ⟨_, o, e, c, d⟩ := st
    exact ⟨o, e, fun v z => by rw [d] at z; cases z⟩
  keep := fun i h h' st k => ⟨st.1, st.2.at fun o e => k it (by simp) o e⟩
  item := by
    intro X hP hw hK hc i pins s σ H E I hf st hg
    subst hP hw hK
    obtain ⟨hin, xs, x, hq, hx⟩ := hg
    obtain ⟨its, rv, p, hz⟩ := I.list hq
    obtain ⟨u, hu, ru⟩ := rv.get hx
    obtain ⟨f0, f1, f2, f3, f4, f5⟩ := hf it (by simp)
    obtain ⟨_, hit⟩ := st
    have e1 : (n : Int) - 1 - ((i : Nat) : Int) = ((n - 1 - i : Nat) : Int) := by omega
    rw [e1] at hit
    refine wpAny_pyNext_rev_item hit p.isList (x := u) (by simpa using hu) fun h' st' sb => ?_
    have e2 : ((n - 1 - i : Nat) : Int) - 1 = (n : Int) - 1 - ((i + 1 : Nat) : Int) := by omega
    rw [e2] at st'
    have I1 : Inv X pins σ H { s with heap := h' } := I.turned (t' := s.toks) (fun b o hb e => (sb.2 b hb).trans e) f0 f1 f3 f4 f5
    obtain ⟨o, e, c, d⟩ := id st'
    exact ⟨u, rfl, go_of (s := { s with heap := h' }) e c d (by decide) ⟨x, H, I1, ru, ⟨rfl, fun ys hy => by rw [I.list_inj hy hq]; exact hx⟩, ⟨hin, st'⟩, fun b hb => (hf b hb).1⟩⟩
  done := by
    intro X hP hw hK hc i pins s σ H E I hf st hg
    subst hP hw hK
    obtain ⟨f0, f1, f2, f3, f4, f5⟩ := hf it (by simp)
    obtain ⟨hin, hit⟩ := st
    have hge : n ≤ i := hg
    have e1 : (n : Int) - 1 - ((i : Nat) : Int) = -1 := by omega
    rw [e1] at hit
    exact wpAny_pyNext_rev_end (I.ok.hd hc) hit fun h' eb => ⟨rfl, I.turned (t' := s.toks) (fun b o hb e => eb b o hb e) f0 f1 f3 f4 f5⟩
  self := fun A i s Q E st h => wpAny_pyIter_revIter st.2 h
def iRev (K : PySem.W.Frag) (ta : TA) : TI := fun σ H R => ta σ H fun vs H1 => ∃ (a : Addr) (xs : List V), vs = [.ref a] ∧ SqL K H1 a xs ∧ R (Itv K a xs.length) H1
section
variable {X : Cx} {tg : Expr}
theorem pi_reversed {e : Expr} {ta : TA} {p pos : Pos} (hg : Gl X "reversed") (hm : X.mg "reversed" = none) (ha : PA X [e] ta) (hs : starEach [e] X.env = [(false, eval e X.env)] := by rfl) : PI X tg (.Call (.Name "reversed" p) [e] [] pos) (iRev X.K ta) := by
  intro pins s σ H R I h
  refine Call_ (ld_blt I hg hm boot_reversed5 (PyProof.Rows.callWith_type1 (thn (ha pos pins s σ H _ I h) fun us s1 ⟨vs, H1, I1, r1, q1⟩ => ?_) hs rfl))
  obtain ⟨a, xs, e, hq, q⟩ := q1
  subst e
  cases r1 with
  | cons r rr =>
    cases rr
    cases r
    obtain ⟨its, rv, p', hz⟩ := I1.list hq
    have hl := rv.length
    have e1 : ((its.toArray.size : Nat) : Int) - 1 = (xs.length : Int) - 1 - ((0 : Nat) : Int) := by simp only [List.size_toArray]; omega
    refine call_reversed_list p'.isList (wpAny_pyIter_revIter (l := a) (i := ((its.toArray.size : Nat) : Int) - 1) ⟨_, Heap.get?_push_size _ rfl, rfl, rfl⟩ ?_)
    refine pi_one (tk := s1.toks) I1 _ (turn_rev a _ xs.length) ⟨Nat.zero_le _, ?_⟩ q
    rw [← e1]
    exact ⟨_, Heap.get?_push_size _ rfl, rfl, rfl⟩
end

/-! ### a str -/
/-! ### a dict's keys: any dict's entries -/
section
variable {prog : Program} {w : World} {A : Around} {E : Value → Shared → Prop} {s : Shared}
end

/-! ### a locked dict -/
theorem paired_get {α β : Type} {G : α → β → Prop} {l₁ : List α} {l₂ : List β} (h : Paired G l₁ l₂) : ∀ {i : Nat} {a : α}, l₁[i]? = some a → ∃ b, l₂[i]? = some b ∧ G a b := by
  induction h with
  | nil => intro i a e; simp at e
  | @cons a b l₁ l₂ r t ih =>
    intro i a' e
    cases i with
    | zero =>
      simp only [List.getElem?_cons_zero, Option.some.injEq] at e
      subst e
      exact ⟨b, rfl, r⟩
    | succ j =>
      simp only [List.getElem?_cons_succ] at e ⊢
      exact ih e
section
variable {X : Cx} {pins : List (Addr × Obj)} {σ : St} {H : Hp} {s : Shared} {d : Addr} {o : Obj}
end

section
variable {P : Program} {w : World} {K : PySem.W.Frag} {tg : Expr} {d : Addr} {o : Obj} {es : Array DictEntry} {ep : Nat}
end

/-! ### for k in d, d.keys(), d.values(), d.items() -/
section
variable {X : Cx} {tg e : Expr} {td : TE} {apos cpos : Pos}
end

/-! ### enumerate(list) -/
/-- the list at a as it stands at each turn, each item in a new pair -/
def Ite (K : PySem.W.Frag) (a : Addr) : It :=
  ⟨fun i H => ∃ (xs : List V) (x : V), SqL K H a xs ∧ xs[i]? = some x, fun i H v H' => ∃ T x, v = .ref T ∧ H T = none ∧ H' = upd H T (.tup [.int (i : Nat), x]) ∧ ∀ xs, SqL K H a xs → xs[i]? = some x, fun i H => ∃ xs : List V, SqL K H a xs ∧ xs.length ≤ i⟩
theorem turn_enum {P : Program} {w : World} {K : PySem.W.Frag} {elts : List Expr} {kk : Nat} {tpos : Pos} (a e it : Addr) :
    Turn P w K (.Tuple elts kk tpos) (Ite K a) [e, it] e (fun i h => (∃ old, IsEnum h e it ((i : Nat) : Int) old) ∧ h.IsListIter it a i ∧ e ≠ it) where
  mem := by simp
  obj := fun i h st b hb => by
    obtain ⟨⟨old, he⟩, ⟨o, ho, hc, hd⟩, _⟩ := st
    have e' : b = e ∨ b = it := by simpa using hb
    rcases e' with z | z
    · rw [z]; exact ⟨_, he, fun v q => nomatch q⟩
    · rw [z]; exact ⟨o, ho, fun v q => by rw [hd] at q; cases q⟩
  keep := fun i h h' st k => let ⟨⟨old, he⟩, hi, hne⟩ := st; ⟨⟨old, k e (by simp) _ he⟩, hi.at fun o q => k it (by simp) o q, hne⟩
  item := by
    intro X hP hw hK hc i pins s σ H E I hf st hg
    subst hP hw hK
    obtain ⟨⟨old, he⟩, hit, hne⟩ := st
    obtain ⟨xs, x, hq, hx⟩ := hg
    obtain ⟨its, rv, p, hz⟩ := I.list hq
    obtain ⟨u, hu, ru⟩ := rv.get hx
    have hel : e < s.heap.objs.size := Heap.lt_size he
    have hil : it < s.heap.objs.size := by obtain ⟨_, q, _⟩ := hit; exact Heap.lt_size q
    refine wpAny_pyNext_enum_item he hit p.isList (x := u) (by simpa using hu) hne fun h' ho hit' hT hsz hk => ?_
    refine ⟨_, rfl, wpAny_letOwnedTupleGo_enum (s := { s with heap := h', toks := s.toks + 1 }) ho fun h'' he' sb => ?_⟩
    have hT2 : h''.get? s.heap.objs.size = some { cls := .type "tuple", data := .seq #[.int i s.toks, u] } := (sb.2 _ (Nat.ne_of_gt hel)).trans hT
    have new : ObjOk X.prog X.w (upd H s.heap.objs.size (.tup [.int (i : Nat), x])) h'' s.heap.objs.size (.tup [.int (i : Nat), x]) :=
      ⟨by show 2 ≤ sizeLine; decide, [.int i s.toks, u], .cons ⟨_, rfl⟩ (.cons ru .nil), ⟨_, hT2, rfl, ⟨_, rfl⟩, rfl⟩⟩
    have I1 : Inv X pins σ (upd H s.heap.objs.size (.tup [.int (i : Nat), x])) { s with heap := h'', toks := s.toks + 1 } :=
      I.turnedNew (ch := [e, it]) (fun b ob hb q => (sb.2 b (fun z => hb (by simp [z]))).trans (hk b ob (fun z => hb (by simp [z])) (fun z => hb (by simp [z])) q)) hf (Nat.le_refl _) new
    refine ⟨.ref s.heap.objs.size, _, I1, rfl, ⟨_, x, rfl, I.hok.fresh (Nat.le_refl _), rfl, fun ys hy => by rw [I.list_inj hy hq]; exact hx⟩, ⟨⟨u, ?_⟩, hit'.at fun o q => (sb.2 it (Ne.symm hne)).trans q, hne⟩, fun b hb => ?_⟩
    · have e1 : ((i + 1 : Nat) : Int) = (i : Int) + 1 := by omega
      rw [e1]; exact he'
    · have hb' : b < s.heap.objs.size := by
        have e' : b = e ∨ b = it := by simpa using hb
        rcases e' with z | z
        · rw [z]; exact hel
        · rw [z]; exact hil
      rw [upd_ne (Nat.ne_of_lt hb')]
      exact (hf b hb).1
  done := by
    intro X hP hw hK hc i pins s σ H E I hf st hg
    subst hP hw hK
    obtain ⟨⟨old, he⟩, hit, hne⟩ := st
    obtain ⟨xs, hq, hx⟩ := hg
    obtain ⟨its, rv, p, hz⟩ := I.list hq
    obtain ⟨f0, f1, f2, f3, f4, f5⟩ := hf it (by simp)
    have hl := rv.length
    exact wpAny_pyNext_enum_end (I.ok.hd hc) he hit p.isList (by simp; omega) fun h' eb => ⟨rfl, I.turned (t' := s.toks) (fun b o hb q => eb b o hb q) f0 f1 f3 f4 f5⟩
  self := fun A i s Q E st h => let ⟨⟨_, he⟩, _⟩ := st; wpAny_pyIter_enum he h
def iEnum (K : PySem.W.Frag) (ta : TA) : TI := fun σ H R => ta σ H fun vs H1 => ∃ a xs, vs = [.ref a] ∧ SqL K H1 a xs ∧ R (Ite K a) H1
theorem pi_enum {X : Cx} {e : Expr} {ta : TA} {p pos tpos : Pos} {elts : List Expr} {kk : Nat} (hg : Gl X "enumerate") (hm : X.mg "enumerate" = none) (ha : PA X [e] ta) (hs : starEach [e] X.env = [(false, eval e X.env)] := by rfl) :
    PI X (.Tuple elts kk tpos) (.Call (.Name "enumerate" p) [e] [] pos) (iEnum X.K ta) := by
  intro pins s σ H R I h
  refine Call_ (ld_blt I hg hm boot_enumerate (PyProof.Rows.callWith_type1 (thn (ha pos pins s σ H _ I h) fun us s1 ⟨vs, H1, I1, r1, q1⟩ => ?_) hs rfl))
  obtain ⟨a, xs, ex, hq, q⟩ := q1
  subst ex
  cases r1 with
  | cons r rr =>
    cases rr
    cases r
    obtain ⟨its, rv, p', hz⟩ := I1.list hq
    refine call_enumerate_list p'.isList fun h' he hit hsz hk => wpAny_pyIter_enum he ?_
    have I2 : Inv X pins σ H1 { s1 with heap := h' } := I1.kept (t' := s1.toks) hk
    refine ⟨s1.heap.objs.size + 1, [s1.heap.objs.size + 1, s1.heap.objs.size], _, _, H1, rfl, I2, turn_enum a (s1.heap.objs.size + 1) s1.heap.objs.size, ⟨⟨.none, he⟩, hit, Nat.succ_ne_self _⟩, fun b hb => ?_, q⟩
    have e' : b = s1.heap.objs.size + 1 ∨ b = s1.heap.objs.size := by simpa using hb
    have hle : s1.heap.objs.size ≤ b := by
      rcases e' with z | z
      · rw [z]; exact Nat.le_add_right _ _
      · rw [z]; exact Nat.le_refl _
    exact I1.fpOk hle (I1.hok.fresh hle)
/-! ### zip(list, list) -/
theorem boot_zip5 : bootBuiltins "zip" = some (.type "zip") := by decide +kernel
/-- the lists at a and b as they stand at each turn, the items in new pairs -/
def Itz (K : PySem.W.Frag) (a b : Addr) : It :=
  ⟨fun i H => ∃ (xs ys : List V) (x y : V), SqL K H a xs ∧ SqL K H b ys ∧ xs[i]? = some x ∧ ys[i]? = some y,
    fun i H v H' => ∃ T x y, v = .ref T ∧ H T = none ∧ H' = upd H T (.tup [x, y]) ∧ (∀ xs, SqL K H a xs → xs[i]? = some x) ∧ ∀ ys, SqL K H b ys → ys[i]? = some y,
    fun i H => ∃ xs ys : List V, SqL K H a xs ∧ SqL K H b ys ∧ (xs.length ≤ i ∨ ys.length ≤ i)⟩
theorem turn_zip {P : Program} {w : World} {K : PySem.W.Frag} {elts : List Expr} {kk : Nat} {tpos : Pos} {a b z TI TO i1 i2 : Addr} (D : ZipApart z TI TO i1 i2 a b) :
    Turn P w K (.Tuple elts kk tpos) (Itz K a b) [z, TI, TO, i1, i2] z (fun i h => IsZip h z TI TO .none ∧ IsPair h TI (.ref i1) (.ref i2) ∧ (∃ x y, IsPair h TO x y) ∧ h.IsListIter i1 a i ∧ h.IsListIter i2 b i) where
  mem := by simp
  obj := fun i h st c hc => by
    obtain ⟨hz, hTI, ⟨x, y, hTO⟩, ⟨o1, e1, _, d1⟩, ⟨o2, e2, _, d2⟩⟩ := st
    have e' : c = z ∨ c = TI ∨ c = TO ∨ c = i1 ∨ c = i2 := by simpa using hc
    rcases e' with q | q | q | q | q
    · rw [q]; exact ⟨_, hz, fun v q => nomatch q⟩
    · rw [q]; exact ⟨_, hTI, fun v q => nomatch q⟩
    · rw [q]; exact ⟨_, hTO, fun v q => nomatch q⟩
    · rw [q]; exact ⟨o1, e1, fun v q => by rw [d1] at q; cases q⟩
    · rw [q]; exact ⟨o2, e2, fun v q => by rw [d2] at q; cases q⟩
  keep := fun i h h' st k => by
    obtain ⟨hz, hTI, ⟨x, y, hTO⟩, h1, h2⟩ := st
    exact ⟨k z (by simp) _ hz, k TI (by simp) _ hTI, ⟨x, y, k TO (by simp) _ hTO⟩, h1.at fun o q => k i1 (by simp) o q, h2.at fun o q => k i2 (by simp) o q⟩
  item := by
    intro X hP hw hK hc i pins s σ H E I hf st hg
    subst hP hw hK
    obtain ⟨hz, hTI, ⟨x0, y0, hTO⟩, h1, h2⟩ := st
    obtain ⟨xs, ys, x, y, hqx, hqy, hx, hy⟩ := hg
    obtain ⟨its, rv, p, _⟩ := I.list hqx
    obtain ⟨its2, rv2, p2, _⟩ := I.list hqy
    obtain ⟨u, hu, ru⟩ := rv.get hx
    obtain ⟨u2, hu2, ru2⟩ := rv2.get hy
    have hzl : z < s.heap.objs.size := Heap.lt_size hz
    refine wpAny_pyNext_zip_item D hz hTI hTO h1 h2 p.isList p2.isList (x := u) (y := u2) (by simpa using hu) (by simpa using hu2) fun h' z' TO' h1' h2' hT hsz hk => ?_
    refine ⟨_, rfl, wpAny_letOwnedTupleGo_zip (s := { s with heap := h' }) z' fun h'' z'' sb => ?_⟩
    have hT2 : h''.get? s.heap.objs.size = some { cls := .type "tuple", data := .seq #[u, u2] } := (sb.2 _ (Nat.ne_of_gt hzl)).trans hT
    have new : ObjOk X.prog X.w (upd H s.heap.objs.size (.tup [x, y])) h'' s.heap.objs.size (.tup [x, y]) :=
      ⟨by show 2 ≤ sizeLine; decide, [u, u2], .cons ru (.cons ru2 .nil), ⟨_, hT2, rfl, ⟨_, rfl⟩, rfl⟩⟩
    have I1 : Inv X pins σ (upd H s.heap.objs.size (.tup [x, y])) { s with heap := h'' } :=
      I.turnedNew (t' := s.toks) (ch := [z, TI, TO, i1, i2]) (fun c o hb q => (sb.2 c (fun q' => hb (by simp [q']))).trans (hk c o (fun q' => hb (by simp [q'])) (fun q' => hb (by simp [q'])) (fun q' => hb (by simp [q'])) (fun q' => hb (by simp [q'])) q)) hf (Nat.le_refl _) new
    refine ⟨.ref s.heap.objs.size, _, I1, rfl, ⟨_, x, y, rfl, I.hok.fresh (Nat.le_refl _), rfl, fun l hl => by rw [I.list_inj hl hqx]; exact hx, fun l hl => by rw [I.list_inj hl hqy]; exact hy⟩, ⟨z'', ?_, ⟨u, u2, ?_⟩, ?_, ?_⟩, fun c hcm => ?_⟩
    · exact (sb.2 _ D.TIz).trans (hk _ _ D.TIz D.TITO D.TIi1 D.TIi2 hTI)
    · exact (sb.2 _ D.TOz).trans TO'
    · exact h1'.at fun o q => (sb.2 _ D.i1z).trans q
    · exact h2'.at fun o q => (sb.2 _ D.i2z).trans q
    · have hlt : c < s.heap.objs.size := by
        have e' : c = z ∨ c = TI ∨ c = TO ∨ c = i1 ∨ c = i2 := by simpa using hcm
        rcases e' with q | q | q | q | q
        · rw [q]; exact hzl
        · rw [q]; exact Heap.lt_size hTI
        · rw [q]; exact Heap.lt_size hTO
        · rw [q]; obtain ⟨_, e1, _⟩ := h1; exact Heap.lt_size e1
        · rw [q]; obtain ⟨_, e2, _⟩ := h2; exact Heap.lt_size e2
      rw [upd_ne (Nat.ne_of_lt hlt)]
      exact (hf c hcm).1
  done := by
    intro X hP hw hK hc i pins s σ H E I hf st hg
    subst hP hw hK
    obtain ⟨hz, hTI, ⟨x0, y0, hTO⟩, h1, h2⟩ := st
    obtain ⟨xs, ys, hqx, hqy, hend⟩ := hg
    obtain ⟨its, rv, p, _⟩ := I.list hqx
    obtain ⟨its2, rv2, p2, _⟩ := I.list hqy
    have l1 := rv.length
    have l2 := rv2.length
    have he : its.toArray[i]? = none ∨ its2.toArray[i]? = none := by
      rcases hend with q | q
      · exact .inl (by simp; omega)
      · exact .inr (by simp; omega)
    exact wpAny_pyNext_zip_end (I.ok.hd hc) D hz hTI hTO h1 h2 p.isList p2.isList he fun h' hk => ⟨rfl, I.turnedL (t' := s.toks) (ch := [z, TI, TO, i1, i2]) (fun c o hb q =>
      hk c o (fun q' => hb (by simp [q'])) (fun q' => hb (by simp [q'])) (fun q' => hb (by simp [q'])) (fun q' => hb (by simp [q'])) q) hf⟩
  self := fun A i s Q E st h => wpAny_pyIter_zip st.1 h
def iZip (K : PySem.W.Frag) (ta : TA) : TI := fun σ H R => ta σ H fun vs H1 => ∃ a b xs ys, vs = [.ref a, .ref b] ∧ SqL K H1 a xs ∧ SqL K H1 b ys ∧ R (Itz K a b) H1
theorem pi_zip {X : Cx} {e e2 : Expr} {ta : TA} {p pos tpos : Pos} {elts : List Expr} {kk : Nat} (hg : Gl X "zip") (hm : X.mg "zip" = none) (ha : PA X [e, e2] ta)
    (hs : starEach [e, e2] X.env = (false, eval e X.env) :: starEach [e2] X.env := by rfl) (hpl : (backTo pos (starEach [e2] X.env)).any (·.1) = false := by rfl) :
    PI X (.Tuple elts kk tpos) (.Call (.Name "zip" p) [e, e2] [] pos) (iZip X.K ta) := by
  intro pins s σ H R I h
  refine Call_ (ld_blt I hg hm boot_zip5 (PyProof.Rows.callWith_type1 (thn (ha pos pins s σ H _ I h) fun us s1 ⟨vs, H1, I1, r1, q1⟩ => ?_) hs hpl))
  obtain ⟨a, b, xs, ys, ex, hqx, hqy, q⟩ := q1
  subst ex
  cases r1 with
  | cons r rr =>
    cases rr with
    | cons r' rr =>
      cases rr
      cases r
      cases r'
      obtain ⟨its, rv, p1, _⟩ := I1.list hqx
      obtain ⟨its2, rv2, p2, _⟩ := I1.list hqy
      have la : a < s1.heap.objs.size := p1.lt
      have lb : b < s1.heap.objs.size := p2.lt
      refine call_zip_2 p1.isList p2.isList fun h' hz hTI hTO h1 h2 hsz hk => wpAny_pyIter_zip hz ?_
      have I2 : Inv X pins σ H1 { s1 with heap := h' } := I1.kept (t' := s1.toks) hk
      refine ⟨s1.heap.objs.size + 4, [s1.heap.objs.size + 4, s1.heap.objs.size + 2, s1.heap.objs.size + 3, s1.heap.objs.size, s1.heap.objs.size + 1], _, _, H1, rfl, I2, turn_zip (PySem.W.ktu_apart s1.heap.objs.size a b la lb), ⟨hz, hTI, ⟨_, _, hTO⟩, h1, h2⟩, fun c hcm => ?_, q⟩
      have e' : c = s1.heap.objs.size + 4 ∨ c = s1.heap.objs.size + 2 ∨ c = s1.heap.objs.size + 3 ∨ c = s1.heap.objs.size ∨ c = s1.heap.objs.size + 1 := by simpa using hcm
      have hle : s1.heap.objs.size ≤ c := by
        rcases e' with z | z | z | z | z
        · rw [z]; exact Nat.le_add_right _ _
        · rw [z]; exact Nat.le_add_right _ _
        · rw [z]; exact Nat.le_add_right _ _
        · rw [z]; exact Nat.le_refl _
        · rw [z]; exact Nat.le_add_right _ _
      exact I1.fpOk hle (I1.hok.fresh hle)
end L2

section 
namespace Bits
open PySem PyProof.Rows

end Bits
end 

section 
namespace TL
open PySem PySem.Builtin PySem.Builtin.Str PySem.StrLaws

abbrev tl (x : Str) : List Nat := x.cps.toList
/-! ### the list functions -/
/-- S stands at the head of l -/
def pre (S l : List Nat) : Bool := l.take S.length == S
/-- l cut at each S from the left; k signs are still to be passed over -/
def spl (S : List Nat) : Nat → List Nat → List Nat → List (List Nat)
  | _, acc, [] => [acc]
  | 0, acc, c :: r => if pre S (c :: r) = true then acc :: spl S (S.length - 1) [] r else spl S 0 (acc ++ [c]) r
  | k + 1, acc, _ :: r => spl S k acc r
/-- what stands before the first S, and behind it -/
def par (S : List Nat) : List Nat → List Nat → Option (List Nat × List Nat)
  | _, [] => none
  | acc, c :: r => if pre S (c :: r) = true then some (acc, (c :: r).drop S.length) else par S (acc ++ [c]) r

/-! ### the model's split and partition are these -/
/-! ### computing spl and par -/
/-! ### digits -/
/-! ### words: x.split() -/
end TL
end 

namespace L2
open PySem PySem.Spec PyProof.Rows

section
variable {X : Cx} {pins : List (Addr × Obj)} {σ : St} {H : Hp} {s : Shared} {Q : VK}
end

section
variable {X : Cx}

/-! ### of a text alone -/
/-! ### of a text and a text -/
end

section
variable {X : Cx} {o e : Expr} {to te : TE}
end
end L2

namespace L2
open PySem PySem.Spec PyProof.Rows

section
variable {X : Cx}
end

/-! ### slices of a text -/
theorem IsPart.raw {v : Value} {o : Option Int} (p : IsPart v o) : ∃ l : Option (Int × Tok), v = partValue l ∧ l.map (·.1) = o := by
  cases p with
  | none => exact ⟨none, rfl, rfl⟩
  | int i t => exact ⟨some (i, t), rfl, rfl⟩

/-- z[lo:hi] -/
def cutS (z : Str) (lo hi : Option Int) : Str :=
  ⟨((z.cps.toList.drop (HT.sIx z.length 0 lo)).take (HT.sIx z.length z.length hi - HT.sIx z.length 0 lo)).toArray⟩
def rSlS : V → Option Int → Option Int → Hp → VK → Prop := fun x lo hi H Q => ∃ z, x = .str z ∧ z.length ≤ sizeLine ∧ Q (.str (cutS z lo hi)) H
end L2

namespace Att
open PySem PySem.W PySem.Calls PyProof.Rows

/-! ### the script -/
theorem ints_of_wellAll {P : Params} {h : Heap} : ∀ (ns : List Int) (vs : List Value), WellAll P h vs (ns.map WData.int) → IntsAre vs ns := by
  intro ns
  induction ns with
  | nil =>
    intro vs w
    rw [List.map_nil] at w
    cases w
    exact .nil
  | cons n ns ih =>
    intro vs w
    rw [List.map_cons] at w
    cases w with
    | cons a b =>
      cases a
      exact .cons _ _ (ih _ b)

theorem script_of {l : OpenLaw} {n : Nat} (hn : l.most = some n) {P : Params} {h : Heap} {args : List WData} {vals : List Value}
    (hpre : l.row.toRowW.claim.pre args = true) (hwl : WellAll P h vals args) :
    ∃ a vs ns, vals = [Value.ref a] ∧ args = [WData.list (ns.map WData.int)] ∧ h.get? a = some { cls := .type "list", data := .seq vs.toArray } ∧ IntsAre vs ns ∧ ns.length ≤ n := by
  have hsh : WShape.hasAll [] args [.list .int] = true := (pre_splitW hpre).1
  have hc : l.pre.holds [] { args := args } = true := (pre_splitW hpre).2
  obtain ⟨d, r, rfl, h1, h2⟩ := hasAllW_cons hsh
  obtain rfl := hasAllW_nil h2
  obtain ⟨xs, rfl, h3⟩ := hasW_list h1
  obtain ⟨ns, rfl⟩ := items_int h3
  have hlen : ns.length ≤ n := by
    unfold OpenLaw.pre at hc
    have h4 : (WTm.not (.lt (.lit (.int (n : Int))) (.len (.arg 0)))).holds [] { args := [.list (ns.map .int)] } = true := by
      have h4 := (holds_andW hc).1
      rw [hn] at h4
      exact h4
    have h5 := condW_of h4 (w_not (w_lt w_lit (w_len_list (w_arg rfl))))
    rw [List.length_map] at h5
    refine Nat.le_of_not_lt fun q => ?_
    have q' : (n : Int) < ((ns.length : Nat) : Int) := by omega
    first
      | (rw [decide_eq_true q'] at h5; exact absurd h5 (by decide))
      | (simp at h5; omega)
  cases hwl with
  | cons w1 w2 =>
    cases w2
    cases w1 with
    | list ho hall => exact ⟨_, _, ns, rfl, rfl, ho, ints_of_wellAll ns _ hall, hlen⟩

theorem post_true (l : OpenLaw) (args : List WData) : l.row.toRowW.claim.post args (.bool true) args = true :=
  postW_of (r := l.row.toRowW) (X := (true == true))
    (show WShape.has [] (.bool true) .bool = true by first | rfl | decide | simp [WShape.has, WShape.arms, WShape.armsAll])
    (show (WTm.eq .res (.lit (.bool true))).value [] { args := args, res := some (.bool true), after := args } = some (.bool (true == true)) from w_eq_bool (w_res rfl) w_lit) rfl

/-! ### the attachment: holds_open's last premise (the goal 'hc' behind k_head) from a wpAny of the law's body -/
/-- the same from a codeAny of the CALL (for a layer whose function contracts speak of calls) -/
theorem attach_call {l : OpenLaw} {n : Nat} {q : Program} {loose : List Str} {XP : (Str → Option Value) → Heap → Prop} {YP : World → Heap → Prop} {d : DefRec}
    (hn : l.most = some n) (hdf : d.params.defaults = [])
    (call : ∀ (w : World) (s₀ s₁ : Shared) (mg mb : Str → Option Value) (fa : Addr) (o : Obj) (pm cd doc : Value) (a : Addr) (vs : List Value) (ns : List Int),
      Ground q loose [] XP w s₀ mg mb s₁.heap → YP w s₁.heap →
      s₁.heap.get? fa = some o → o.data = .func (docDef d.name d.params d.body d.scope pm cd doc) → s₁.heap.CodeRec cd d.name → mg d.name = some (.ref fa) →
      s₁.heap.get? a = some { cls := .type "list", data := .seq vs.toArray } → IntsAre vs ns → ns.length ≤ n → s₁.gens = #[] →
      codeAny (model l.prog w) callerA (.call (.ref fa) ⟨[.ref a], []⟩) (fun r s' => r = .ok (.ret (.bool true)) ∧ OldK s₁.heap s'.heap ∧ s'.os = s₁.os ∧ AllBare s'.gens) s₁) :
    WalkO q loose XP YP l.row.toRowW d [] (fun f vs => PySem.call f vs) := by
  intro w s₀ s₁ mg mb G Y fa o pm cd doc dV kV ho hd hcd hD hmg hg args vals as hpre hlay hrd hwl hlo
  obtain rfl : dV = .none := Dflts.none hD hdf
  obtain rfl : kV = .none := Dflts.noKw hD
  obtain ⟨a, vs, ns, rfl, rfl, hobj, hints, hlen⟩ := script_of hn hpre hwl
  refine enter_call (codeAny_mono (call w s₀ s₁ mg mb fa o pm cd doc a vs ns G Y ho (fd_plain hd) hcd hmg hobj hints hlen hg) fun r s' hq => ?_)
  obtain ⟨rfl, h2, h3, h4⟩ := hq
  exact ⟨.inl ⟨.bool true, .bool true, [], rfl, fun _ => rfl, .bool true, post_true l _, fun _ => ⟨List.Pairwise.nil, fun _ hm => (nomatch hm)⟩⟩, h2, h3, h4⟩

/-! ### rules over ANY heap (no ledger) from facts about the written part K: the library's own take a ledger (News) for what they write -/
section
variable {prog : Program} {w : World} {A : Around} {E : Value → Shared → Prop} {s : Shared} {K : Frag}

/-! the whole heap as the ledger: makes every rule that writes through a ledger a rule over any heap -/
def ledger (h : Heap) (L d : Addr) : List (Addr × Obj) := (List.range h.objs.size).filterMap fun a => if a = L ∨ a = d then none else (h.get? a).map fun o => (a, o)
end
end Att

namespace L2
open PySem PySem.Spec PyProof.Rows

theorem vals_ints : ∀ {vs : List Value} {ns : List Int}, IntsAre vs ns → Vals (ns.map V.int) vs
  | _, _, .nil => .nil
  | _, _, .cons n t h => .cons ⟨t, rfl⟩ (vals_ints h)

/-- nothing is tracked but the script, known to the object (or it is an object of the module) -/
def Only (H : Hp) : Prop := ∀ b, H b = none ∨ ∃ o xs, H b = some (.frz o (.lst xs))

/-- THE HEAD: the law's promise, at the heap behind the top. F, the promise of the law's def, may use that base is part of the heap (so K.In base, base.Ns mainGlobals mg stand in Mod) -/
theorem law_call {P : Program} {w : World} {K : PySem.W.Frag} {mg mb : Str → Option Value} {CX : CXT} {k : Nat} {fa a : Addr} {fd : FuncData} {x : Str} {sp : Sp} {s₁ : Shared} {vs : List Value} {ns : List Int}
    (KX : K.In s₁.heap) (hns : s₁.heap.Ns mainGlobals mg) (hb : s₁.heap.Ns builtinsNs mb) (hbb : ∀ x : Str, x ≠ "__name__" → mb x = bootBuiltins x) (hlim : s₁.heap.NoLimit) (hg : s₁.gens = #[])
    (ha : s₁.heap.get? a = some { cls := .type "list", data := .seq vs.toArray }) (hi : IntsAre vs ns) (hl : ns.length ≤ sizeLine) (hr : Room k callerA)
    (F : ∀ base : Heap, K.In base → base.Ns mainGlobals mg → FnOk P w K mg base CX k fa fd [x] sp) (hbind : ∀ (s : Shared) (u : Value), BindsTo s fd ⟨[u], []⟩ [(x, u)])
    (hsp : ∀ H : Hp, Only H → SqL K H a (ns.map V.int) → sp [.ref a] H (fun v _ => v = .bl true) fun _ _ _ => False)
    (hCX : ∀ H e s', CX [] H s₁ (fun _ _ _ => False) e s' → False) :
    codeAny (model P w) callerA (.call (.ref fa) ⟨[.ref a], []⟩) (fun r s' => r = .ok (.ret (.bool true)) ∧ OldK s₁.heap s'.heap ∧ s'.os = s₁.os ∧ AllBare s'.gens) s₁ := by
  have rv := vals_ints hi
  have lenV := hi.length
  -- from an abstract heap in which nothing but the script may be tracked
  have core : ∀ H : Hp, Only H → SqL K H a (ns.map V.int) → HOk P w H s₁.heap → (∀ b, H b ≠ none → b = a) → (H a ≠ none → K.lookup a = none) →
      codeAny (model P w) callerA (.call (.ref fa) ⟨[.ref a], []⟩) (fun r s' => r = .ok (.ret (.bool true)) ∧ OldK s₁.heap s'.heap ∧ s'.os = s₁.os ∧ AllBare s'.gens) s₁ := by
    intro H hO hS hok hA hK
    have base_of : ∀ {b : Addr} {o : Obj}, s₁.heap.get? b = some o → H b = none → (hidT s₁.heap H).get? b = some o := fun e n => hidT_get e n
    have noA : ∀ {b : Addr} {o : Obj} {es : Array DictEntry} {ep : Nat}, s₁.heap.get? b = some o → o.data = .dict es ep → H b = none := fun {b o es ep} e d => by
      cases q : H b with
      | none => rfl
      | some u =>
        have e' : b = a := hA b (by rw [q]; simp)
        subst e'
        rw [ha] at e; cases e
        have d' : Data.seq vs.toArray _ = Data.dict es ep := d
        cases d'
    have nsK : ∀ {b : Addr} {m : Str → Option Value}, s₁.heap.Ns b m → (hidT s₁.heap H).Ns b m := fun {b m} ⟨o, es, ep, e, d, r⟩ => ⟨o, es, ep, base_of e (noA e d), d, r⟩
    have hKb : K.In (hidT s₁.heap H) := fun b o e => base_of (KX b o e) (by
      cases q : H b with
      | none => rfl
      | some u =>
        have e' : b = a := hA b (by rw [q]; simp)
        subst e'
        rw [hK (by rw [q]; simp)] at e; cases e)
    have hM : Mod K mg (hidT s₁.heap H) := ⟨hKb, nsK hns, ⟨mb, nsK hb, hbb⟩, let ⟨mc, h1, h2⟩ := hlim; ⟨mc, nsK h1, h2⟩⟩
    have e0 : Env0 P w K mg (hidT s₁.heap H) callerA [] s₁ H := ⟨rfl, hM, fun b o e => of_hidT e, Nat.le_of_eq (hidT_size _ _), trivial, fun b hb => absurd (show b ∈ ([] : List Addr) from hb) (by simp), hok, .of_eq hg⟩
    refine codeAny_mono ((F _ hKb (nsK hns)).run callerA [] s₁ H ⟨[.ref a], []⟩ [.ref a] [.ref a] _ _ hr e0 (hbind s₁ (.ref a)) (.cons rfl .nil) (hsp H hO hS)) fun r s' h => ?_
    cases r with
    | error e => exact (hCX H e s' h).elim
    | ok fl =>
      cases fl with
      | next => exact False.elim h
      | brk => exact False.elim h
      | cont => exact False.elim h
      | ret u =>
        obtain ⟨v, H', os, bare, un, hok', r', q⟩ := h
        have q' : v = .bl true := q
        subst q'
        obtain rfl : u = Value.bool true := r'
        refine ⟨rfl, OldK.of_keep fun b o e => ?_, os, bare⟩
        cases q : H b with
        | none => exact un.keep b o e q (by intro z; exact absurd (show b ∈ ([] : List Addr) from z) (by simp)) (by simp)
        | some u =>
          rcases hO b with z | ⟨ob, xs, z⟩
          · rw [q] at z; cases z
          · have z2 := un.frzs b ob _ z
            obtain ⟨e1, _⟩ := hok b _ z
            obtain ⟨e2, _⟩ := hok' b _ z2
            rw [e] at e1; cases e1
            exact e2
  cases hk : K.lookup a with
  | some o =>
    -- the script is one of the module's own objects
    have e := KX a o hk
    rw [ha] at e
    cases e
    refine core (fun _ => none) (fun _ => .inl rfl) (.inr ⟨_, vs.toArray, _, hk, rfl, rfl, rfl, by rw [List.size_toArray, lenV]; exact hl, by simpa using rv⟩) (fun b u z => by have z' : (none : Option HO) = some u := z; cases z') (fun b z => absurd rfl z) fun z => absurd rfl z
  | none =>
    refine core (fun b => if b = a then some (.frz { cls := .type "list", data := .seq vs.toArray } (.lst (ns.map V.int))) else none) (fun b => ?_) (.inl (.inr ⟨{ cls := .type "list", data := .seq vs.toArray }, if_pos rfl⟩)) (fun b u z => ?_) (fun b z => ?_) fun _ => hk
    · by_cases hb : b = a
      · exact .inr ⟨_, _, if_pos hb⟩
      · exact .inl (if_neg hb)
    · by_cases hb : b = a
      · have z' := (if_pos hb).symm.trans z
        cases z'
        subst hb
        exact ⟨ha, by rw [List.length_map]; exact hl, vs, _, rv, ha⟩
      · have z' := (if_neg hb).symm.trans z
        cases z'
    · by_cases hb : b = a
      · exact hb
      · exact absurd (if_neg hb) z
end L2

namespace L2
open PySem PySem.Spec PyProof.Rows

abbrev KOf {K : PySem.W.Frag} {h : Heap} (_ : K.In h) : PySem.W.Frag := K

/-- the goal that k_head leaves (case hc), from the law's promise. F gives the function object fd (K's own) once, then the promise over every base -/
theorem walk_of {l : PySem.W.OpenLaw} {n k : Nat} {q : Program} {loose : List Str} {XP : (Str → Option Value) → Heap → Prop} {YP : World → Heap → Prop} {d : DefRec} {K : Params → PySem.W.Frag} {CX : World → CXT} {sp : World → Sp} {x : Str}
    (hn : l.most = some n) (hn2 : n ≤ sizeLine) (hdf : d.params.defaults = []) (hr : Room k callerA)
    (hY : ∀ (w : World) (h : Heap), YP w h → (K w.params).In h)
    (F : ∀ (w : World) (mg : Str → Option Value) (fa : Addr) (h : Heap), (K w.params).In h → h.Ns mainGlobals mg → mg d.name = some (.ref fa) →
      ∃ fd : FuncData, (∀ (s : Shared) (u : Value), BindsTo s fd ⟨[u], []⟩ [(x, u)]) ∧
        ∀ base : Heap, (K w.params).In base → base.Ns mainGlobals mg → FnOk l.prog w (K w.params) mg base (CX w) k fa fd [x] (sp w))
    (hsp : ∀ (w : World) (H : Hp) (a : Addr) (ns : List Int), ns.length ≤ n → Only H → SqL (K w.params) H a (ns.map V.int) → sp w [.ref a] H (fun v _ => v = .bl true) fun _ _ _ => False)
    (hCX : ∀ (w : World) (H : Hp) (s : Shared) (e : Value) (s' : Shared), CX w [] H s (fun _ _ _ => False) e s' → False) :
    PySem.W.WalkO q loose XP YP l.row.toRowW d [] (fun f vs => PySem.call f vs) := by
  refine Att.attach_call hn hdf fun w s₀ s₁ mg mb fa o pm cd doc a vs ns G Y ho hd hcd hmg hobj hints hlen hg => ?_
  have KX := hY w _ Y
  obtain ⟨fd, hb, hF⟩ := F w mg fa _ KX G.T.g hmg
  exact law_call KX G.T.g G.T.b G.T.builtins G.T.nolimit hg hobj hints (Nat.le_trans hlen hn2) hr hF hb (fun H hO hS => hsp w H a ns hlen hO hS) fun H e s' => hCX w H s₁ e s'
end L2

/- THE LAST THEOREM (shape; LID, My.* are yours):
   My.Adr: a structure of the addresses that your layer names (classes, functions); My.Txt K t: a structure (Prop) of the equations over K;
   My.txt_mk : {K} {implicit addresses ..} (e1 : nsIn K mainGlobals "law" = some (some (.ref f))) (e2 : K.lookup f = some ⟨oc, od, .func (fnOf "law" "law" params body scope dV kV doc pm an cdv ct), sl⟩) (e3 : codeIn K cdv "law" = true) .. : ∃ t, My.Txt K t

set_option maxRecDepth 100000 in
set_option maxHeartbeats 0 in
theorem PySem.Challenge.cw_LID_holds : PySem.Challenge.rw_LID.Holds := by
  w_on; o_law; k_head; (case hw => w_witness2)
  k_fill
  refine L2.walk_of (l := PySem.Challenge.rw_LID) (n := 63) (k := 40) (x := "script") (CX := fun w => ..) (sp := fun _ => My.sp_law) rfl (by decide) rfl ⟨rfl, by decide, by decide⟩ (fun w h Y => PySem.W.kIn_of Y) ?F ?S ?C
  case F =>
    intro w mg fa h KX G hmg
    have T : ∃ t, My.Txt (L2.KOf KX) t := by
      dsimp only [L2.KOf]                          -- K must stand as «<heap const> w.params» for k_is
      refine' My.txt_mk ?e1 ?e2 ?e3 ..
      (case e1 => PySem.W.k_is)                    -- in the order: a name -> its address -> its object -> its parts
      (case e2 => PySem.W.k_is)
      ..
    obtain ⟨t, T⟩ := T
    have e0 := hmg.symm.trans (PySem.W.mg_of KX G T.law)
    cases e0                                       -- fa is the law's own address
    exact ⟨_, fun s u => .of_eq rfl, fun base kb nb => My.law_fn T kb nb⟩     -- if «.of_eq rfl» comes too early: refine' ⟨_, ?b, fun base kb nb => My.law_fn T kb nb⟩; exact fun s u => .of_eq rfl
  case S => exact fun w H a ns hl hO hS => ..
  case C => exact ..
(the tactic k_is has no namespace: write k_is) -/

/-! SHORT WORDS over the layer: a def of the text, its body, what a loop and a test want. -/
namespace L2
open PySem PySem.Spec PyProof.Rows

/-! ### the text by places -/
/-- the j-th statement of a class's body -/
def inClass (s : Stmt) (j : Nat) : Stmt := match s with
  | .ClassDef _ _ _ body _ _ _ _ _ _ _ => body.getD j (.Pass ⟨0, 0, 0, 0⟩)
  | _ => .Pass ⟨0, 0, 0, 0⟩
def defArgs (s : Stmt) : Arguments := match s with
  | .FunctionDef _ a _ _ _ _ _ _ _ _ => a
  | _ => { posonlyargs := [], args := [], vararg := none, kwonlyargs := [], kw_defaults := [], kwarg := none, defaults := [] }
def defBody (s : Stmt) : List Stmt := match s with
  | .FunctionDef _ _ b _ _ _ _ _ _ _ => b
  | _ => []
def defScope (s : Stmt) : Scope := match s with
  | .FunctionDef _ _ _ _ _ _ sc _ _ _ => sc
  | _ => { kind := .function, names := [], isGenerator := false, isCoroutine := false }

/-! ### no exception leaves a def -/
abbrev CX0 : CXT := fun _ _ _ _ _ _ => False
abbrev E0 : XK := fun _ _ _ => False
theorem pass0 {X : Cx} : Passes CX0 X E0 := fun _ _ _ _ _ _ _ h => h.elim

/-! ### a def (or method) of the text as it stands behind the top -/
structure Fun (K : PySem.W.Frag) (x qual : Str) (st : Stmt) (f : Addr) (fd : FuncData) : Prop where
  ex : ∃ (oc : Value) (od : Option Addr) (kV doc pm : Value) (an : Option Addr) (cdv ct : Value) (osl : Array (Option Value)),
    fd = PySem.W.fnOf x qual (defArgs st) (defBody st) (defScope st) .none kV doc pm an cdv ct ∧ K.lookup f = some ⟨oc, od, .func fd, osl⟩ ∧ PySem.W.codeIn K cdv qual = true
  kp : PySem.W.keepIn K (.ref f) = true
section
variable {P : Program} {w : World} {K : PySem.W.Frag} {mg : Str → Option Value} {base : Heap}
/-- THE RULE for a def: its body as a term of rules, and the reading of that term -/
theorem Fun.ok {x qual : Str} {st : Stmt} {f : Addr} {fd : FuncData} {N ps : List Str} {k : Nat} {sp : Sp} (F : Fun K x qual st f fd) (S : FnScope N ps (defScope st)) (len : ∀ vs H Q E, sp vs H Q E → vs.length = ps.length)
    (hbody : ∀ (cdv : Value) (A : Around) (outer : List Env) (s : Shared) (H : Hp) (vs : List V) (Q : VK) (E : XK), Room k (A.deeper (envOfC qual (defScope st) s.heap.objs.size f cdv)) → sp vs H Q E →
      ∃ t, PSs (cxOf CX0 P w K mg base N qual (defScope st) f cdv A outer s H E).nox (defBody st) t ∧ t { nx := fun _ H' => Q .non H', rt := Q } (start N vs) H) : FnOk P w K mg base CX0 (k + 1) f fd ps sp := by
  obtain ⟨oc, od, kV, doc, pm, an, cdv, ct, osl, rfl, lk, hcd⟩ := F.ex
  refine fn_of lk hcd S len fun A outer s H vs Q E hr hsp => ?_
  obtain ⟨t, h, q⟩ := hbody cdv A outer s H vs Q E hr hsp
  exact ⟨t, h.nox, q⟩
/-- how its arguments bind (no defaults): h is «fun _ _ _ _ _ _ us hl => match us, hl with | [_, _], _ => rfl», one _ a parameter -/
theorem Fun.binds {x qual : Str} {st : Stmt} {f : Addr} {fd : FuncData} {ps : List Str} (F : Fun K x qual st f fd)
    (h : ∀ (kV doc pm : Value) (an : Option Addr) (cdv ct : Value) (us : List Value), us.length = ps.length → bindArgs (PySem.W.fnOf x qual (defArgs st) (defBody st) (defScope st) .none kV doc pm an cdv ct) ⟨us, []⟩ = pure (ps.zip us)) : Binds K fd ps [] := by
  obtain ⟨oc, od, kV, doc, pm, an, cdv, ct, osl, rfl, lk, hcd⟩ := F.ex
  exact .all (h kV doc pm an cdv ct)
theorem fun_mk {x qual : Str} {st : Stmt} {f : Addr} {oc : Value} {od an : Option Addr} {osl : Array (Option Value)} {kV doc pm cdv ct : Value} (l : K.lookup f = some ⟨oc, od, .func (PySem.W.fnOf x qual (defArgs st) (defBody st) (defScope st) .none kV doc pm an cdv ct), osl⟩)
    (c : PySem.W.codeIn K cdv qual = true) (k : PySem.W.keepIn K (.ref f) = true) : Fun K x qual st f (PySem.W.fnOf x qual (defArgs st) (defBody st) (defScope st) .none kV doc pm an cdv ct) := ⟨⟨oc, od, kV, doc, pm, an, cdv, ct, osl, rfl, l, c⟩, k⟩
end
theorem hu_of {A : Around} {k : Nat} (hr : Room k A) : A.units + 1 < cLine := Nat.lt_of_le_of_lt (Nat.add_le_add_left (by decide : 1 ≤ 64) _) hr.units
/-! ### expressions in short: the name that stands in the i-th slot -/
section
variable {X : Cx}
theorem pv (i : Nat) {x : Str} {pos : Pos} (hN : X.N[i]? = some x := by rfl) (hv : Vis X.env.scope x := by first | exact Or.inl rfl | exact Or.inr (Or.inl rfl) | exact Or.inr (Or.inr rfl)) (hd : (x == ("__debug__" : Str)) = false := by decide)
    (hcd : (x == ("__classdict__" : Str)) = false := by decide) : PE X (.Name x pos) (tVar i) := pe_var hN hv hd hcd
end

/-! ### tests -/
theorem iteF {A B : Prop} (h : B) : if false = true then A else B := by
  rw [if_neg Bool.false_ne_true]
  exact h
theorem iteT {A B : Prop} (h : A) : if true = true then A else B := by
  rw [if_pos rfl]
  exact h
theorem ite2 {c A B : Prop} [Decidable c] (h1 : c → A) (h2 : ¬ c → B) : if c then A else B := by
  by_cases h : c
  · rw [if_pos h]
    exact h1 h
  · rw [if_neg h]
    exact h2 h
/-! ### heaps -/
/-- all that was tracked is as it was -/
def Same (H H' : Hp) : Prop := ∀ b o, H b = some o → H' b = some o
theorem Same.refl (H : Hp) : Same H H := fun _ _ h => h
theorem Same.trans {H H1 H2 : Hp} (a : Same H H1) (b : Same H1 H2) : Same H H2 := fun c o h => b c o (a c o h)
theorem Same.free {H H' : Hp} (e : Same H H') {l : Addr} (h : H' l = Option.none) : H l = Option.none := by
  cases q : H l with
  | none => rfl
  | some o =>
    rw [e l o q] at h
    cases h
theorem Same.seq {K : PySem.W.Frag} {H H' : Hp} {a : Addr} {xs : List V} (e : Same H H') (h : SqL K H a xs) : SqL K H' a xs := by
  rcases h with (h | ⟨o, h⟩) | h
  · exact .inl (.inl (e _ _ h))
  · exact .inl (.inr ⟨o, e _ _ h⟩)
  · exact .inr h

/-! ### a dict's pairs: keys that differ -/
section
variable {κ : Type} [DecidableEq κ]
end
/-! ### lists -/
/-- a new instance and its __init__ leave all that was tracked as it was -/
theorem Same.made {H H1 : Hp} {x dx C : Addr} (nx : H x = Option.none) (nd : H dx = Option.none) (k : ∀ b o, (upd (upd H dx (.own x)) x (.ins C dx [])) b = some o → b ≠ x → H1 b = some o) : Same H H1 := fun b o e =>
  k b o (by rw [upd_ne (ne_of_none e nx), upd_ne (ne_of_none e nd)]; exact e) (ne_of_none e nx)
end L2


set_option maxHeartbeats 4000000
namespace R1
open PySem PySem.Spec PyProof.Rows L2

/-! ### tests of type -/
section
variable {X : Cx}
def rInst (K : PySem.W.Frag) : List V → Hp → VK → Prop := fun vs H Q => ∃ (x : V) (c : String) (t : Value) (b : Bool), vs = [x, V.ty c] ∧ TyOf K H x t ∧ PySem.W.kitOne K t (.type c) = some b ∧ Q (.bl b) H
theorem cr_inst : CallR X (.builtin "isinstance") (rInst X.K) := by
  intro pins s σ H xs us Q I r h
  obtain ⟨x, c, t, b, rfl, ty, e, q⟩ := h
  obtain ⟨u, w', rfl, rx, ry⟩ := vals2 r
  cases (show w' = Value.type c from ry)
  exact isinst_ok I rx ty e fun tk => ⟨.bl b, H, I.tok tk, rfl, q⟩
end

/-! ### one tuple behind another, whatever is empty -/
section
variable {X : Cx}
def rCatA (K : PySem.W.Frag) : R2 := fun x y H Q => ∃ a b xs ys, x = .ref a ∧ y = .ref b ∧ SqT K H a xs ∧ SqT K H b ys ∧ xs.length + ys.length ≤ sizeLine ∧
  (xs = [] → Q (.ref b) H) ∧ (xs ≠ [] → ys = [] → Q (.ref a) H) ∧ (xs ≠ [] → ys ≠ [] → ∀ p, H p = none → Q (.ref p) (upd H p (.tup (xs ++ ys))))
theorem op_catA : OpR X (binaryOp .Add) (rCatA X.K) := by
  intro pins s σ H x y v u Q I rx ry h
  obtain ⟨a, b, xs, ys, rfl, rfl, ha, hb, hz, q0, q1, q2⟩ := h
  by_cases hx : xs = []
  · cases rx
    cases ry
    obtain ⟨its, r1, p1, _⟩ := I.tuple ha
    obtain ⟨its2, r2, p2, _⟩ := I.tuple hb
    obtain ⟨⟨cls, dd, data, sl⟩, ho, hc, n, hd⟩ := id p1
    obtain ⟨⟨cls2, dd2, data2, sl2⟩, ho2, hc2, n2, hd2⟩ := id p2
    simp only at hc hd hc2 hd2
    subst hc hd hc2 hd2
    have he : its = [] := r1.nil_iff.mpr hx
    exact concat_meets ⟨_, ho, rfl⟩ ⟨_, ho2, rfl⟩ noFill_tuple_add seq_tuple_add PySem.F.slot_tuple_add PySem.F.entry_tuple_add (PySem.F.args_tuple_add_2 _ _)
      (tuple_addW0 a b its.toArray its2.toArray n n2 dd dd2 sl sl2 (by simp [he])) ⟨ho, ho2, ⟨.ref b, H, I, rfl, q0 hx⟩⟩
  · exact op_catT pins s σ H _ _ v u Q I rx ry ⟨a, b, xs, ys, rfl, rfl, ha, hb, hx, hz, q1 hx, q2 hx⟩
end
end R1

namespace R2
open PySem PySem.Spec PyProof.Rows L2
/-! ### reversed of a tuple -/
theorem ow : Manifest.owners.lookup (String.ofList ['d', 'e', 's', 'r', 'e', 'v', 'e', 'r'].reverse) = some Manifest.sig_reversed := by kernel_rfl
theorem sNext : Slot "reversed" "__next__" "reversed.__next__" :=
  .of (owner := "reversed") (n := "__next__") (by rw [typeLookup_type, builtinLookup_eq_fast]; kernel_rfl) (by decide +kernel) (by decide +kernel) (by decide +kernel)
    (by first | exact .inl (by decide +kernel) | exact .inr (by decide +kernel)) (by rw [isSubtype_type]; kernel_rfl)
theorem eNext : entryFor table "reversed.__next__" = some Builtin.«reversed.__next__» := entryFor_of_tree (by kernel_rfl)
theorem aNext (a : Value) : argsOk "reversed.__next__" ⟨[a], []⟩ := by
  unfold argsOk; rw [signature?_of (id := "reversed.__next__") (n := ['_', '_', 't', 'x', 'e', 'n', '_', '_']) (o := ['d', 'e', 's', 'r', 'e', 'v', 'e', 'r']) (by kernel_rfl) ow]; kernel_rfl
theorem sIter : Slot "reversed" "__iter__" "reversed.__iter__" :=
  .of (owner := "reversed") (n := "__iter__") (by rw [typeLookup_type, builtinLookup_eq_fast]; kernel_rfl) (by decide +kernel) (by decide +kernel) (by decide +kernel)
    (by first | exact .inl (by decide +kernel) | exact .inr (by decide +kernel)) (by rw [isSubtype_type]; kernel_rfl)
theorem aIter (a : Value) : argsOk "reversed.__iter__" ⟨[a], []⟩ := by
  unfold argsOk; rw [signature?_of (id := "reversed.__iter__") (n := ['_', '_', 'r', 'e', 't', 'i', '_', '_']) (o := ['d', 'e', 's', 'r', 'e', 'v', 'e', 'r']) (by kernel_rfl) ow]; kernel_rfl
theorem eIter : entryFor table "reversed.__iter__" = some Builtin.«dict_keyiterator.__iter__» :=
  entryFor_alias (id' := "dict_keyiterator.__iter__") (by kernel_rfl) (by first | rfl | decide +kernel | (unfold String.splitOn; simp +decide [String.splitOnAux])) (by decide +kernel) (by kernel_rfl)
theorem sInit : Slot "reversed" "__init__" "object.__init__" :=
  .of (owner := "object") (n := "__init__") (by rw [typeLookup_type, builtinLookup_eq_fast]; kernel_rfl) (by decide +kernel) (by decide +kernel) (by decide +kernel)
    (by first | exact .inl (by decide +kernel) | exact .inr (by decide +kernel)) (by rw [isSubtype_type]; kernel_rfl)
theorem called : TypeCalled "reversed" "reversed.__new__" "object.__init__" :=
  ⟨by decide +kernel, by decide +kernel, ⟨_, _, F.mro_reversed⟩, F.made_reversed, by decide +kernel, by rw [isSubtype_type]; kernel_rfl, sInit⟩
theorem noRev : typeLookup (.type "tuple") "__reversed__" = pure none := by rw [typeLookup_type, builtinLookup_eq_fast]; kernel_rfl
theorem noDict : isSubtype (.type "tuple") (.type "dict") = pure false := by rw [isSubtype_type]; kernel_rfl
def rObj (l : Addr) (i : Int) : Obj := { cls := .type "reversed", data := .fields #[.ref l, rawInt i] }
def IsR (h : Heap) (a l : Addr) (i : Int) : Prop := ∃ o, h.get? a = some o ∧ o.cls = .type "reversed" ∧ o.data = .fields #[.ref l, rawInt i]
theorem IsR.typeIs {s : Shared} {a l : Addr} {i : Int} (x : IsR s.heap a l i) : s.TypeIs (.ref a) "reversed" := let ⟨o, ho, hc, _⟩ := x; ⟨o, ho, hc⟩
theorem IsR.at {h h' : Heap} {a l : Addr} {i : Int} (x : IsR h a l i) (e : ∀ o, h.get? a = some o → h'.get? a = some o) : IsR h' a l i := let ⟨o, ho, r⟩ := x; ⟨o, e _ ho, r⟩
theorem meets_new (l : Addr) (items : Array Value) (hfit : (items.size : Int) < 2 ^ 63) :
    Meets (Builtin.«reversed.__new__» ⟨[.type "reversed", .ref l], []⟩) (fun _ R s => IsTup s.heap l items ∧ ∀ tk, R (.ok (.ret (.ref s.heap.objs.size))) { s with heap := s.heap.push (rObj l ((items.size : Int) - 1)), toks := tk }) :=
  .of_wp fun prog w A R s h => by
    obtain ⟨ht, h⟩ := h
    unfold Builtin.«reversed.__new__»
    refine wpAny_bind (wpAny_of_eq (newClass_reversed _) ?_)
    try dsimp only
    refine wpAny_bind (wpAny_of_eq (a := ()) (by first | rfl | kernel_rfl) ?_)
    refine wpAny_bind (wpAny_of_eq (a := ()) (by first | rfl | kernel_rfl) ?_)
    try dsimp only
    refine wpAny_bind (wpAny_specialOf ht.typeIs noRev ?_)
    try dsimp only
    refine wpAny_bind ?_
    show wpAny _ _ (isInstance (.ref l) (.type "dict") >>= _) _ _ s
    refine wpAny_bind (wpAny_isInstance ht.typeIs noDict ?_)
    show wpAny _ _ (specialOf (.ref l) "__getitem__" >>= _) _ _ s
    refine wpAny_bind (wpAny_specialOf ht.typeIs PyProof.Rows.slot_tuple_getitem.lookup ?_)
    refine wpAny_of_eq (a := true) (by first | rfl | kernel_rfl) ?_
    show wpAny _ _ (call (Value.builtin "len") [Value.ref l] >>= _) _ _ s
    refine wpAny_bind (len_tuple ht hfit ?_)
    show wpAny _ _ (Builtin.SmallTypes.newRecord (Value.type "reversed") [Value.ref l, rawInt ((items.size : Int) - 1)] >>= _) _ _ _
    refine wpAny_bind ?_
    show wpAny _ _ (newObj (Value.type "reversed") (.fields #[Value.ref l, rawInt ((items.size : Int) - 1)])) _ _ _
    refine wpAny_newObj_type ?_ (by size_fits)
    exact wpAny_pure ⟨_, rfl, h _⟩
section
variable {prog : Program} {w : World} {A : Around} {E : Value → Shared → Prop} {s : Shared}
theorem call_rev {l : Addr} {items : Array Value} {Q : Value → Shared → Prop} (ht : IsTup s.heap l items) (hfit : (items.size : Int) < 2 ^ 63)
    (h : ∀ tk, Q (.ref s.heap.objs.size) { s with heap := s.heap.push (rObj l ((items.size : Int) - 1)), toks := tk }) : wpAny (model prog w) A (call (.type "reversed") [.ref l]) Q E s := by
  refine callType_new called (by decide) (F.typeCall_reversed_1 _) (F.newCall_reversed_1 _) (fun obj => F.args_object_init_2 obj _) F.entry_reversed_new (meets_new l items hfit) ⟨ht, fun tk => ?_⟩
  show _ ∧ _
  exact ⟨⟨_, Heap.get?_push_size _ rfl, rfl⟩, h tk⟩
theorem next_item {it l : Addr} {i : Nat} {items : Array Value} {x : Value} {Q : Option Value → Shared → Prop} (hit : IsR s.heap it l (i : Int)) (ht : IsTup s.heap l items) (hne : l ≠ it) (hfit : (items.size : Int) < 2 ^ 63) (hx : items[i]? = some x)
    (hQ : ∀ h' tk, IsR h' it l ((i : Int) - 1) → Heap.SameBut it s.heap h' → Q (some x) { s with heap := h', toks := tk }) : wpAny (model prog w) A (pyNext (.ref it)) Q E s := by
  obtain ⟨o, ho, hc, hd⟩ := id hit
  have hi : i < items.size := by
    rcases Nat.lt_or_ge i items.size with z | z
    · exact z
    · rw [Array.getElem?_eq_none z] at hx; cases hx
  unfold pyNext
  refine wpAny_bind (wpAny_attempt (wpAny_callSpecial?_slot (name := Str.ofString "__next__") hit.typeIs sNext (wpAny_call_entry sNext hit.typeIs eNext ?_ (aNext _))))
  unfold Builtin.«reversed.__next__»
  refine wpAny_bind (wpAny_of_eq (a := (Value.ref it, [])) rfl ?_)
  try dsimp only
  refine wpAny_bind (wpAny_field ho hd (x := .ref l) rfl ?_)
  refine wpAny_bind (wpAny_field ho hd (x := rawInt (i : Int)) rfl ?_)
  show wpAny _ _ (if (i : Int) < 0 then _ else _) _ _ s
  rw [if_neg (by omega)]
  refine wpAny_bind (wpAny_specialOf ht.typeIs PyProof.Rows.slot_tuple_getitem.lookup ?_)
  show wpAny _ _ (mkInt (i : Int) >>= _) _ _ s
  refine wpAny_bind (wpAny_mkInt ?_)
  refine wpAny_bind (wpAny_attempt ?_)
  refine getItem_tuple (s := { s with toks := s.toks + 1 }) ht (by omega) (by omega) (j := i) (by unfold seqIndex?; simp; omega) hx ?_
  show wpAny _ _ (field (.ref it) 1 >>= _) _ _ _
  refine wpAny_bind (wpAny_field (s := { s with toks := s.toks + 1 }) ho hd (x := rawInt (i : Int)) rfl ?_)
  show wpAny _ _ (setField (.ref it) 1 (rawInt ((i : Int) - 1)) >>= _) _ _ _
  refine wpAny_bind (wpAny_setField (s := { s with toks := s.toks + 1 }) ho hd (by simp) ?_)
  refine wpAny_pure ⟨x, rfl, wpAny_pure (hQ _ _ ?_ (Heap.SameBut.update ..))⟩
  exact ⟨_, Heap.get?_update_self _ ho (Obj.isFreed_of_fields (Obj.data_mapFields hd _)), (Obj.cls_mapFields ..).trans hc, by
    rw [Obj.data_mapFields hd]; simp⟩
theorem next_end {it l : Addr} {Q : Option Value → Shared → Prop} (hh : A.handled = none) (hit : IsR s.heap it l (-1))
    (hQ : ∀ h', Heap.ExtBut it s.heap h' → Q none { s with heap := h' }) : wpAny (model prog w) A (pyNext (.ref it)) Q E s := by
  obtain ⟨o, ho, hc, hd⟩ := id hit
  unfold pyNext
  refine wpAny_bind (wpAny_attempt (wpAny_callSpecial?_slot (name := Str.ofString "__next__") hit.typeIs sNext (wpAny_call_entry sNext hit.typeIs eNext ?_ (aNext _))))
  unfold Builtin.«reversed.__next__»
  refine wpAny_bind (wpAny_of_eq (a := (Value.ref it, [])) rfl ?_)
  try dsimp only
  refine wpAny_bind (wpAny_field ho hd (x := .ref l) rfl ?_)
  refine wpAny_bind (wpAny_field ho hd (x := rawInt (-1)) rfl ?_)
  show wpAny _ _ (if (-1 : Int) < 0 then _ else _) _ _ s
  rw [if_pos (by decide)]
  refine wpAny_bind (wpAny_rule ?_)
  refine wpAny_bind ?_
  show wpAny _ _ (setField (.ref it) 1 (rawInt (-1)) >>= _) _ _ s
  refine wpAny_bind (wpAny_setField ho hd (by simp) ?_)
  refine wpAny_setField (a := it) (Heap.get?_update_self _ ho (Obj.isFreed_of_fields (Obj.data_mapFields hd _))) (Obj.data_mapFields hd _) (by simp) ?_
  first
  | show wpAny _ _ (newExc (.type "StopIteration") [] >>= _) _ _ _
  | (refine wpAny_bind ?_; show wpAny _ _ (newExc (.type "StopIteration") [] >>= _) _ _ _)
  refine wpAny_bind ?_
  simp only [newExc, newTuple]
  refine wpAny_bind (wpAny_newObj_type ?_ (by size_fits))
  refine wpAny_bind (m := firstArgMember _ _) (wpAny_of_eq (a := Value.none) (by first | rfl | (simp only [firstArgMember]; rfl)) ?_)
  refine wpAny_newObj_type ?_ (by size_fits)
  simp only [raiseNew]
  refine wpAny_bind (wpAny_handled ?_)
  first | rw [show A.in1.handled = none from hh] | rw [hh]
  refine wpAny_bind (wpAny_pure (wpAny_throw ?_))
  refine wpAny_bind (wpAny_isInstance (T := "StopIteration") (b := true) ⟨_, Heap.get?_push_size _ rfl, rfl⟩ isSubtype_stop ?_)
  refine wpAny_pure (hQ _ ?_)
  refine Heap.ExtBut.push (Heap.ExtBut.push ?_ _) _
  intro b o' hb e
  exact ((Heap.SameBut.update ..).2 b hb).trans (((Heap.SameBut.update ..).2 b hb).trans e)
theorem iter_rev {it l : Addr} {i : Int} {Q : Value → Shared → Prop} (hit : IsR s.heap it l i) (h : Q (.ref it) s) : wpAny (model prog w) A (pyIter (.ref it)) Q E s := by
  refine wpAny_pyIter_slot hit.typeIs sIter (wpAny_call_entry sIter hit.typeIs eIter ?_ (aIter _))
  show wpAny _ _ (ret (.ref it)) _ _ s
  exact wpAny_pure ⟨_, rfl, "reversed", _, hit.typeIs, sNext.lookup, h⟩
end
/-- the tuple at a (n items), from its end -/
def Itw (K : PySem.W.Frag) (a : Addr) (n : Nat) : It :=
  ⟨fun i H => i < n ∧ ∃ (xs : List V) (x : V), SqT K H a xs ∧ xs[n - 1 - i]? = some x, fun i H x H' => H' = H ∧ ∀ xs, SqT K H a xs → xs[n - 1 - i]? = some x, fun i _ => n ≤ i⟩
theorem turn_revT {P : Program} {w : World} {K : PySem.W.Frag} {tg : Expr} (a it : Addr) (n : Nat) : Turn P w K tg (Itw K a n) [it] it (fun i h => i ≤ n ∧ IsR h it a ((n : Int) - 1 - (i : Nat)) ∧ a ≠ it) where
  mem := by simp
  obj := fun i h st b hb => by
    have e : b = it := by simpa using hb
    subst e
    obtain ⟨_, ⟨o, e, c, d⟩, _⟩ := st
    exact ⟨o, e, fun v z => by rw [d] at z; cases z⟩
  keep := fun i h h' st k => ⟨st.1, st.2.1.at fun o e => k it (by simp) o e, st.2.2⟩
  item := by
    intro X hP hw hK hc i pins s σ H E I hf st hg
    subst hP hw hK
    obtain ⟨hin, xs, x, hq, hx⟩ := hg
    obtain ⟨its, rv, p, hz⟩ := I.tuple hq
    obtain ⟨u, hu, ru⟩ := rv.get hx
    obtain ⟨f0, f1, f2, f3, f4, f5⟩ := hf it (by simp)
    obtain ⟨_, hit, hne⟩ := st
    have e1 : (n : Int) - 1 - ((i : Nat) : Int) = ((n - 1 - i : Nat) : Int) := by omega
    rw [e1] at hit
    have hfit : ((its.toArray.size : Nat) : Int) < 2 ^ 63 := by
      have hl := rv.length
      have := line63
      simp only [List.size_toArray]
      omega
    refine next_item hit p hne hfit (x := u) (by simpa using hu) fun h' tk st' sb => ?_
    have e2 : ((n - 1 - i : Nat) : Int) - 1 = (n : Int) - 1 - ((i + 1 : Nat) : Int) := by omega
    rw [e2] at st'
    have I1 : Inv X pins σ H { s with heap := h', toks := tk } := I.turned (t' := tk) (fun b o hb e => (sb.2 b hb).trans e) f0 f1 f3 f4 f5
    obtain ⟨o, e, c, d⟩ := id st'
    exact ⟨u, rfl, go_of (s := { s with heap := h', toks := tk }) e c d (by decide) ⟨x, H, I1, ru, ⟨rfl, fun ys hy => by rw [I.tuple_inj hy hq]; exact hx⟩, ⟨hin, st', hne⟩, fun b hb => (hf b hb).1⟩⟩
  done := by
    intro X hP hw hK hc i pins s σ H E I hf st hg
    subst hP hw hK
    obtain ⟨f0, f1, f2, f3, f4, f5⟩ := hf it (by simp)
    obtain ⟨hin, hit, hne⟩ := st
    have hge : n ≤ i := hg
    have e1 : (n : Int) - 1 - ((i : Nat) : Int) = -1 := by omega
    rw [e1] at hit
    exact next_end (I.ok.hd hc) hit fun h' eb => ⟨rfl, I.turned (t' := s.toks) (fun b o hb e => eb b o hb e) f0 f1 f3 f4 f5⟩
  self := fun A i s Q E st h => iter_rev st.2.1 h
def iRevT (K : PySem.W.Frag) (ta : TA) : TI := fun σ H R => ta σ H fun vs H1 => ∃ (a : Addr) (xs : List V), vs = [.ref a] ∧ SqT K H1 a xs ∧ R (Itw K a xs.length) H1
theorem bootR : bootBuiltins "reversed" = some (.type "reversed") := by decide +kernel
section
variable {X : Cx} {tg : Expr}
theorem pi_revT {e : Expr} {ta : TA} {p pos : Pos} (hg : Gl X "reversed") (hm : X.mg "reversed" = none) (ha : PA X [e] ta) (hs : starEach [e] X.env = [(false, eval e X.env)] := by rfl) : PI X tg (.Call (.Name "reversed" p) [e] [] pos) (iRevT X.K ta) := by
  intro pins s σ H R I h
  refine Call_ (ld_blt I hg hm bootR (PyProof.Rows.callWith_type1 (thn (ha pos pins s σ H _ I h) fun us s1 ⟨vs, H1, I1, r1, q1⟩ => ?_) hs rfl))
  obtain ⟨a, xs, e, hq, q⟩ := q1
  subst e
  cases r1 with
  | cons r rr =>
    cases rr
    cases r
    obtain ⟨its, rv, p', hz⟩ := I1.tuple hq
    have hl := rv.length
    have hfit : ((its.toArray.size : Nat) : Int) < 2 ^ 63 := by
      have := line63
      simp only [List.size_toArray]
      omega
    have hlt : a < s1.heap.objs.size := by obtain ⟨o, ho, _⟩ := p'; exact Heap.lt_size ho
    have e1 : ((its.toArray.size : Nat) : Int) - 1 = (xs.length : Int) - 1 - ((0 : Nat) : Int) := by simp only [List.size_toArray]; omega
    refine call_rev p' hfit fun tk => iter_rev (l := a) (i := ((its.toArray.size : Nat) : Int) - 1) ⟨_, Heap.get?_push_size _ rfl, rfl, rfl⟩ ?_
    refine pi_one (tk := tk) I1 _ (turn_revT a _ xs.length) ⟨Nat.zero_le _, ?_, Nat.ne_of_lt hlt⟩ q
    rw [← e1]
    exact ⟨_, Heap.get?_push_size _ rfl, rfl, rfl⟩
/-- either way to walk -/
theorem PI.or {iter : Expr} {wi wi' : TI} (h : PI X tg iter wi) (h' : PI X tg iter wi') : PI X tg iter (fun σ H R => wi σ H R ∨ wi' σ H R) := by
  intro pins s σ H R I q
  rcases q with q | q
  · exact h pins s σ H R I q
  · exact h' pins s σ H R I q
end
end R2

namespace R3
open PySem PySem.Spec PyProof.Rows L2
section
variable {X : Cx} {pos : Pos}
/-! ### a, b, c = x, y, z with plain local names -/
def tPar3 (i j k : Nat) (ta : TA) : TS := fun D σ H => ta σ H fun vs H1 => ∃ v w z, vs = [v, w, z] ∧ D.nx (((σ.set i (some v)).set j (some w)).set k (some z)) H1
theorem ps_par3 {i j k : Nat} {x y z : Str} {a b c : Expr} {ta : TA} {px py pz pt : Pos} {kt k2 pt2} (hc : X.calm = true) (hN : X.N.Nodup) (hi : X.N[i]? = some x) (hj : X.N[j]? = some y) (hk : X.N[k]? = some z) (hij : i ≠ j) (hik : i ≠ k) (hjk : j ≠ k)
    (hx : X.env.scope.names.lookup x = some .local) (hy : X.env.scope.names.lookup y = some .local) (hz : X.env.scope.names.lookup z = some .local) (ha : PA X [a, b, c] ta)
    (hw : swappedStores [.Tuple [.Name x px, .Name y py, .Name z pz] kt pt] (.Tuple [a, b, c] k2 pt2) X.env = pure (some [x, y, z]))
    (hs : swapsWithSole [.Tuple [.Name x px, .Name y py, .Name z pz] kt pt] (.Tuple [a, b, c] k2 pt2) pos.line X.env = pure false := by rfl) :
    PS X (.Assign [.Tuple [.Name x px, .Name y py, .Name z pz] kt pt] (.Tuple [a, b, c] k2 pt2) pos) (tPar3 i j k ta) := by
  intro pins s σ H D I h
  rw [exec_Assign_arm]
  refine wpAny_bind (wpAny_standAt ?_)
  rw [hs]
  refine wpAny_bind (wpAny_pure ?_)
  rw [if_neg (by decide)]
  refine wpAny_bind (Tuple_ (thn (ha _ pins s σ H _ I h) fun us s1 ⟨vs, H1, I1, r1, q1⟩ => ?_))
  obtain ⟨v, w, v3, e1, q1⟩ := q1
  subst e1
  obtain ⟨u1, u2, u3, rfl, rv, rw', rz⟩ : ∃ u1 u2 u3, us = [u1, u2, u3] ∧ RelV v u1 ∧ RelV w u2 ∧ RelV v3 u3 := by
    cases r1 with
    | cons p q =>
      cases q with
      | cons p' q' =>
        cases q' with
        | cons p'' q'' =>
          cases q''
          exact ⟨_, _, _, rfl, p, p', p''⟩
  refine wpAny_newObj_type ?_ (by show 3 ≤ sizeLine; decide)
  have I2 : Inv X pins σ H1 { s1 with heap := s1.heap.push { cls := .type "tuple", data := .seq [u1, u2, u3].toArray } } := I1.kept (t' := s1.toks) fun b o e => Heap.get?_push_of_some _ e
  rw [hw]
  refine wpAny_bind (wpAny_pure ?_)
  show wpAny (model X.prog X.w) X.A (do rule "assign.swapped-stores"; let items ← unpackItems (.ref s1.heap.objs.size) 3 none; assignInOrder [fun v => bindName X.env z v, fun v => bindName X.env y v, fun v => bindName X.env x v] items.reverse; pure Flow.next) _ _ _
  refine wpAny_bind (wpAny_rule (wpAny_bind (unpackItems_tuple (items := #[u1, u2, u3]) (I.ok.hd hc) (IsTup.new s1.heap _) fun h' hx' => ?_)))
  have I3 := I2.kept (h' := h') (t' := s1.toks) fun b o e => hx' b o (Nat.ne_of_lt (Heap.lt_size e)) e
  show wpAny _ _ (assignInOrder [fun v => bindName X.env z v, fun v => bindName X.env y v, fun v => bindName X.env x v] [u3, u2, u1] >>= fun _ => pure Flow.next) _ _ _
  refine wpAny_bind (assignInOrder_cons (wpAny_bindName (store_ok I3 hN hk (.inl hz) rz (fun s2 I4 => ?_) (.inr hz))))
  refine assignInOrder_cons (wpAny_bindName (store_ok I4 hN hj (.inl hy) rw' (fun s3 I5 => ?_) (.inr hy)))
  refine assignInOrder_cons (wpAny_bindName (store_ok I5 hN hi (.inl hx) rv (fun s4 I6 => assignInOrder_nil (wpAny_pure ?_)) (.inr hx)))
  have e : (((σ.set k (some v3)).set j (some w)).set i (some v)) = (((σ.set i (some v)).set j (some w)).set k (some v3)) := by
    rw [List.set_comm _ _ (Ne.symm hjk), List.set_comm _ _ (Ne.symm hik), List.set_comm _ _ (Ne.symm hij)]
  rw [e] at I6
  exact ⟨_, H1, I6, q1⟩

/-! ### t[a:b], the whole too (which is the same tuple) -/
theorem getItem_whole {prog : Program} {w : World} {A : Around} {E : Value → Shared → Prop} {s : Shared} {t sl : Addr} {items : Array Value} {vl vu : Value} {lo hi : Option Int} {Q : Value → Shared → Prop} (ht : IsTup s.heap t items) (hs : s.heap.IsSliceOf sl vl vu .none) (pl : IsPart vl lo) (pu : IsPart vu hi)
    (hw : HT.sIx items.size 0 lo = 0 ∧ HT.sIx items.size items.size hi = items.size) (h : Q (.ref t) s) : wpAny (model prog w) A (getItem (.ref t) (.ref sl)) Q E s := by
  obtain ⟨os, hos, hcs, hds⟩ := id hs
  have hTs : s.TypeIs (.ref sl) "slice" := ⟨os, hos, hcs⟩
  unfold getItem
  try with_reducible refine wpAny_holding ?_
  first | refine wpAny_bind (wpAny_pure ?_) | skip
  refine wpAny_bind (wpAny_sequenceKey ht.typeIs (by decide) ?_)
  refine wpAny_bind (wpAny_callSpecial?_slot (name := Str.ofString "__getitem__") ht.typeIs PyProof.Rows.slot_tuple_getitem
    (wpAny_call_entry PyProof.Rows.slot_tuple_getitem ht.typeIs entry_tuple_getitem ?_ (args_tuple_getitem _ _)))
  show wpAny _ _ (Builtin.Tuple.tupleItemsOf (.ref t) >>= _) _ _ s
  refine wpAny_bind (tupleItemsOf_ ht ?_)
  refine wpAny_bind (wpAny_typeOf hTs ?_)
  rw [if_pos (by decide)]
  refine wpAny_bind (HT.sliceApplied_gen hs pl pu ?_)
  show wpAny _ _ (if (((HT.sIx items.size 0 lo : Nat) : Int) == 0 && (1 : Int) == 1 && (HT.sIx items.size items.size hi - HT.sIx items.size 0 lo) == items.size) = true then _ else _) _ _ s
  rw [if_pos (by rw [hw.1, hw.2]; simp)]
  refine wpAny_bind ?_
  show wpAny _ _ (typeOf (.ref t) >>= _) _ _ s
  refine wpAny_bind (wpAny_typeOf ht.typeIs ?_)
  refine wpAny_pure ?_
  show wpAny _ _ (if ((Value.type "tuple" == Value.type "tuple") = true) then _ else _) _ _ s
  rw [if_pos (by decide)]
  refine wpAny_bind (wpAny_rule ?_)
  first
    | exact wpAny_pure ⟨_, rfl, wpAny_pure h⟩
    | exact wpAny_bind (wpAny_pure (wpAny_pure ⟨_, rfl, wpAny_pure h⟩))
def rSlA (K : PySem.W.Frag) : V → Option Int → Option Int → Hp → VK → Prop := fun x lo hi H Q => ∃ a xs, x = .ref a ∧ SqT K H a xs ∧
  ((HT.sIx xs.length 0 lo = 0 ∧ HT.sIx xs.length xs.length hi = xs.length) → Q (.ref a) H) ∧
  (¬ (HT.sIx xs.length 0 lo = 0 ∧ HT.sIx xs.length xs.length hi = xs.length) → ∀ p, H p = none → Q (.ref p) (upd H p (.tup (cutV xs lo hi))))
theorem sl_tupA : SlR X (rSlA X.K) := by
  intro pins s σ H x v vl vu lo hi sl Q I rx hs pl pu h
  obtain ⟨a, xs, rfl, hx, q0, q1⟩ := h
  by_cases hw : HT.sIx xs.length 0 lo = 0 ∧ HT.sIx xs.length xs.length hi = xs.length
  · cases rx
    obtain ⟨its, r, ht, hz⟩ := I.tuple hx
    have hlen : its.toArray.size = xs.length := by rw [List.size_toArray]; exact r.length.symm
    refine ⟨"tuple", _, PyProof.Rows.slot_tuple_getitem.lookup, ht.typeIs, ?_⟩
    refine getItem_whole ht hs pl pu (by rw [hlen]; exact hw) ?_
    exact ⟨.ref a, H, I, rfl, q0 hw⟩
  · exact sl_tup pins s σ H _ v vl vu lo hi sl Q I rx hs pl pu ⟨a, xs, rfl, hx, hw, q1 hw⟩
def rSlS (K : PySem.W.Frag) : V → Option Int → Option Int → Hp → VK → Prop := fun x lo hi H Q => rSlL K x lo hi H Q ∨ rSlA K x lo hi H Q
theorem sl_seq : SlR X (rSlS X.K) := sl_list.or sl_tupA

end
end R3

namespace R3
open PySem PySem.Spec PyProof.Rows L2
section
variable {X : Cx} {pos : Pos}
/-! ### t * n -/
theorem noFill_tm : fillsNumberSlot (.type "tuple") "mul" = pure false :=
  PySem.fillsNumberSlot_seq (id := "tuple.__mul__") (r := some (.builtin "tuple.__rmul__")) PySem.F.slot_tuple_mul.lookup (by decide +kernel) PySem.F.slot_tuple_rmul.lookup (by decide +kernel)
theorem rep_t : seqRepeat? (.type "tuple") = pure (some (.builtin "tuple.__mul__")) := by
  unfold seqRepeat?
  rw [PySem.seqSlot_of (T := "tuple") (name := "__mul__") (id := "tuple.__mul__") PySem.F.slot_tuple_mul.lookup (by decide +kernel), PySem.seqSlot_of (T := "tuple") (name := "__rmul__") (id := "tuple.__rmul__") PySem.F.slot_tuple_rmul.lookup (by decide +kernel)]
  rfl
theorem rmul_t (a : Int) (t : Tok) (l : Addr) (items : Array Value) (n : Nat) (dd : Option Addr) (sl : Array (Option Value)) :
    Meets (Builtin.«int.__rmul__» ⟨[.int a t, .ref l], []⟩) (fun _ R s => s.heap.get? l = some { cls := .type "tuple", dict := dd, data := .seq items n, slots := sl } ∧ R (.ok (.ret Value.notImplemented)) s) :=
  .of_wp fun prog w A R s h => by
    obtain ⟨hp, g, d, tk, os⟩ := s
    obtain ⟨hl, h⟩ := h
    wp_walk
    exact ⟨_, rfl, h⟩
theorem mul_same (x : Int) (u : Tok) (l : Addr) (items : Array Value) (n : Nat) (dd : Option Addr) (sl : Array (Option Value)) (h1 : -(2 ^ 63) ≤ x) (h2 : x < 2 ^ 63) (he : items.isEmpty = true ∨ x = 1) :
    Meets (Builtin.«tuple.__mul__» ⟨[.ref l, .int x u], []⟩) (fun _ R s => s.heap.get? l = some { cls := .type "tuple", dict := dd, data := .seq items n, slots := sl } ∧ R (.ok (.ret (.ref l))) s) :=
  .of_wp fun prog w A R s h => by
    obtain ⟨hp, g, d, tk, os⟩ := s
    obtain ⟨hl, h⟩ := h
    have f1 := AutoSeq1.idx_int
    have hf : (decide (x < -(2 ^ 63)) || decide (x ≥ 2 ^ 63)) = false := by
      rw [decide_eq_false (by omega), decide_eq_false (by omega)]; rfl
    have hc : (items.isEmpty || x == 1) = true := by
      rcases he with e | e
      · rw [e]; rfl
      · rw [e]; simp
    have ht : IsTup (Shared.mk hp g d tk os).heap l items := ⟨_, hl, rfl, n, rfl⟩
    wp_walk using wpAny_loadPart' hl
    rw [if_neg (by rw [hf]; exact Bool.false_ne_true)]
    show wpAny _ _ (Builtin.Tuple.tupleItemsOf (.ref l) >>= _) _ _ _
    refine wpAny_bind (tupleItemsOf_ ht ?_)
    rw [if_pos hc]
    refine wpAny_bind ?_
    show wpAny _ _ (typeOf (.ref l) >>= _) _ _ _
    refine wpAny_bind (wpAny_typeOf ht.typeIs (wpAny_pure ?_))
    show wpAny _ _ (rule "tuple.repeat.same-object" >>= _) _ _ _
    refine wpAny_bind (wpAny_rule ?_)
    exact wpAny_pure ⟨_, rfl, h⟩
theorem mul_new (x : Int) (u : Tok) (l : Addr) (items : Array Value) (n : Nat) (dd : Option Addr) (sl : Array (Option Value)) (h1 : -(2 ^ 63) ≤ x) (h2 : x < 2 ^ 63) (he : ¬ (items.isEmpty = true ∨ x = 1)) (hz : items.size * x.toNat ≤ sizeLine) :
    Meets (Builtin.«tuple.__mul__» ⟨[.ref l, .int x u], []⟩) (fun _ R s => s.heap.get? l = some { cls := .type "tuple", dict := dd, data := .seq items n, slots := sl } ∧
      R (.ok (.ret (.ref s.heap.objs.size))) { s with heap := s.heap.push { cls := .type "tuple", data := .seq (List.foldl (fun x1 x2 => x1 ++ x2) #[] (List.replicate x.toNat items)) } }) :=
  .of_wp fun prog w A R s h => by
    obtain ⟨hp, g, d, tk, os⟩ := s
    obtain ⟨hl, h⟩ := h
    have f1 := AutoSeq1.idx_int
    have hf : (decide (x < -(2 ^ 63)) || decide (x ≥ 2 ^ 63)) = false := by
      rw [decide_eq_false (by omega), decide_eq_false (by omega)]; rfl
    have hie : items.isEmpty = false := by
      cases e : items.isEmpty
      · rfl
      · exact absurd (.inl e) he
    have hx1 : x ≠ 1 := fun e => he (.inr e)
    have hc : (items.isEmpty || x == 1) = false := by
      rw [hie, Bool.false_or]; exact beq_eq_false_iff_ne.mpr hx1
    have ht : IsTup (Shared.mk hp g d tk os).heap l items := ⟨_, hl, rfl, n, rfl⟩
    have hfold : ∀ m : Nat, (List.foldl (fun x1 x2 => x1 ++ x2) #[] (List.replicate m items)).size = m * items.size := fun m => by
      have := foldl_rep items.toList m []
      rw [List.nil_append] at this
      rw [show items = items.toList.toArray from rfl]
      rw [show (#[] : Array Value) = ([] : List Value).toArray from rfl, this, List.size_toArray, len_rep, List.size_toArray]
    wp_walk using wpAny_loadPart' hl
    rw [if_neg (by rw [hf]; exact Bool.false_ne_true)]
    show wpAny _ _ (Builtin.Tuple.tupleItemsOf (.ref l) >>= _) _ _ _
    refine wpAny_bind (tupleItemsOf_ ht ?_)
    rw [if_neg (by rw [hc]; exact Bool.false_ne_true)]
    by_cases hx0 : x ≤ 0
    · rw [if_pos (by rw [decide_eq_true hx0]; rfl)]
      show wpAny _ _ (newObj (.type "tuple") (.seq #[]) >>= _) _ _ _
      refine wpAny_bind (wpAny_newObj_type ?_ (by size_fits))
      have e0 : x.toNat = 0 := by omega
      rw [e0] at h
      exact wpAny_pure ⟨_, rfl, h⟩
    · rw [if_neg (by rw [decide_eq_false hx0, hie]; exact Bool.false_ne_true)]
      have ex : ((x.toNat : Nat) : Int) = x := by omega
      have hzz : ((items.size : Nat) : Int) * x = ((items.size * x.toNat : Nat) : Int) := by rw [Int.natCast_mul, ex]
      have hl63 : (sizeLine : Nat) ≤ 2 ^ 24 := by rw [sizeLine_eq]; decide
      have e1 : ¬ (((items.size : Nat) : Int) * x > (2 ^ 63 - 1) / 8) := by
        rw [hzz]
        have : ((items.size * x.toNat : Nat) : Int) ≤ ((2 ^ 24 : Nat) : Int) := by exact_mod_cast Nat.le_trans hz hl63
        omega
      rw [if_neg e1]
      have e2 : Builtin.Tuple.tupleTooMany (((items.size : Nat) : Int) * x) = false := by
        unfold Builtin.Tuple.tupleTooMany
        rw [hzz]
        exact decide_eq_false (by have : ((items.size * x.toNat : Nat) : Int) ≤ ((sizeLine : Nat) : Int) := by exact_mod_cast hz
                                  omega)
      rw [if_neg (by rw [e2]; exact Bool.false_ne_true)]
      · show wpAny _ _ (newObj (.type "tuple") (.seq (List.foldl (fun x1 x2 => x1 ++ x2) #[] (List.replicate x.toNat items))) >>= _) _ _ _
        refine wpAny_bind (wpAny_newObj_type ?_ (by show (List.foldl (fun x1 x2 => x1 ++ x2) #[] (List.replicate x.toNat items)).size ≤ sizeLine; rw [hfold, Nat.mul_comm]; exact hz))
        exact wpAny_pure ⟨_, rfl, h⟩
def rRepA (K : PySem.W.Frag) : R2 := fun x y H Q => ∃ a xs k, x = .ref a ∧ y = .int k ∧ SqT K H a xs ∧ -(2 ^ 63) ≤ k ∧ k < 2 ^ 63 ∧ xs.length * k.toNat ≤ sizeLine ∧
  ((xs = [] ∨ k = 1) → Q (.ref a) H) ∧ (¬ (xs = [] ∨ k = 1) → ∀ p, H p = none → Q (.ref p) (upd H p (.tup (List.replicate k.toNat xs).flatten)))
theorem op_repA : OpR X (binaryOp .Mult) (rRepA X.K) := by
  intro pins s σ H x y v u Q I rx ry h
  obtain ⟨a, xs, k, rfl, rfl, ha, h1, h2, hz, q0, q1⟩ := h
  cases rx
  obtain ⟨t, rfl⟩ := ry
  obtain ⟨its, r, p, hzl⟩ := I.tuple ha
  obtain ⟨⟨cls, dd, data, sl⟩, ho, hc, n, hd⟩ := id p
  simp only at hc hd
  subst hc hd
  have hl := r.length
  refine wpAny_binaryOp_repeat_ref (T := "tuple") (U := "int") (by decide) ⟨_, ho, rfl⟩ (fun s' => typeIs_int s' k t) noFill_tm F.fills_int_mul F.slot_int_rmul rep_t F.slot_int_index.lookup
    (call_meets F.slot_int_rmul (typeIs_int s k t) F.entry_int_rmul (F.args_int_rmul_2 _ _) (rmul_t k t a its.toArray n dd sl) ⟨ho, rfl, ⟨_, ho, rfl⟩, ?_⟩)
  by_cases he : xs = [] ∨ k = 1
  · refine call_meets F.slot_tuple_mul ⟨_, ho, rfl⟩ F.entry_tuple_mul (F.args_tuple_mul_2 _ _) (mul_same k t a its.toArray n dd sl h1 h2 ?_) ⟨ho, ⟨.ref a, H, I, rfl, q0 he⟩⟩
    rcases he with e | e
    · left; rw [r.nil_iff.mpr e]; rfl
    · exact .inr e
  · refine call_meets F.slot_tuple_mul ⟨_, ho, rfl⟩ F.entry_tuple_mul (F.args_tuple_mul_2 _ _) (mul_new k t a its.toArray n dd sl h1 h2 ?_ (by rw [List.size_toArray, ← hl]; exact hz)) ⟨ho, ?_⟩
    · rintro (e | e)
      · exact he (.inl (r.nil_iff.mp (by simpa using e)))
      · exact he (.inr e)
    · have f0 := foldl_rep its k.toNat []
      rw [List.nil_append] at f0
      rw [show (#[] : Array Value) = ([] : List Value).toArray from rfl, f0]
      exact ⟨.ref s.heap.objs.size, _, I.laid (t' := s.toks) (o := .tup (List.replicate k.toNat xs).flatten) (fun b ob q => Heap.get?_push_of_some _ q) (Nat.le_refl _) ⟨by rw [len_rep, Nat.mul_comm]; exact hz, _, r.rep k.toNat, IsTD.new _ _⟩, rfl, q1 he _ (I.hok.fresh (Nat.le_refl _))⟩
end
end R3

namespace Pre
open PySem PySem.Spec PyProof.Rows L2
/-- a def of the text that keeps its promise, and may be called by its name -/
def Cal (P : Program) (w : World) (K : PySem.W.Frag) (mg : Str → Option Value) (base : Heap) (x : Str) (ps : List Str) (r : Nat) (sp : Sp) : Prop :=
  ∃ (g : Addr) (gd : FuncData), FnOk P w K mg base CX0 r g gd ps sp ∧ Binds K gd ps [] ∧ PySem.W.keepIn K (.ref g) = true ∧ mg x = some (.ref g)
theorem Cal.pe {X : Cx} {x : Str} {ps : List Str} {r : Nat} {sp : Sp} {p pos : Pos} {e : Expr} {es : List Expr} {t : TA} (C : Cal X.prog X.w X.K X.mg X.base x ps r sp) (hr : Room r X.A) (hg : Gl X x) (ha : PA X (e :: es) t)
    (hdb : (x == ("__debug__" : Str)) = false := by decide) (he : starEach (e :: es) X.env = (false, eval e X.env) :: starEach es X.env := by rfl) (hpl : (backTo pos (starEach es X.env)).any (·.1) = false := by rfl) :
    PE X (.Call (.Name x p) (e :: es) [] pos) (tCall sp [] E0 t) := by
  obtain ⟨g, gd, G, b, k, m⟩ := C
  exact pe_call G hr hg m k b .nil pass0 ha hdb he hpl
/-- what stands beside b stays -/
def SameB (b : Addr) (H H' : Hp) : Prop := ∀ c o, c ≠ b → H c = some o → H' c = some o
theorem SameB.refl {b : Addr} (H : Hp) : SameB b H H := fun _ _ _ h => h
theorem SameB.trans {b : Addr} {H H1 H2 : Hp} (x : SameB b H H1) (y : SameB b H1 H2) : SameB b H H2 := fun c o n h => y c o n (x c o n h)
theorem SameB.of {b : Addr} {H H1 : Hp} (x : Same H H1) : SameB b H H1 := fun c o _ h => x c o h
theorem same_new {H : Hp} {p : Addr} (h : H p = none) (o : HO) : Same H (upd H p o) := fun b u q => by rw [upd_ne (ne_of_none q h)]; exact q
theorem sameB_new {b : Addr} {H : Hp} {p : Addr} (h : H p = none) (o : HO) : SameB b H (upd H p o) := .of (same_new h o)
theorem sameB_upd {b : Addr} {H : Hp} {o : HO} : SameB b H (upd H b o) := fun c u n q => by rw [upd_ne n]; exact q
/-- a box of draws: its three numbers; m bounds how often it was asked -/
def Bx (H : Hp) (b : Addr) (m : Nat) : Prop := ∃ a c d : Int, H b = some (.lst [.int a, .int c, .int d]) ∧ 0 ≤ a ∧ 0 ≤ c ∧ c < 2147483647 ∧ 0 ≤ d ∧ d ≤ m
theorem Bx.mono {H : Hp} {b : Addr} {m n : Nat} (x : Bx H b m) (h : m ≤ n) : Bx H b n := by
  obtain ⟨a, c, d, h1, h2, h3, h4, h5, h6⟩ := x
  exact ⟨a, c, d, h1, h2, h3, h4, h5, by omega⟩
theorem Bx.same {H H' : Hp} {b : Addr} {m : Nat} (x : Bx H b m) (s : Same H H') : Bx H' b m := by
  obtain ⟨a, c, d, h1, h2⟩ := x
  exact ⟨a, c, d, s _ _ h1, h2⟩
/-- a word of ints: a tuple, a list, either -/
def WT (H : Hp) (a : Addr) (ns : List Int) : Prop := H a = some (.tup (ns.map V.int))
def WL (H : Hp) (a : Addr) (ns : List Int) : Prop := H a = some (.lst (ns.map V.int))
def Wd (H : Hp) (a : Addr) (ns : List Int) : Prop := WT H a ns ∨ WL H a ns
theorem Wd.same {H H' : Hp} {a : Addr} {ns : List Int} (x : Wd H a ns) (s : Same H H') : Wd H' a ns := x.elim (fun z => .inl (s _ _ z)) (fun z => .inr (s _ _ z))
theorem WT.same {H H' : Hp} {a : Addr} {ns : List Int} (x : WT H a ns) (s : Same H H') : WT H' a ns := s _ _ x
theorem WT.ne {H : Hp} {a b : Addr} {ns : List Int} {m : Nat} (x : WT H a ns) (y : Bx H b m) : a ≠ b := by
  obtain ⟨_, _, _, h, _⟩ := y
  exact ne_of x h (by intro z; cases z)
theorem WT.sameB {H H' : Hp} {a b : Addr} {ns : List Int} {m : Nat} (x : WT H a ns) (y : Bx H b m) (s : SameB b H H') : WT H' a ns := s _ _ (x.ne y) x
/-- the built-in names stand free -/
structure Txt (mg : Str → Option Value) : Prop where
  b_abs : mg "abs" = none
  b_all : mg "all" = none
  b_any : mg "any" = none
  b_bool : mg "bool" = none
  b_dict : mg "dict" = none
  b_divmod : mg "divmod" = none
  b_enumerate : mg "enumerate" = none
  b_int : mg "int" = none
  b_isinstance : mg "isinstance" = none
  b_len : mg "len" = none
  b_list : mg "list" = none
  b_max : mg "max" = none
  b_min : mg "min" = none
  b_range : mg "range" = none
  b_reversed : mg "reversed" = none
  b_sorted : mg "sorted" = none
  b_str : mg "str" = none
  b_sum : mg "sum" = none
  b_tuple : mg "tuple" = none
  b_zip : mg "zip" = none
/-! ### what the defs promise -/
/-- a draw: at least 0, below the size -/
def spTake : Sp := fun vs H Q _ => ∃ (b : Addr) (n : Int) (m : Nat), vs = [.ref b, .int n] ∧ Bx H b m ∧ m ≤ 1000000 ∧ 1 ≤ n ∧ n < 1073741824 ∧
  ∀ (v : Int) (H' : Hp), 0 ≤ v → v < n → Bx H' b (m + 1) → SameB b H H' → Q (.int v) H'
/-- a new box -/
def spBox (K : PySem.W.Frag) : Sp := fun vs H Q _ => ∃ (a : Addr) (ns : List Int) (k : Int), vs = [.ref a, .int k] ∧ SqL K H a (ns.map V.int) ∧ 0 ≤ k ∧ k ≤ 1000 ∧
  ∀ (b : Addr) (H' : Hp), H b = none → Bx H' b 0 → Same H H' → Q (.ref b) H'
/-- the cells, all others folded in -/
def spFolded (K : PySem.W.Frag) : Sp := fun vs H Q _ => ∃ (a : Addr) (ns : List Int) (k : Int), vs = [.ref a, .int k] ∧ SqL K H a (ns.map V.int) ∧ ns.length ≤ 63 ∧ 1 ≤ k ∧ k ≤ 63 ∧
  ∀ (r : Addr) (ms : List Int) (H' : Hp), ms.length ≤ 63 → H' r = some (.lst (ms.map V.int)) → Same H H' → Q (.ref r) H'
theorem emod_in {x m : Int} (h : 0 < m) : 0 ≤ x % m ∧ x % m < m := ⟨Int.emod_nonneg x (Int.ne_of_gt h), Int.emod_lt_of_pos x h⟩
theorem small {n : Nat} (h : n ≤ 10000) : n ≤ sizeLine := Nat.le_trans h (by decide)
theorem b01 (b : Bool) : -(2 ^ 64) < (if b = true then (1 : Int) else 0) ∧ (if b = true then (1 : Int) else 0) < 2 ^ 64 := by cases b <;> decide
theorem b01nn (b : Bool) : 0 ≤ (if b = true then (1 : Int) else 0) := by cases b <;> decide
theorem abs_nn (i : Int) : 0 ≤ (if i < 0 then -i else i) := by split <;> omega
/-! ### loops and comprehensions over other walks -/
theorem for_enum {K : PySem.W.Frag} {a : Addr} {xs : List V} {g : TG} {tb : TS} {D : Ends} {σ : L2.St} {H : Hp} (Pv : Nat → L2.St → Hp → Prop) (h0 : Pv 0 σ H) (hl : ∀ i σ H, i ≤ xs.length → Pv i σ H → SqL K H a xs)
    (hs : ∀ i x σ H T, xs[i]? = some x → Pv i σ H → H T = none → g (.ref T) σ (upd H T (.tup [.int (i : Nat), x])) fun σ2 H2 => tb { D with nx := Pv (i + 1), ct := Pv (i + 1), bk := D.nx } σ2 H2) (hd : ∀ σ H, Pv xs.length σ H → D.nx σ H) :
    ∃ W : Nat → Nat → L2.St → Hp → Prop, (∃ m, W 0 m σ H) ∧ ∀ i m σ H, W i m σ H →
      ((Ite K a).stop i H ∧ D.nx σ H) ∨ ((Ite K a).go i H ∧ ∃ N : L2.St → Hp → Prop, (∀ σ' H', N σ' H' → ∃ m', m' < m ∧ W (i + 1) m' σ' H') ∧ ∀ x H', (Ite K a).yld i H x H' → g x σ H' fun σ2 H2 => tb { D with nx := N, ct := N, bk := D.nx } σ2 H2) := by
  refine ⟨fun i m σ H => m = xs.length - i ∧ i ≤ xs.length ∧ Pv i σ H, ⟨xs.length, by simp, Nat.zero_le _, h0⟩, ?_⟩
  rintro i m σ H ⟨rfl, hi, p⟩
  have q := hl i σ H hi p
  by_cases hlt : i < xs.length
  · refine .inr ⟨⟨xs, xs[i], q, by simp [hlt]⟩, Pv (i + 1), fun σ' H' p' => ⟨xs.length - (i + 1), by omega, rfl, hlt, p'⟩, fun x H' y => ?_⟩
    obtain ⟨T, x', rfl, hT, rfl, y⟩ := y
    exact hs i x' σ _ T (y xs q) p hT
  · have e : i = xs.length := by omega
    subst e
    exact .inl ⟨⟨xs, q, Nat.le_refl _⟩, hd σ H p⟩
theorem lc_it {J : It} {n : Nat} {val : Nat → V} {g : TG} {tt : TT} {te : TE} {vs : List Nat} {σ : L2.St} {H1 : Hp} {D : Addr} {Qd : Hp → Prop} (Pv : Nat → Hp → Prop) (h0 : Pv 0 (upd H1 D (.lst [])))
    (hgo : ∀ i H, i < n → Pv i H → J.go i H) (hst : ∀ H, Pv n H → J.stop n H) (hy : ∀ i H x H', i < n → Pv i H → J.yld i H x H' → H' = H ∧ x = val i)
    (hs : ∀ i H, i < n → Pv i H → g (val i) (wipe σ vs) H fun σ2 H2 => wipe σ2 vs = wipe σ vs ∧ tt σ2 H2 fun b H3 =>
      if b = true then te σ2 H3 fun y H4 => ∃ acc, H4 D = some (.lst acc) ∧ acc.length < sizeLine ∧ Pv (i + 1) (upd H4 D (.lst (acc ++ [y]))) else Pv (i + 1) H3) (hd : ∀ H, Pv n H → Qd H) :
    ∃ W : Nat → Nat → Hp → Prop, (∃ m, W 0 m (upd H1 D (.lst []))) ∧ ∀ i m H, W i m H →
      (J.stop i H ∧ Qd H) ∨ (J.go i H ∧ ∃ Nx : Hp → Prop, (∀ H', Nx H' → ∃ m', m' < m ∧ W (i + 1) m' H') ∧ ∀ x H', J.yld i H x H' → g x (wipe σ vs) H' fun σ2 H2 => wipe σ2 vs = wipe σ vs ∧ tt σ2 H2 fun b H3 =>
        if b = true then te σ2 H3 fun y H4 => ∃ acc, H4 D = some (.lst acc) ∧ acc.length < sizeLine ∧ Nx (upd H4 D (.lst (acc ++ [y]))) else Nx H3) := by
  refine ⟨fun i m H => m = n - i ∧ i ≤ n ∧ Pv i H, ⟨n, by simp, Nat.zero_le _, h0⟩, ?_⟩
  rintro i m H ⟨rfl, hi, p⟩
  by_cases hlt : i < n
  · refine .inr ⟨hgo i H hlt p, Pv (i + 1), fun H' p' => ⟨n - (i + 1), by omega, rfl, hlt, p'⟩, fun x H' y => ?_⟩
    obtain ⟨rfl, rfl⟩ := hy i H x H' hlt p y
    exact hs i _ hlt p
  · have e : i = n := by omega
    subst e
    exact .inl ⟨hst H p, hd H p⟩
/-! ### slices of words -/
def cutI (ns : List Int) (lo hi : Option Int) : List Int := (ns.drop (HT.sIx ns.length 0 lo)).take (HT.sIx ns.length ns.length hi - HT.sIx ns.length 0 lo)
theorem cutV_ints (ns : List Int) (lo hi : Option Int) : cutV (ns.map V.int) lo hi = (cutI ns lo hi).map V.int := by
  unfold cutV cutI
  rw [List.length_map, List.map_take, List.map_drop]
theorem cutI_to (ns : List Int) (k : Nat) : cutI ns none (some (k : Int)) = ns.take k := by
  unfold cutI
  rw [HT.sIx_nat, HT.sIx_none, List.drop_zero, Nat.sub_zero]
  by_cases h : k ≤ ns.length
  · rw [Nat.min_eq_left h]
  · rw [Nat.min_eq_right (by omega), List.take_of_length_le (by omega), List.take_of_length_le (by omega)]
theorem cutI_from (ns : List Int) (k : Nat) : cutI ns (some (k : Int)) none = ns.drop k := by
  unfold cutI
  rw [HT.sIx_nat, HT.sIx_none]
  by_cases h : k ≤ ns.length
  · rw [Nat.min_eq_left h, List.take_of_length_le (by rw [List.length_drop]; exact Nat.le_refl _)]
  · rw [Nat.min_eq_right (by omega), List.drop_eq_nil_of_le (Nat.le_refl _), List.drop_eq_nil_of_le (by omega), List.take_nil]
theorem cutI_len (ns : List Int) (lo hi : Option Int) : (cutI ns lo hi).length ≤ ns.length := by
  unfold cutI
  rw [List.length_take, List.length_drop]
  omega
theorem cutI_mid_len (ns : List Int) (k : Nat) (j : Int) (h : 0 < (cutI ns (some (k : Int)) (some j)).length) : k < ns.length := by
  unfold cutI at h
  rw [List.length_take, List.length_drop, HT.sIx_nat] at h
  omega
theorem at_int {ns : List Int} {i : Nat} {x : V} (h : (ns.map V.int)[i]? = some x) : ∃ (hi : i < ns.length), x = .int ns[i] := by
  rw [List.getElem?_map] at h
  cases e : ns[i]? with
  | none => rw [e] at h; cases h
  | some z =>
    rw [e] at h
    obtain ⟨hi, hz⟩ := List.getElem?_eq_some_iff.mp e
    exact ⟨hi, by rw [hz]; exact (Option.some.inj h).symm⟩
theorem at_int' {ns : List Int} {i : Nat} (h : i < ns.length) : (ns.map V.int)[i]? = some (.int ns[i]) := by
  rw [List.getElem?_map, List.getElem?_eq_getElem h]
  rfl
theorem ixN_nat {n i : Nat} (h : i < n) : ixN n (i : Int) = some i := by
  unfold ixN
  rw [if_pos (by omega), if_pos (by omega), Int.toNat_natCast]
/-! ### the mathematics of words -/
def back (ns : List Int) : List Int := (ns.map fun x => -x).reverse
theorem back_back (ns : List Int) : back (back ns) = ns := by
  unfold back
  rw [List.map_reverse, List.reverse_reverse, List.map_map]
  have : ((fun x : Int => -x) ∘ fun x => -x) = id := by funext x; show - -x = x; omega
  rw [this, List.map_id]
theorem back_len (ns : List Int) : (back ns).length = ns.length := by unfold back; rw [List.length_reverse, List.length_map]
theorem back_take (ns : List Int) (i : Nat) (h : i < ns.length) : (back ns).take (i + 1) = (back ns).take i ++ [-(ns[ns.length - 1 - i]'(by omega))] := by
  have h' : i < (back ns).length := by rw [back_len]; exact h
  rw [List.take_succ_eq_append_getElem h']
  congr 2
  have e : (back ns)[i]? = some (-(ns[ns.length - 1 - i]'(by omega))) := by
    unfold back
    rw [List.getElem?_reverse (by rw [List.length_map]; exact h), List.getElem?_map, List.length_map, List.getElem?_eq_getElem (by omega)]
    rfl
  rw [List.getElem?_eq_getElem h'] at e
  exact Option.some.inj e
/-- a step of the first so many letters or their backs -/
def Step (l : Int) (x : Int) : Prop := (1 ≤ x ∧ x ≤ l) ∨ (1 ≤ -x ∧ -x ≤ l)
theorem step_of {l a b : Int} (ha : 0 ≤ a) (ha' : a < l) (hb : 0 ≤ b) (hb' : b < 2) : Step l ((1 + a) * (1 - 2 * b)) := by
  have : b = 0 ∨ b = 1 := by omega
  rcases this with rfl | rfl
  · left; omega
  · right; omega
/-! ### more promises -/
def spWord : Sp := fun vs H Q _ => ∃ (b : Addr) (l n : Int) (m : Nat), vs = [.ref b, .int l, .int n] ∧ Bx H b m ∧ m ≤ 900000 ∧ 1 ≤ l ∧ l ≤ 1000 ∧ 0 ≤ n ∧ n ≤ 1000 ∧
  ∀ (t : Addr) (ns : List Int) (H' : Hp), (ns.length : Int) ≤ n → (∀ x ∈ ns, Step l x) → WT H' t ns → Bx H' b (m + 2010) → SameB b H H' → Q (.ref t) H'
def spBacked : Sp := fun vs H Q _ => ∃ (a : Addr) (ns : List Int), vs = [.ref a] ∧ Wd H a ns ∧ ns.length ≤ 10000 ∧
  ∀ (t : Addr) (H' : Hp), WT H' t (back ns) → Same H H' → Q (.ref t) H'
def spJoined : Sp := fun vs H Q _ => ∃ (a d : Addr) (ns ms : List Int), vs = [.ref a, .ref d] ∧ Wd H a ns ∧ Wd H d ms ∧ ns.length ≤ 5000 ∧ ms.length ≤ 5000 ∧
  ∀ (t : Addr) (H' : Hp), WT H' t (ns ++ ms) → Same H H' → Q (.ref t) H'
def brack (ns ms : List Int) : List Int := back ns ++ back ms ++ ns ++ ms
def spBracketed : Sp := fun vs H Q _ => ∃ (a d : Addr) (ns ms : List Int), vs = [.ref a, .ref d] ∧ Wd H a ns ∧ Wd H d ms ∧ ns.length ≤ 1000 ∧ ms.length ≤ 1000 ∧
  ∀ (t : Addr) (H' : Hp), WT H' t (brack ns ms) → Same H H' → Q (.ref t) H'
def spLaw (K : PySem.W.Frag) : Sp := fun vs H Q _ => ∃ (a : Addr) (ns : List Int), vs = [.ref a] ∧ SqL K H a (ns.map V.int) ∧ ns.length ≤ 63 ∧ ∀ H', Q (.bl true) H'
theorem lay_ints : ∀ ns : List Int, PyData.canLayAll0 (ns.map PyData.int) = true
  | [] => rfl
  | n :: r => by rw [List.map_cons, PyData.canLayAll0, lay_ints r]; rfl
theorem eqvAll_ints : ∀ ns ms : List Int, PyData.eqvAll (ns.map PyData.int) (ms.map PyData.int) = decide (ns = ms)
  | [], [] => rfl
  | [], _ :: _ => rfl
  | _ :: _, [] => rfl
  | n :: r, m :: t => by
    rw [List.map_cons, List.map_cons, PyData.eqvAll, eqvAll_ints r t, PyData.eqv]
    rw [Bool.eq_iff_iff]
    simp
theorem eqv_ints (ns ms : List Int) : PyData.eqv (.tuple (ns.map PyData.int)) (.tuple (ms.map PyData.int)) = decide (ns = ms) := by rw [PyData.eqv]; exact eqvAll_ints ns ms
theorem eqvL_ints (ns ms : List Int) : PyData.eqv (.list (ns.map PyData.int)) (.list (ms.map PyData.int)) = decide (ns = ms) := by rw [PyData.eqv]; exact eqvAll_ints ns ms
theorem depth_ints : ∀ ns : List Int, PyData.depthAll (ns.map PyData.int) ≤ 1
  | [] => by decide
  | n :: r => by
    have := depth_ints r
    simp [PyData.depthAll, PyData.depth] at *
    omega
theorem shaped_ints (ns : List Int) : SeqAt.shaped (.tuple (ns.map PyData.int)) = true := by
  unfold SeqAt.shaped
  rw [PyData.canLay0, lay_ints, Bool.true_and, decide_eq_true_eq, PyData.depth]
  have := depth_ints ns
  omega
theorem shapedL_ints (ns : List Int) : SeqAt.shaped (.list (ns.map PyData.int)) = true := by
  unfold SeqAt.shaped
  rw [PyData.canLay0, lay_ints, Bool.true_and, decide_eq_true_eq, PyData.depth]
  have := depth_ints ns
  omega
theorem dpAll_ints {K : PySem.W.Frag} {H : Hp} : ∀ ns : List Int, DpAll K H (ns.map V.int) (ns.map PyData.int)
  | [] => .nil
  | n :: r => .cons (.int n) (dpAll_ints r)
theorem WT.dp {K : PySem.W.Frag} {H : Hp} {a : Addr} {ns : List Int} (h : WT H a ns) : Dp K H (.ref a) (.tuple (ns.map PyData.int)) := .tup (SqT.of h) (dpAll_ints ns)
theorem WL.dp {K : PySem.W.Frag} {H : Hp} {a : Addr} {ns : List Int} (h : WL H a ns) : Dp K H (.ref a) (.list (ns.map PyData.int)) := .lst (SqL.of h) (dpAll_ints ns)
/-! ### new things: the heap behind is told by what stands in it -/
def NewAt (H : Hp) (o : HO) (Q : VK) : Prop := ∀ (p : Addr) (H' : Hp), H p = none → H' p = some o → Same H H' → Q (.ref p) H'
theorem NewAt.up {H : Hp} {o : HO} {Q : VK} (h : NewAt H o Q) : ∀ p, H p = none → Q (.ref p) (upd H p o) := fun p hp => h p _ hp upd_same (same_new hp _)
section
variable {X : Cx}
def tTupN (t : TA) : TE := fun σ H Q => t σ H fun xs H1 => xs.length ≤ sizeLine ∧ NewAt H1 (.tup xs) Q
def tLstN (t : TA) : TE := fun σ H Q => t σ H fun xs H1 => xs.length ≤ sizeLine ∧ NewAt H1 (.lst xs) Q
theorem pe_tupN {es : List Expr} {t : TA} {pos : Pos} {x1} (h : PA X es t) : PE X (.Tuple es x1 pos) (tTupN t) := by
  intro pins s σ H Q I hw
  refine Tuple_ (thn (h _ pins s σ H _ I hw) fun us s1 ⟨vs, H1, I1, r, hz, q⟩ => ?_)
  refine wpAny_newObj_type ?_ (by show us.toArray.size ≤ sizeLine; rw [List.size_toArray, ← r.length]; exact hz)
  exact ⟨.ref s1.heap.objs.size, _, I1.laid (t' := s1.toks) (o := .tup vs) (fun b o e => Heap.get?_push_of_some _ e) (Nat.le_refl _) ⟨hz, us, r, IsTD.new _ _⟩, rfl, q.up _ (I1.hok.fresh (Nat.le_refl _))⟩
theorem pe_lstN {es : List Expr} {t : TA} {pos : Pos} (h : PA X es t) : PE X (.List es pos) (tLstN t) := by
  intro pins s σ H Q I hw
  refine wpAny_List_spliced (thn (h pos pins s σ H _ I hw) fun us s1 ⟨xs, H1, I1, r, z, q⟩ => ⟨by rw [← r.length]; exact z, ?_⟩)
  have hf : H1 s1.heap.objs.size = none := I1.hok.fresh (Nat.le_refl _)
  refine ⟨.ref s1.heap.objs.size, upd H1 s1.heap.objs.size (.lst xs), I1.laid (t' := s1.toks) (fun b u e => Heap.get?_push_of_some _ e) (Nat.le_refl _) ?_, rfl, q.up _ hf⟩
  exact ⟨z, us, 0, r, Heap.get?_push_size _ rfl⟩
def rCatN : R2 := fun x y H Q => ∃ l b xs zs, x = .ref l ∧ y = .ref b ∧ H l = some (.lst xs) ∧ H b = some (.lst zs) ∧ xs.length + zs.length ≤ sizeLine ∧ NewAt H (.lst (xs ++ zs)) Q
theorem op_catN : OpR X (binaryOp .Add) rCatN := fun pins s σ H x y v u Q I rx ry ⟨l, b, xs, zs, e1, e2, h1, h2, h3, h4⟩ => op_cat pins s σ H x y v u Q I rx ry ⟨l, b, xs, zs, e1, e2, h1, h2, h3, h4.up⟩
end
/-! ### readings by name, for use within comprehensions -/
def rLen (K : PySem.W.Frag) : List V → Hp → VK → Prop := fun xs H Q => ∃ p ys, xs = [V.ref p] ∧ (SqL K H p ys ∨ SqT K H p ys) ∧ Q (.int ys.length) H
def rListOf (K : PySem.W.Frag) : List V → Hp → VK → Prop := fun xs H Q => ∃ p ys, xs = [V.ref p] ∧ (SqL K H p ys ∨ SqT K H p ys) ∧ ∀ l, H l = none → Q (.ref l) (upd H l (.lst ys))
def rTupleOf (K : PySem.W.Frag) : List V → Hp → VK → Prop := fun xs H Q => ∃ p ys, xs = [V.ref p] ∧ ((SqL K H p ys ∧ ∀ l, H l = none → Q (.ref l) (upd H l (.tup ys))) ∨ (SqT K H p ys ∧ Q (.ref p) H))
theorem c_len {X : Cx} : CallR X (.builtin "len") (rLen X.K) := call_len_seq
theorem c_list {X : Cx} : CallR X (.type "list") (rListOf X.K) := call_list_of
theorem c_tuple {X : Cx} : CallR X (.type "tuple") (rTupleOf X.K) := call_tuple_of
/-! ### readings in short -/
theorem cat_rd {K : PySem.W.Frag} {H : Hp} {a b : Addr} {ns ms : List Int} {R : VK} (ha : WT H a ns) (hb : WT H b ms) (hl : ns.length + ms.length ≤ 10000) (h : ∀ (c : Addr) (H' : Hp), WT H' c (ns ++ ms) → Same H H' → R (.ref c) H') : R1.rCatA K (.ref a) (.ref b) H R := by
  refine ⟨a, b, _, _, rfl, rfl, SqT.of ha, SqT.of hb, ?_, fun e => ?_, fun e e2 => ?_, fun e e2 t ht => ?_⟩
  · rw [List.length_map, List.length_map]; exact small hl
  · have e' : ns = [] := List.map_eq_nil_iff.mp e
    exact h b H (by rw [e', List.nil_append]; exact hb) (Same.refl H)
  · have e' : ms = [] := List.map_eq_nil_iff.mp e2
    exact h a H (by rw [e', List.append_nil]; exact ha) (Same.refl H)
  · refine h t _ ?_ (same_new ht _)
    show upd H t _ t = _
    rw [upd_same, List.map_append]
theorem tup_rd {K : PySem.W.Frag} {H : Hp} {a : Addr} {ns : List Int} {R : VK} (ha : Wd H a ns) (h : ∀ (c : Addr) (H' : Hp), WT H' c ns → Same H H' → R (.ref c) H') : rTupleOf K [V.ref a] H R := by
  rcases ha with ha | ha
  · exact ⟨a, _, rfl, .inr ⟨SqT.of ha, h a H ha (Same.refl H)⟩⟩
  · exact ⟨a, _, rfl, .inl ⟨SqL.of ha, fun l hl => h l _ upd_same (same_new hl _)⟩⟩
theorem list_rd {K : PySem.W.Frag} {H : Hp} {a : Addr} {ns : List Int} {R : VK} (ha : Wd H a ns) (h : ∀ (c : Addr) (H' : Hp), H c = none → WL H' c ns → Same H H' → R (.ref c) H') : rListOf K [V.ref a] H R := by
  rcases ha with ha | ha
  · exact ⟨a, _, rfl, .inr (SqT.of ha), fun l hl => h l _ hl upd_same (same_new hl _)⟩
  · exact ⟨a, _, rfl, .inl (SqL.of ha), fun l hl => h l _ hl upd_same (same_new hl _)⟩
theorem eq_rd {K : PySem.W.Frag} {H : Hp} {a b : Addr} {ns ms : List Int} {R : VK} (ha : WT H a ns) (hb : WT H b ms) (h : R (.bl (decide (ns = ms))) H) : rEqD K (.ref a) (.ref b) H R :=
  ⟨_, _, ha.dp, hb.dp, shaped_ints ns, shaped_ints ms, by rw [eqv_ints]; exact h⟩
theorem neL_rd {K : PySem.W.Frag} {H : Hp} {a b : Addr} {ns ms : List Int} {R : VK} (ha : WL H a ns) (hb : WL H b ms) (h : R (.bl (!decide (ns = ms))) H) : rNeD K (.ref a) (.ref b) H R :=
  ⟨_, _, ha.dp, hb.dp, shapedL_ints ns, shapedL_ints ms, by rw [eqvL_ints]; exact h⟩
theorem SameB.same {b : Addr} {H H1 H2 : Hp} (x : SameB b H H1) (y : Same H1 H2) : SameB b H H2 := x.trans (.of y)
end Pre

namespace Pre
open PySem PySem.Spec PyProof.Rows L2
/-! ### slices, products of words, in short -/
theorem sIx_whole {n : Nat} {lo hi : Option Int} {ns : List Int} (hn : ns.length = n) (h : HT.sIx n 0 lo = 0 ∧ HT.sIx n n hi = n) : cutI ns lo hi = ns := by
  unfold cutI
  rw [hn, h.1, h.2, List.drop_zero, Nat.sub_zero, ← hn, List.take_length]
theorem slT_rd {K : PySem.W.Frag} {H : Hp} {a : Addr} {ns : List Int} {lo hi : Option Int} {R : VK} (ha : WT H a ns) (h : ∀ (c : Addr) (H' : Hp), WT H' c (cutI ns lo hi) → Same H H' → R (.ref c) H') : R3.rSlA K (.ref a) lo hi H R := by
  refine ⟨a, _, rfl, SqT.of ha, fun e => ?_, fun e p hp => ?_⟩
  · rw [List.length_map] at e
    exact h a H (by rw [sIx_whole rfl e]; exact ha) (Same.refl H)
  · exact h p _ (by show upd H p _ p = _; rw [upd_same, cutV_ints]) (same_new hp _)
theorem slS_rd {K : PySem.W.Frag} {H : Hp} {a : Addr} {ns : List Int} {lo hi : Option Int} {R : VK} (ha : Wd H a ns) (h : ∀ (c : Addr) (H' : Hp), Wd H' c (cutI ns lo hi) → Same H H' → R (.ref c) H') : R3.rSlS K (.ref a) lo hi H R := by
  rcases ha with ha | ha
  · exact .inr (slT_rd ha fun c H' hc hs => h c H' (.inl hc) hs)
  · exact .inl ⟨a, _, rfl, SqL.of ha, fun p hp => h p _ (.inr (by show upd H p _ p = _; rw [upd_same, cutV_ints])) (same_new hp _)⟩
def rep (k : Nat) (ns : List Int) : List Int := (List.replicate k ns).flatten
theorem rep_len (k : Nat) (ns : List Int) : (rep k ns).length = k * ns.length := len_rep ns k
theorem map_rep (k : Nat) (ns : List Int) : (List.replicate k (ns.map V.int)).flatten = (rep k ns).map V.int := by
  unfold rep
  induction k with
  | zero => rfl
  | succ k ih => rw [List.replicate_succ, List.flatten_cons, ih, List.replicate_succ, List.flatten_cons, List.map_append]
theorem rep_rd {K : PySem.W.Frag} {H : Hp} {a : Addr} {ns : List Int} {k : Int} {R : VK} (ha : WT H a ns) (hk : -10000 ≤ k) (hk' : k ≤ 10000) (hl : ns.length * k.toNat ≤ 10000) (h : ∀ (c : Addr) (H' : Hp), WT H' c (rep k.toNat ns) → Same H H' → R (.ref c) H') : R3.rRepA K (.ref a) (.int k) H R := by
  refine ⟨a, _, k, rfl, rfl, SqT.of ha, by omega, by omega, by rw [List.length_map]; exact small hl, fun e => ?_, fun e p hp => ?_⟩
  · refine h a H ?_ (Same.refl H)
    rcases e with e | e
    · have e' : ns = [] := List.map_eq_nil_iff.mp e
      subst e'
      have : rep k.toNat ([] : List Int) = [] := List.length_eq_zero_iff.mp (by rw [rep_len]; rfl)
      rw [this]; exact ha
    · subst e
      have : rep (1 : Int).toNat ns = ns := by
        show (List.replicate 1 ns).flatten = ns
        simp
      rw [this]; exact ha
  · exact h p _ (by show upd H p _ p = _; rw [upd_same, map_rep]) (same_new hp _)
/-! ### lists of words -/
abbrev WsAt (H : Hp) : List Addr → List (List Int) → Prop := Paired (fun p ws => WT H p ws)
theorem WsAt.same {H H' : Hp} {ps : List Addr} {wss : List (List Int)} (h : WsAt H ps wss) (s : Same H H') : WsAt H' ps wss := Paired.imp' (fun _ _ w => w.same s) h
theorem WsAt.len {H : Hp} {ps : List Addr} {wss : List (List Int)} (h : WsAt H ps wss) : ps.length = wss.length := Paired.length h
theorem WsAt.app {H : Hp} : ∀ {ps qs : List Addr} {wss vss : List (List Int)}, WsAt H ps wss → WsAt H qs vss → WsAt H (ps ++ qs) (wss ++ vss)
  | _, _, _, _, .nil, s => s
  | _, _, _, _, .cons r t, s => .cons r (WsAt.app t s)
theorem WsAt.get {H : Hp} {ps : List Addr} {wss : List (List Int)} (h : WsAt H ps wss) {i : Nat} {p : Addr} (e : ps[i]? = some p) : ∃ ws, wss[i]? = some ws ∧ WT H p ws := paired_get h e
theorem WsAt.drop {H : Hp} : ∀ {ps : List Addr} {wss : List (List Int)} (n : Nat), WsAt H ps wss → WsAt H (ps.drop n) (wss.drop n)
  | _, _, 0, h => h
  | _, _, _ + 1, .nil => .nil
  | _, _, n + 1, .cons _ t => WsAt.drop n t
theorem WsAt.take {H : Hp} : ∀ {ps : List Addr} {wss : List (List Int)} (n : Nat), WsAt H ps wss → WsAt H (ps.take n) (wss.take n)
  | _, _, 0, _ => .nil
  | _, _, _ + 1, .nil => .nil
  | _, _, n + 1, .cons r t => .cons r (WsAt.take n t)
theorem at_ref {ps : List Addr} {i : Nat} {x : V} (h : (ps.map V.ref)[i]? = some x) : ∃ p, ps[i]? = some p ∧ x = .ref p := by
  rw [List.getElem?_map] at h
  cases e : ps[i]? with
  | none => rw [e] at h; cases h
  | some z => rw [e] at h; exact ⟨z, rfl, (Option.some.inj h).symm⟩
/-- the list at r holds these words, each a tuple -/
def Ws (H : Hp) (r : Addr) (wss : List (List Int)) : Prop := ∃ ps : List Addr, H r = some (.lst (ps.map V.ref)) ∧ WsAt H ps wss
theorem Ws.same {H H' : Hp} {r : Addr} {wss : List (List Int)} (h : Ws H r wss) (s : Same H H') : Ws H' r wss := let ⟨ps, h1, h2⟩ := h; ⟨ps, s _ _ h1, h2.same s⟩
theorem cutV_refs (ps : List Addr) (lo hi : Option Int) : cutV (ps.map V.ref) lo hi = ((ps.drop (HT.sIx ps.length 0 lo)).take (HT.sIx ps.length ps.length hi - HT.sIx ps.length 0 lo)).map V.ref := by
  unfold cutV
  rw [List.length_map, List.map_take, List.map_drop]
theorem cutV_from (ps : List Addr) (k : Nat) : cutV (ps.map V.ref) (some (k : Int)) none = (ps.drop k).map V.ref := by
  rw [cutV_refs, HT.sIx_nat, HT.sIx_none]
  by_cases h : k ≤ ps.length
  · rw [Nat.min_eq_left h, List.take_of_length_le (by rw [List.length_drop]; exact Nat.le_refl _)]
  · rw [Nat.min_eq_right (by omega), List.drop_eq_nil_of_le (Nat.le_refl _), List.drop_eq_nil_of_le (by omega), List.take_nil]
/-! ### turns -/
def turnAt (ns : List Int) (k : Nat) : List Int := ns.drop k ++ ns.take k
def turnsOf (ns : List Int) : List (List Int) := (List.range ns.length).map (turnAt ns)
theorem turns_take (ns : List Int) (i : Nat) : ((List.range (i + 1)).map (turnAt ns)) = ((List.range i).map (turnAt ns)) ++ [turnAt ns i] := by rw [List.range_succ, List.map_append]; rfl
/-- whether a word is less than all its other turns -/
def tw (ns : List Int) : Bool := !ns.isEmpty && ((turnsOf ns).drop 1).all (HT.lexLt ns)
/-! ### promises -/
def Lets (l : Int) (ns : List Int) : Prop := ∀ x ∈ ns, 1 ≤ x ∧ x ≤ l
def spTurnsS : Sp := fun vs H Q _ => ∃ (a : Addr) (ns : List Int), vs = [.ref a] ∧ Wd H a ns ∧ ns.length ≤ 1000 ∧
  ∀ (r : Addr) (H' : Hp), H r = none → Ws H' r (turnsOf ns) → Same H H' → Q (.ref r) H'
def spTwS : Sp := fun vs H Q _ => ∃ (a : Addr) (ns : List Int), vs = [.ref a] ∧ Wd H a ns ∧ ns.length ≤ 1000 ∧
  ∀ (H' : Hp), Same H H' → Q (.bl (tw ns)) H'
theorem lt_rd {K : PySem.W.Frag} {H : Hp} {a b : Addr} {ns ms : List Int} {R : VK} (ha : WT H a ns) (hb : WT H b ms) (h : R (.bl (HT.lexLt ns ms)) H) : rLtT K (.ref a) (.ref b) H R :=
  ⟨a, b, ns, ms, rfl, rfl, SqT.of ha, SqT.of hb, h⟩
theorem Lets.app {l : Int} {xs ys : List Int} (h : Lets l xs) (k : Lets l ys) : Lets l (xs ++ ys) := fun x hx => (List.mem_append.mp hx).elim (h x) (k x)
theorem Lets.cut {l : Int} {xs : List Int} {lo hi : Option Int} (h : Lets l xs) : Lets l (cutI xs lo hi) := fun x hx => h x (List.mem_of_mem_drop (List.mem_of_mem_take hx))
theorem Lets.rep {l : Int} {xs : List Int} {k : Nat} (h : Lets l xs) : Lets l (rep k xs) := fun x hx => by
  obtain ⟨ys, hy, hx⟩ := List.mem_flatten.mp hx
  rw [(List.mem_replicate.mp hy).2] at hx
  exact h x hx
theorem len_rd {K : PySem.W.Frag} {H : Hp} {a : Addr} {ns : List Int} {R : VK} (ha : Wd H a ns) (h : R (.int ns.length) H) : rLen K [V.ref a] H R := by
  rcases ha with ha | ha
  · exact ⟨a, _, rfl, .inr (SqT.of ha), by rw [List.length_map]; exact h⟩
  · exact ⟨a, _, rfl, .inl (SqL.of ha), by rw [List.length_map]; exact h⟩
theorem WT.updL {H : Hp} {D p : Addr} {xs : List V} {o : HO} {ns : List Int} (h : WT H p ns) (hD : H D = some (.lst xs)) : WT (upd H D o) p ns := by
  show upd H D o p = _
  rw [upd_ne (ne_of h hD (by intro z; cases z))]
  exact h
theorem WsAt.updL {H : Hp} {D : Addr} {xs : List V} {o : HO} {ps : List Addr} {wss : List (List Int)} (h : WsAt H ps wss) (hD : H D = some (.lst xs)) : WsAt (upd H D o) ps wss := Paired.imp' (fun _ _ w => w.updL hD) h
/-- a list that was new stands apart from what stood -/
theorem same_upd {H H2 : Hp} {D : Addr} {o : HO} (hD : H D = none) (s : Same H H2) : Same H (upd H2 D o) := fun b u e => by rw [upd_ne (ne_of_none e hD)]; exact s b u e
theorem st_split {t rest : TS} {D : Ends} {σ : L2.St} {H : Hp} (Pr : L2.St → Hp → Prop) (h : ∀ nx : L2.St → Hp → Prop, (∀ σ' H', Pr σ' H' → nx σ' H') → t { D with nx := nx } σ H) (k : ∀ σ' H', Pr σ' H' → rest D σ' H') : tSeq t rest D σ H := h _ k
theorem WsAt.sameB {H H' : Hp} {b : Addr} {m : Nat} {ps : List Addr} {wss : List (List Int)} (h : WsAt H ps wss) (y : Bx H b m) (s : SameB b H H') : WsAt H' ps wss := Paired.imp' (fun _ _ w => w.sameB y s) h
theorem Bx.updL {H : Hp} {b l : Addr} {m : Nat} {o : HO} (x : Bx H b m) (h : b ≠ l) : Bx (upd H l o) b m := by
  obtain ⟨a, c, d, h1, h2⟩ := x
  exact ⟨a, c, d, by rw [upd_ne h]; exact h1, h2⟩
end Pre

namespace Pre
open PySem PySem.Spec PyProof.Rows L2
/-! ### a loop over a word, be it a list or a tuple -/
theorem for_seq {K : PySem.W.Frag} {tl : TE} {a : Addr} {ns : List Int} {g : TG} {tb rest : TS} {D : Ends} {σ : L2.St} {H : Hp} (hv : ∀ R : VK, R (.ref a) H → tl σ H R) (hw : Wd H a ns) (Pv : Nat → L2.St → Hp → Prop) (h0 : Pv 0 σ H)
    (hl : ∀ i σ' H', Pv i σ' H' → ∀ o, H a = some o → H' a = some o)
    (hs : ∀ i σ' H' (hi : i < ns.length), Pv i σ' H' → g (.int ns[i]) σ' H' fun σ2 H2 => tb { D with nx := Pv (i + 1), ct := Pv (i + 1), bk := rest D } σ2 H2) (hd : ∀ σ' H', Pv ns.length σ' H' → rest D σ' H') :
    tSeq (tFor (fun σ H R => iList K tl σ H R ∨ iTup K tl σ H R) g tb) rest D σ H := by
  rcases hw with hw | hw
  · refine .inr (hv _ ⟨a, rfl, ⟨_, SqT.of hw⟩, for_tup (D := { D with nx := rest D }) (xs := ns.map V.int) Pv h0 (fun i σ' H' _ p => SqT.of (hl i σ' H' p _ hw)) (fun i x σ' H' hx p => ?_) (fun σ' H' p => hd σ' H' (by rw [List.length_map] at p; exact p))⟩)
    obtain ⟨hi, rfl⟩ := at_int hx
    exact hs i σ' H' hi p
  · refine .inl (hv _ ⟨a, rfl, ⟨_, SqL.of hw⟩, for_list (D := { D with nx := rest D }) (xs := ns.map V.int) Pv h0 (fun i σ' H' _ p => SqL.of (hl i σ' H' p _ hw)) (fun i x σ' H' hx p => ?_) (fun σ' H' p => hd σ' H' (by rw [List.length_map] at p; exact p))⟩)
    obtain ⟨hi, rfl⟩ := at_int hx
    exact hs i σ' H' hi p
/-! ### neighbours taken out -/
def push (ms : List Int) (x : Int) : List Int := if ms.getLast? = some (-x) then ms.dropLast else ms ++ [x]
def shortOf (ns : List Int) : List Int := ns.foldl push []
/-- a list is empty, or has a last one -/
theorem last_cases (ms : List Int) : ms = [] ∨ ∃ (l : List Int) (x : Int), ms = l ++ [x] := by
  rcases List.eq_nil_or_concat ms with h | ⟨l, x, h⟩
  · exact .inl h
  · exact .inr ⟨l, x, by rw [h, List.concat_eq_append]⟩
theorem push_nil (x : Int) : push [] x = [x] := by
  unfold push
  rw [if_neg (by simp)]
  rfl
theorem push_pop (l : List Int) (y x : Int) (h : y = -x) : push (l ++ [y]) x = l := by
  unfold push
  rw [if_pos (by rw [List.getLast?_concat, h]), List.dropLast_concat]
theorem push_more (l : List Int) (y x : Int) (h : y ≠ -x) : push (l ++ [y]) x = l ++ [y] ++ [x] := by
  unfold push
  rw [if_neg (by rw [List.getLast?_concat]; intro e; exact h (Option.some.inj e))]
/-! ### repeated -/
def repW (ns : List Int) (n : Int) : List Int := if n < 0 then rep (-n).toNat (back ns) else rep n.toNat ns
def spRepeated : Sp := fun vs H Q _ => ∃ (a : Addr) (ns : List Int) (n : Int), vs = [.ref a, .int n] ∧ Wd H a ns ∧ -1000 ≤ n ∧ n ≤ 1000 ∧ ns.length * n.natAbs ≤ 5000 ∧ ns.length ≤ 5000 ∧
  ∀ (t : Addr) (H' : Hp), WT H' t (repW ns n) → Same H H' → Q (.ref t) H'
theorem repW_base (ns : List Int) (n : Int) : repW ns n = rep n.natAbs (if 0 < n then ns else back ns) := by
  unfold repW
  by_cases h : n < 0
  · rw [if_pos h, if_neg (by omega), show (-n).toNat = n.natAbs by omega]
  · rw [if_neg h]
    by_cases h2 : 0 < n
    · rw [if_pos h2, show n.toNat = n.natAbs by omega]
    · have : n = 0 := by omega
      subst this
      rfl
theorem Bx.ne {H : Hp} {b l : Addr} {m : Nat} (x : Bx H b m) (h : H l = none) : l ≠ b := by
  obtain ⟨_, _, _, hb, _⟩ := x
  exact (ne_of_none hb h).symm
end Pre

namespace Pre
open PySem PySem.Spec PyProof.Rows L2
/-! ### words without such neighbours -/
def Red : List Int → Prop
  | [] => True
  | [_] => True
  | y :: x :: r => y ≠ -x ∧ Red (x :: r)
theorem red_init : ∀ (l : List Int) (x : Int), Red (l ++ [x]) → Red l
  | [], _, _ => trivial
  | [_], _, _ => trivial
  | y :: z :: r, x, h => ⟨h.1, red_init (z :: r) x h.2⟩
theorem red_snoc : ∀ (l : List Int) (y x : Int), Red (l ++ [y]) → y ≠ -x → Red (l ++ [y] ++ [x])
  | [], y, x, _, h => ⟨h, trivial⟩
  | [z], y, x, hr, h => ⟨hr.1, h, trivial⟩
  | z :: u :: r, y, x, hr, h => ⟨hr.1, red_snoc (u :: r) y x hr.2 h⟩
theorem red_last : ∀ (l : List Int) (y x : Int), Red (l ++ [y] ++ [x]) → y ≠ -x
  | [], _, _, h => h.1
  | [_], _, _, h => h.2.1
  | _ :: u :: r, y, x, h => red_last (u :: r) y x h.2
theorem red_push (ms : List Int) (x : Int) (h : Red ms) : Red (push ms x) := by
  rcases last_cases ms with rfl | ⟨l, y, rfl⟩
  · rw [push_nil]; trivial
  · by_cases e : y = -x
    · rw [push_pop l y x e]; exact red_init l y h
    · rw [push_more l y x e]; exact red_snoc l y x h e
theorem red_fold : ∀ (ns ms : List Int), Red ms → Red (ns.foldl push ms)
  | [], _, h => h
  | x :: r, ms, h => red_fold r _ (red_push ms x h)
theorem push_back (ms : List Int) (x : Int) (h : Red ms) : push (push ms x) (-x) = ms := by
  rcases last_cases ms with rfl | ⟨l, y, rfl⟩
  · rw [push_nil]
    exact push_pop [] x (-x) (by omega)
  · by_cases e : y = -x
    · rw [push_pop l y x e]
      rcases last_cases l with rfl | ⟨k, z, rfl⟩
      · rw [push_nil, e]; rfl
      · have hz := red_last k z y h
        rw [push_more k z (-x) (by rw [← e]; exact hz), e]
    · rw [push_more l y x e]
      exact push_pop (l ++ [y]) x (-x) (by omega)
theorem short_pair (u v : List Int) (x : Int) : shortOf (u ++ [x, -x] ++ v) = shortOf (u ++ v) := by
  unfold shortOf
  rw [List.foldl_append, List.foldl_append, List.foldl_append]
  have : [x, -x].foldl push (u.foldl push []) = push (push (u.foldl push []) x) (-x) := rfl
  rw [this, push_back _ x (red_fold u [] trivial)]
end Pre

namespace Pre
open PySem PySem.Spec PyProof.Rows L2
/-! ### products of greater numbers -/
def Sz (m : Nat) (i : Int) : Prop := i.natAbs < 2 ^ m
def CMulB (i j : Int) : Prop := ∃ m n : Nat, Sz m i ∧ Sz n j ∧ m + n ≤ 100000
theorem op_mulB {X : Cx} : OpR X (binaryOp .Mult) (rI CMulB fun i j => .int (i * j)) := opI fun i j _ _ _ _ _ hc q => by
  obtain ⟨m, n, h1, h2, h3⟩ := hc
  exact mul_int q (IntMulOk.of_le (m := m) (n := n) (intBits_le_iff.mpr h1) (intBits_le_iff.mpr h2) (by omega))
theorem Sz.mul {m n : Nat} {i j : Int} (h1 : Sz m i) (h2 : Sz n j) : Sz (m + n) (i * j) := by
  unfold Sz at *
  rw [Int.natAbs_mul, Nat.pow_add]
  exact Nat.mul_lt_mul'' h1 h2
theorem Sz.mono {m n : Nat} {i : Int} (h : Sz m i) (hm : m ≤ n) : Sz n i := Nat.lt_of_lt_of_le h (Nat.pow_le_pow_right (by decide) hm)
theorem Sz.add {m : Nat} {i j : Int} (h1 : Sz m i) (h2 : Sz m j) : Sz (m + 1) (i + j) := by
  unfold Sz at *
  rw [Nat.pow_succ]
  omega
theorem Sz.sub {m : Nat} {i j : Int} (h1 : Sz m i) (h2 : Sz m j) : Sz (m + 1) (i - j) := by
  unfold Sz at *
  rw [Nat.pow_succ]
  omega
theorem sz_small {i : Int} {m : Nat} (hm : 10 ≤ m) (h1 : -1000 < i) (h2 : i < 1000) : Sz m i := Sz.mono (m := 10) (show i.natAbs < 2 ^ 10 by omega) hm
/-! ### choices -/
def ff (n : Int) : Nat → Int
  | 0 => 1
  | k + 1 => ff n k * (n - k)
def fac : Nat → Int
  | 0 => 1
  | k + 1 => fac k * (k + 1)
def ch (n : Int) : Nat → Int
  | 0 => 1
  | k + 1 => ch n k * (n - k) / (k + 1)
theorem fac_pos : ∀ k, 0 < fac k
  | 0 => by decide
  | k + 1 => by
    rw [fac]
    exact Int.mul_pos (fac_pos k) (by omega)
theorem ff_succ (n : Int) : ∀ k, ff (n + 1) (k + 1) = (n + 1) * ff n k
  | 0 => by simp [ff]
  | k + 1 => by
    have ih := ff_succ n k
    rw [ff, ih, ff]
    grind
theorem ff_diff (n : Int) (k : Nat) : ff (n + 1) (k + 1) = ff n (k + 1) + (k + 1) * ff n k := by
  rw [ff_succ, ff]
  grind
theorem ff_zero : ∀ k, ff 0 (k + 1) = 0
  | 0 => by simp [ff]
  | k + 1 => by rw [ff, ff_zero k, Int.zero_mul]
/-- by steps of one, up and down from nought -/
theorem int_ind (P : Int → Prop) (h0 : P 0) (up : ∀ n, P n → P (n + 1)) (down : ∀ n, P (n + 1) → P n) (n : Int) : P n := by
  have hp : ∀ k : Nat, P (k : Int) := fun k => by
    induction k with
    | zero => exact h0
    | succ k ih => exact up _ ih
  have hn : ∀ k : Nat, P (-(k : Int)) := fun k => by
    induction k with
    | zero => exact h0
    | succ k ih =>
      refine down _ ?_
      have e : -((k + 1 : Nat) : Int) + 1 = -(k : Int) := by omega
      rw [e]
      exact ih
  rcases Int.le_total 0 n with h | h
  · have := hp n.toNat
    rwa [Int.toNat_of_nonneg h] at this
  · have := hn (-n).toNat
    rwa [show -(((-n).toNat : Nat) : Int) = n by omega] at this
theorem ff_dvd : ∀ (k : Nat) (n : Int), ∃ c, ff n k = fac k * c
  | 0, n => ⟨1, by simp [ff, fac]⟩
  | k + 1, n => by
    refine int_ind (fun n => ∃ c, ff n (k + 1) = fac (k + 1) * c) ⟨0, by rw [ff_zero, Int.mul_zero]⟩ (fun n ⟨c, h⟩ => ?_) (fun n ⟨c, h⟩ => ?_) n
    · obtain ⟨d, hd⟩ := ff_dvd k n
      refine ⟨c + d, ?_⟩
      rw [ff_diff, h, hd, fac]
      grind
    · obtain ⟨d, hd⟩ := ff_dvd k n
      refine ⟨c - d, ?_⟩
      have e := ff_diff n k
      rw [h, hd] at e
      rw [fac] at *
      grind
theorem ch_fac : ∀ (k : Nat) (n : Int), ch n k * fac k = ff n k
  | 0, n => by simp [ch, fac, ff]
  | k + 1, n => by
    have ih := ch_fac k n
    obtain ⟨c, hc⟩ := ff_dvd (k + 1) n
    have hf := fac_pos k
    have e : ch n k * (n - k) = c * (k + 1) := by
      have e1 : fac k * (ch n k * (n - k)) = fac k * (c * (k + 1)) := by
        rw [ff, ← ih, fac] at hc
        grind
      exact Int.eq_of_mul_eq_mul_left (by omega) e1
    rw [ch, e, Int.mul_ediv_cancel _ (by omega), hc]
    exact Int.mul_comm _ _
theorem fac_cancel {k : Nat} {a b : Int} (h : a * fac k = b * fac k) : a = b := Int.eq_of_mul_eq_mul_right (by have := fac_pos k; omega) h
theorem ch_pascal (n : Int) (k : Nat) : ch (n + 1) (k + 1) = ch n (k + 1) + ch n k := by
  refine fac_cancel (k := k + 1) ?_
  have h1 := ch_fac (k + 1) (n + 1)
  have h2 := ch_fac (k + 1) n
  have h3 := ch_fac k n
  have h4 := ff_diff n k
  rw [Int.add_mul, h1, h2, h4, fac, ← h3]
  grind
/-! ### their sizes -/
theorem ediv_sz {m : Nat} {i j : Int} (h : Sz m i) (hj : 0 < j) : Sz m (i / j) := by
  have e : i / j = i.fdiv j := (Int.fdiv_eq_ediv_of_nonneg i (by omega)).symm
  rw [e]
  exact Nat.lt_of_le_of_lt (natAbs_fdiv_le i j) h
theorem ch_sz {m : Nat} {n : Int} (hn : Sz m n) (hm : 10 ≤ m) : ∀ k : Nat, k ≤ 100 → Sz ((m + 1) * k + 1) (ch n k)
  | 0, _ => by show (1 : Int).natAbs < 2 ^ (_ + 1); rw [Nat.mul_zero]; decide
  | k + 1, h => by
    have ih := ch_sz hn hm k (by omega)
    have h2 : Sz (m + 1) (n - (k : Int)) := hn.sub (sz_small hm (by omega) (by omega))
    rw [ch]
    exact ediv_sz ((ih.mul h2).mono (by rw [Nat.mul_succ]; omega)) (by omega)
def spNumber : Sp := fun vs H Q _ => ∃ (b : Addr) (m : Nat), vs = [.ref b] ∧ Bx H b m ∧ m ≤ 900000 ∧
  ∀ (n : Int) (H' : Hp), Sz 200 n → Bx H' b (m + 20) → SameB b H H' → Q (.int n) H'
end Pre

namespace Pre
open PySem PySem.Spec PyProof.Rows L2
/-! ### texts of data -/
structure Okd (d : PyData) : Prop where
  sh : d.showable = true
  nd : d.hasDict = false
  dp : d.depth ≤ 50
  ln : d.shown.length ≤ sizeLine
def rStrD (K : PySem.W.Frag) : List V → Hp → VK → Prop := fun vs H Q => ∃ (a : Addr) (d : PyData), vs = [V.ref a] ∧ Dp K H (.ref a) d ∧ Okd d ∧ Q (.str d.shown) H
theorem cr_strD {X : Cx} (hg : X.A.guards = some []) (hu : X.A.units + 64 < cLine) : CallR X (.type "str") (rStrD X.K) := by
  intro pins s σ H xs us Q I r h
  obtain ⟨a, d, rfl, hd, ok, q⟩ := h
  obtain ⟨u, rfl, ru⟩ := vals1 r
  obtain ⟨as, rd⟩ := Dp.reads I d (.ref a) u hd ru
  cases ru
  refine str_of_reads (h₀ := s.heap) rd ok.sh (fun z => by rw [ok.nd] at z; cases z) hg (by have := ok.dp; omega) (fun b o e => e) (fun h' u tk hk => ?_) ok.ln
  exact ⟨.str d.shown, H, I.kept (t' := tk) hk, ⟨_, rfl⟩, q⟩
def Smalls (ns : List Int) : Prop := ∀ x ∈ ns, x.natAbs.log2 < 1920
theorem shown_ints : ∀ ns : List Int, Smalls ns → ((PyData.shownAll (ns.map PyData.int)).map (·.length)).sum ≤ 1921 * ns.length ∧ (PyData.shownAll (ns.map PyData.int)).length = ns.length
  | [], _ => ⟨Nat.zero_le _, rfl⟩
  | n :: r, h => by
    have ih := shown_ints r fun x hx => h x (List.mem_cons_of_mem _ hx)
    have h1 : (PyData.shown (.int n)).length ≤ 1921 := by
      rw [PyData.shown]
      exact int_text_len_1921 (h n (List.mem_cons_self ..))
    rw [List.map_cons, PyData.shownAll, List.map_cons, List.sum_cons, List.length_cons, List.length_cons]
    omega
theorem showable_ints : ∀ ns : List Int, Smalls ns → PyData.showableAll (ns.map PyData.int) = true
  | [], _ => rfl
  | n :: r, h => by
    rw [List.map_cons, PyData.showableAll, showable_ints r fun x hx => h x (List.mem_cons_of_mem _ hx), PyData.showable, decide_eq_true (h n (List.mem_cons_self ..))]
    rfl
theorem nodict_ints : ∀ ns : List Int, PyData.hasDictAll (ns.map PyData.int) = false
  | [] => rfl
  | n :: r => by rw [List.map_cons, PyData.hasDictAll, nodict_ints r]; rfl
theorem line24 : (sizeLine : Nat) = 16777216 := by first | exact sizeLine_eq | (rw [sizeLine_eq]; decide)
theorem okd_lst (ns : List Int) (h : Smalls ns) (hl : ns.length ≤ 5000) : Okd (.list (ns.map PyData.int)) where
  sh := by rw [PyData.showable]; exact showable_ints ns h
  nd := by rw [PyData.hasDict]; exact nodict_ints ns
  dp := by rw [PyData.depth]; have := depth_ints ns; omega
  ln := by
    rw [PyData.shown]
    have h1 := listText_len_le (PyData.shownAll (ns.map PyData.int))
    have h2 := shown_ints ns h
    rw [line24]
    omega
/-! ### lists of words as data -/
end Pre

namespace R5
open PySem PySem.Spec PyProof.Rows L2
section
variable {prog : Program} {w : World} {A : Around} {E : Value → Shared → Prop} {s : Shared}
theorem draw_list {it t : Addr} {items : Array Value} (hne : t ≠ it) : ∀ (n i : Nat) (s : Shared) (Q : List Value → Shared → Prop), s.heap.IsListIter it t i → s.heap.IsList t items → i + n ≤ items.size →
    (∀ h', h'.IsListIter it t (i + n) → Heap.SameBut it s.heap h' → Q ((items.toList.drop i).take n) { s with heap := h' }) → wpAny (model prog w) A (draw (.ref it) n) Q E s
  | 0, i, s, Q, hit, _, _, hQ => by
    show wpAny _ _ (pure []) Q E s
    exact wpAny_pure (by simpa using hQ s.heap hit (Heap.SameBut.refl ..))
  | n + 1, i, s, Q, hit, ht, hle, hQ => by
    have hlt : i < items.size := by omega
    show wpAny _ _ (pyNext (.ref it) >>= _) Q E s
    refine wpAny_bind (wpAny_pyNext_list_item hit ht (x := items[i]) (by simp [hlt]) fun h₁ hit₁ hs₁ => ?_)
    refine wpAny_bind (wpAny_holding (draw_list hne n (i + 1) _ _ hit₁ (ht.extBut hs₁.extBut hne) (by omega) fun h₂ hit₂ hs₂ => wpAny_pure ?_))
    have hd : items.toList.drop i = items[i] :: items.toList.drop (i + 1) := by simp [List.drop_eq_getElem_cons, hlt]
    have := hQ h₂ (by rw [show i + (n + 1) = i + 1 + n by omega]; exact hit₂) (hs₁.trans hs₂)
    rw [hd, List.take_succ_cons] at this
    exact this
theorem unpack_list {t : Addr} {items : Array Value} {Q : List Value → Shared → Prop} (hh : A.handled = none) (ht : s.heap.IsList t items)
    (hQ : ∀ h', Heap.ExtBut s.heap.objs.size s.heap h' → Q items.toList { s with heap := h' }) : wpAny (model prog w) A (unpackItems (.ref t) items.size none) Q E s := by
  have hlt : t ≠ s.heap.objs.size := by obtain ⟨o, ho, _⟩ := ht; exact Nat.ne_of_lt (Heap.lt_size ho)
  have hp : ∀ ob : Obj, (s.heap.push ob).IsList t items := fun ob => by
    obtain ⟨o, ho, r⟩ := ht
    exact ⟨o, Heap.get?_push_of_some _ ho, r⟩
  unfold unpackItems
  refine wpAny_bind ?_
  unfold notIterableAtAll
  refine wpAny_bind (wpAny_specialOf ht.typeIs PySem.F.slot_list_iter.lookup ?_)
  refine wpAny_pure ?_
  simp only [Bool.false_eq_true, if_false]
  refine wpAny_bind (wpAny_holding (wpAny_pyIter_list ht ?_))
  refine wpAny_bind (wpAny_holding (draw_list hlt items.size 0 _ _ ⟨_, Heap.get?_push_size _ rfl, rfl, rfl⟩ (hp _) (by omega) fun h₁ hit₁ hs₁ => ?_))
  have hall : List.take items.size (List.drop 0 items.toList) = items.toList := by
    rw [List.drop_zero]; exact List.take_of_length_le (by simp)
  rw [hall]
  rw [if_neg (by simp)]
  have ht₁ : h₁.IsList t items := (hp _).extBut hs₁.extBut hlt
  refine wpAny_bind (wpAny_holding (wpAny_pyNext_list_end hh hit₁ ht₁ (by simp) fun h₂ he₂ => ?_))
  simp only [Option.isSome_none, Bool.false_eq_true, if_false]
  refine wpAny_pure (hQ h₂ fun b o hb e => he₂ b o hb (hs₁.extBut b o hb (Heap.get?_push_of_some _ e)))
end
section
variable {X : Cx} {pos : Pos}
/-- a, b = a list -/
def gTupL (K : PySem.W.Frag) (n : Nat) (t : TGs) : TG := fun v σ H Q => ∃ a xs, v = .ref a ∧ SqL K H a xs ∧ xs.length = n ∧ t xs σ H Q
theorem pg_lst {es : List Expr} {k : Nat} {t : TGs} {n : Nat} (hc : X.calm = true) (h : PGs X es t)
    (hn : (assignEach es X.env).length = n := by rfl) (hst : (assignEach es X.env).findIdx? (·.1) = none := by rfl) : PG X (.Tuple es k pos) (gTupL X.K n t) := by
  intro pins s σ H v u Q I r hw
  obtain ⟨a, xs, e1, hq, hl, hw⟩ := hw
  subst e1
  cases r
  obtain ⟨its, rv, ht, hz⟩ := I.list hq
  rw [assign_Tuple]
  refine wpAny_bind (wpAny_standAt ?_)
  unfold unpack
  rw [show (assignEach es X.env).length = its.toArray.size by simp [hn, ← hl, rv.length], hst]
  refine wpAny_bind (wpAny_holding (unpack_list (I.ok.hd hc) ht.isList fun h' hx => ?_))
  have I1 : Inv X pins σ H { s with heap := h' } := I.kept (t' := s.toks) fun b o e => hx b o (Nat.ne_of_lt (Heap.lt_size e)) e
  exact h pins _ σ H xs _ Q I1 (by simpa using rv) hw
end
end R5

namespace Pre
open PySem PySem.Spec PyProof.Rows L2
/-! ### words as they count -/
theorem back_cons (x : Int) (v : List Int) : back (x :: v) = back v ++ [-x] := by unfold back; rw [List.map_cons, List.reverse_cons]
theorem cancel : ∀ (v u w : List Int), shortOf (u ++ v ++ back v ++ w) = shortOf (u ++ w)
  | [], u, w => by show shortOf (u ++ [] ++ [] ++ w) = _; simp
  | x :: v, u, w => by
    have ih := cancel v (u ++ [x]) ([-x] ++ w)
    have e1 : u ++ (x :: v) ++ back (x :: v) ++ w = u ++ [x] ++ v ++ back v ++ ([-x] ++ w) := by rw [back_cons]; simp
    have e2 : u ++ [x] ++ ([-x] ++ w) = u ++ [x, -x] ++ w := by simp
    rw [e1, ih, e2, short_pair]
theorem cancel' (v u w : List Int) : shortOf (u ++ back v ++ v ++ w) = shortOf (u ++ w) := by
  have := cancel (back v) u w
  rw [back_back] at this
  exact this
theorem c1 (a : List Int) : shortOf (a ++ back a) = [] := by
  have := cancel a [] []
  simpa [shortOf] using this
theorem c2 (a : List Int) : shortOf (back a ++ a) = [] := by
  have := cancel' a [] []
  simpa [shortOf] using this
/-! ### small numbers stay small -/
theorem Smalls.app {xs ys : List Int} (h : Smalls xs) (k : Smalls ys) : Smalls (xs ++ ys) := fun x hx => (List.mem_append.mp hx).elim (h x) (k x)
theorem Smalls.back {xs : List Int} (h : Smalls xs) : Smalls (back xs) := fun x hx => by
  unfold Pre.back at hx
  obtain ⟨y, hy, rfl⟩ := List.mem_map.mp (List.mem_reverse.mp hx)
  rw [Int.natAbs_neg]
  exact h y hy
theorem push_mem {ms : List Int} {x y : Int} (h : y ∈ push ms x) : y ∈ ms ∨ y = x := by
  unfold push at h
  split at h
  · exact .inl ((List.dropLast_sublist ms).subset h)
  · rcases List.mem_append.mp h with h | h
    · exact .inl h
    · exact .inr (List.mem_singleton.mp h)
theorem fold_mem : ∀ (ns ms : List Int) (y : Int), y ∈ ns.foldl push ms → y ∈ ms ∨ y ∈ ns
  | [], ms, y, h => .inl h
  | x :: r, ms, y, h => by
    rcases fold_mem r (push ms x) y h with h | h
    · rcases push_mem h with h | h
      · exact .inl h
      · exact .inr (by rw [h]; exact List.mem_cons_self ..)
    · exact .inr (List.mem_cons_of_mem _ h)
theorem Smalls.short {xs : List Int} (h : Smalls xs) : Smalls (shortOf xs) := fun x hx => by
  rcases fold_mem xs [] x hx with h1 | h1
  · cases h1
  · exact h x h1
theorem Smalls.rep {xs : List Int} {k : Nat} (h : Smalls xs) : Smalls (rep k xs) := fun x hx => by
  obtain ⟨ys, hy, hx⟩ := List.mem_flatten.mp hx
  rw [(List.mem_replicate.mp hy).2] at hx
  exact h x hx
theorem Smalls.repW {xs : List Int} {n : Int} (h : Smalls xs) : Smalls (repW xs n) := by
  unfold Pre.repW
  split
  · exact h.back.rep
  · exact h.rep
theorem Smalls.brack {xs ys : List Int} (h : Smalls xs) (k : Smalls ys) : Smalls (brack xs ys) := ((h.back.app k.back).app h).app k
end Pre

namespace Pre
open PySem PySem.Spec PyProof.Rows L2
/-! ### how many turnwords -/
def dv (i p : Nat) : Bool := (i + 1) % (p + 1) == 0
def sh (t : List Int) (i j : Nat) : List Int := ((List.range j).filter (dv i)).map fun (p : Nat) => ((p : Int) + 1) * t.getD p 0
def nxt (l : Int) (t : List Int) (i : Nat) : Int := (l ^ (i + 1) - (sh t i i).sum) / ((i : Int) + 1)
def tabs (l : Int) (n : Nat) : List Int := (List.range n).foldl (fun t i => t ++ [nxt l t i]) []
/-- how many of that size -/
def hm (l : Int) (n : Nat) : Int := (tabs l n).getD (n - 1) 0
end Pre

namespace Pre
open PySem PySem.Spec PyProof.Rows L2
/-! ### dicts made of pairs -/
/-! ### divisors -/
def dvs (i j : Nat) : List Int := ((List.range j).filter (dv i)).map fun (p : Nat) => (p : Int) + 1
end Pre

namespace Pre
open PySem PySem.Spec PyProof.Rows L2
/-! ### comprehensions of two parts -/
theorem lcG_list {K : PySem.W.Frag} {a : Addr} {xs : List V} {g : TG} {tt : TT} {In : L2.St → Hp → (Hp → Prop) → Prop} {vs : List Nat} {σ : L2.St} {H1 : Hp} {D : Addr} {Qd : Hp → Prop} (Pv : Nat → Hp → Prop) (h0 : Pv 0 (upd H1 D (.lst []))) (hl : ∀ i H, i ≤ xs.length → Pv i H → SqL K H a xs)
    (hs : ∀ i x H, xs[i]? = some x → Pv i H → g x (wipe σ vs) H fun σ2 H2 => wipe σ2 vs = wipe σ vs ∧ tt σ2 H2 fun b H3 => if b = true then In σ2 H3 (Pv (i + 1)) else Pv (i + 1) H3) (hd : ∀ H, Pv xs.length H → Qd H) :
    ∃ W : Nat → Nat → Hp → Prop, (∃ m, W 0 m (upd H1 D (.lst []))) ∧ ∀ i m H, W i m H →
      ((Itl K a).stop i H ∧ Qd H) ∨ ((Itl K a).go i H ∧ ∃ Nx : Hp → Prop, (∀ H', Nx H' → ∃ m', m' < m ∧ W (i + 1) m' H') ∧ ∀ x H', (Itl K a).yld i H x H' → g x (wipe σ vs) H' fun σ2 H2 => wipe σ2 vs = wipe σ vs ∧ tt σ2 H2 fun b H3 => if b = true then In σ2 H3 Nx else Nx H3) := by
  refine ⟨fun i m H => m = xs.length - i ∧ i ≤ xs.length ∧ Pv i H, ⟨xs.length, by simp, Nat.zero_le _, h0⟩, ?_⟩
  rintro i m H ⟨rfl, hi, p⟩
  have q := hl i H hi p
  by_cases hlt : i < xs.length
  · refine .inr ⟨⟨xs, xs[i], q, by simp [hlt]⟩, Pv (i + 1), fun H' p' => ⟨xs.length - (i + 1), by omega, rfl, hlt, p'⟩, fun x H' y => ?_⟩
    obtain ⟨e, y⟩ := y
    subst e
    exact hs i x _ (y xs q) p
  · have e : i = xs.length := by omega
    subst e
    exact .inl ⟨⟨xs, q, Nat.le_refl _⟩, hd H p⟩
theorem in_range {lo : Int} {n : Nat} {g : TG} {tt : TT} {te : TE} {vs : List Nat} {σ : L2.St} {H1 : Hp} {D : Addr} {Nx : Hp → Prop} (Pv : Nat → Hp → Prop) (h0 : Pv 0 H1)
    (hs : ∀ i H, i < n → Pv i H → g (.int (lo + i)) (wipe σ vs) H fun σ2 H2 => wipe σ2 vs = wipe σ vs ∧ tt σ2 H2 fun b H3 =>
      if b = true then te σ2 H3 fun y H4 => ∃ acc, H4 D = some (.lst acc) ∧ acc.length < sizeLine ∧ Pv (i + 1) (upd H4 D (.lst (acc ++ [y]))) else Pv (i + 1) H3) (hd : ∀ H, Pv n H → Nx H) :
    ∃ W1 : Nat → Nat → Hp → Prop, (∃ m, W1 0 m H1) ∧ ∀ j k H, W1 j k H →
      ((Itr lo n).stop j H ∧ Nx H) ∨ ((Itr lo n).go j H ∧ ∃ Nx1 : Hp → Prop, (∀ H', Nx1 H' → ∃ k', k' < k ∧ W1 (j + 1) k' H') ∧ ∀ x H', (Itr lo n).yld j H x H' → g x (wipe σ vs) H' fun σ3 H5 => wipe σ3 vs = wipe σ vs ∧ tt σ3 H5 fun b H6 =>
        if b = true then te σ3 H6 fun y H7 => ∃ acc, H7 D = some (.lst acc) ∧ acc.length < sizeLine ∧ Nx1 (upd H7 D (.lst (acc ++ [y]))) else Nx1 H6) := by
  refine ⟨fun i m H => m = n - i ∧ i ≤ n ∧ Pv i H, ⟨n, by simp, Nat.zero_le _, h0⟩, ?_⟩
  rintro i m H ⟨rfl, hi, p⟩
  by_cases hlt : i < n
  · refine .inr ⟨hlt, Pv (i + 1), fun H' p' => ⟨n - (i + 1), by omega, rfl, hlt, p'⟩, fun x H' y => ?_⟩
    obtain ⟨e, y⟩ := y
    subst e y
    exact hs i _ hlt p
  · have e : i = n := by omega
    subst e
    exact .inl ⟨Nat.le_refl _, hd H p⟩
/-! ### all plain words -/
def ext1 (l : Nat) (w : List Int) : List (List Int) := (List.range l).map fun (x : Nat) => w ++ [1 + (x : Int)]
def pwN (l : Nat) (wss : List (List Int)) : List (List Int) := wss.flatMap (ext1 l)
def pw (l : Nat) : Nat → List (List Int)
  | 0 => [[]]
  | n + 1 => pwN l (pw l n)
theorem ext1_len (l : Nat) (w : List Int) : (ext1 l w).length = l := by unfold ext1; rw [List.length_map, List.length_range]
theorem pwN_len (l : Nat) : ∀ wss : List (List Int), (pwN l wss).length = wss.length * l
  | [] => by simp [pwN]
  | w :: r => by
    have := pwN_len l r
    unfold pwN at *
    rw [List.flatMap_cons, List.length_append, ext1_len, this, List.length_cons, Nat.succ_mul]
    omega
theorem pw_len (l : Nat) : ∀ n, (pw l n).length = l ^ n
  | 0 => rfl
  | n + 1 => by rw [pw, pwN_len, pw_len l n, Nat.pow_succ]
theorem pwN_take (l : Nat) (wss : List (List Int)) (i : Nat) (h : i < wss.length) : pwN l (wss.take (i + 1)) = pwN l (wss.take i) ++ ext1 l wss[i] := by
  unfold pwN
  rw [List.take_succ_eq_append_getElem h, List.flatMap_append]
  simp
theorem ext1_take (w : List Int) (j : Nat) : ext1 (j + 1) w = ext1 j w ++ [w ++ [1 + (j : Int)]] := by
  unfold ext1
  rw [List.range_succ, List.map_append]
  rfl
theorem pw_word {l : Nat} : ∀ {n : Nat} {w : List Int}, w ∈ pw l n → w.length = n ∧ Lets l w
  | 0, w, h => by
    rw [pw, List.mem_singleton] at h
    subst h
    exact ⟨rfl, fun x hx => absurd hx (by simp)⟩
  | n + 1, w, h => by
    rw [pw] at h
    unfold pwN at h
    obtain ⟨u, hu, hw⟩ := List.mem_flatMap.mp h
    unfold ext1 at hw
    obtain ⟨x, hx, rfl⟩ := List.mem_map.mp hw
    have ih := pw_word hu
    have hx2 := List.mem_range.mp hx
    refine ⟨by rw [List.length_append, ih.1]; rfl, ih.2.app fun y hy => ?_⟩
    rw [List.mem_singleton.mp hy]
    omega
/-! ### their texts -/
theorem lenW_rd {K : PySem.W.Frag} {H : Hp} {r : Addr} {wss : List (List Int)} {R : VK} (hr : Ws H r wss) (h : R (.int wss.length) H) : rLen K [V.ref r] H R := by
  obtain ⟨ps, h1, h2⟩ := hr
  exact ⟨r, _, rfl, .inl (SqL.of h1), by rw [List.length_map, h2.len]; exact h⟩
theorem kit_ll {K : PySem.W.Frag} : PySem.W.kitOne K (.type "list") (.type "list") = some true := by
  unfold PySem.W.kitOne; rw [if_pos (by decide)]
theorem Lets.mono {l m : Int} {ns : List Int} (h : Lets l ns) (hl : l ≤ m) : Lets m ns := fun x hx => ⟨(h x hx).1, Int.le_trans (h x hx).2 hl⟩
theorem pow_le {l n : Nat} (h1 : l ≤ 4) (h2 : n ≤ 5) : l ^ n ≤ 1024 := by
  have a : l ^ n ≤ 4 ^ n := Nat.pow_le_pow_left h1 n
  have b : 4 ^ n ≤ 4 ^ 5 := Nat.pow_le_pow_right (by decide) h2
  have c : (4 : Nat) ^ 5 = 1024 := by decide
  omega
def spPW : Sp := fun vs H Q _ => ∃ (l n : Nat), vs = [.int l, .int n] ∧ l ≤ 4 ∧ n ≤ 5 ∧ ∀ (r : Addr) (H' : Hp), H r = none → Ws H' r (pw l n) → Same H H' → Q (.ref r) H'
end Pre

namespace R6
open PySem PySem.Spec PyProof.Rows L2
/-! ### min(words, default=...) of a list of tuples of whole numbers -/
section
variable {prog : Program} {w : World} {A : Around} {R : Result → Shared → Prop} {I : Addr} {fp wr : List Addr} {n : Nat} {P : Nat → Value → Prop} {St : Nat → Heap → Prop} {d : Value} {h0 : Heap} {S : Addr} {bt : Nat → Nat → Bool}
end
section
variable {prog : Program} {w : World} {A : Around} {E : Value → Shared → Prop} {s : Shared} {l : Addr} {its : List Value} {d : Value} {Q : Value → Shared → Prop} {bt : Nat → Nat → Bool}
end
/-! ### the call, by values -/
section
variable {X : Cx} {id : String} {ks : List Str} {r : List V → List V → Hp → VK → Prop} {x : Str} {p pos : Pos} {e : Expr} {es : List Expr} {kws : List Keyword} {t tk : TA}
end
end R6

namespace Pre
open PySem PySem.Spec PyProof.Rows L2
/-! ### the order of words -/
theorem lex_irr : ∀ a : List Int, HT.lexLt a a = false
  | [] => rfl
  | x :: a => by rw [HT.lexLt_cons, if_pos rfl]; exact lex_irr a
/-- not less is passed on -/
theorem lex_le : ∀ {a b c : List Int}, HT.lexLt b a = false → HT.lexLt c b = false → HT.lexLt c a = false
  | [], [], c, _, h => h
  | [], y :: b, [], _, _ => rfl
  | [], y :: b, z :: c, _, _ => rfl
  | x :: a, [], c, h, _ => by rw [HT.lexLt_nil_cons] at h; cases h
  | x :: a, y :: b, [], _, h => by rw [HT.lexLt_nil_cons] at h; cases h
  | x :: a, y :: b, z :: c, h1, h2 => by
    rw [HT.lexLt_cons] at h1 h2 ⊢
    by_cases e : y = x
    · subst e
      rw [if_pos rfl] at h1
      by_cases e2 : z = y
      · subst e2
        rw [if_pos rfl] at h2 ⊢
        exact lex_le h1 h2
      · rw [if_neg e2] at h2 ⊢
        exact h2
    · rw [if_neg e] at h1
      have g1 := of_decide_eq_false h1
      by_cases e2 : z = y
      · subst e2
        rw [if_neg e]
        exact h1
      · rw [if_neg e2] at h2
        have g2 := of_decide_eq_false h2
        rw [if_neg (by omega)]
        exact decide_eq_false (by omega)
theorem lex_asym {a b : List Int} (h : HT.lexLt a b = true) : HT.lexLt b a = false := by
  cases e : HT.lexLt b a with
  | false => rfl
  | true =>
    exfalso
    revert h e
    induction a generalizing b with
    | nil =>
      cases b with
      | nil => intro h; cases h
      | cons y b => intro _ e; cases e
    | cons x a ih =>
      cases b with
      | nil => intro h; cases h
      | cons y b =>
        rw [HT.lexLt_cons, HT.lexLt_cons]
        by_cases e : x = y
        · subst e
          rw [if_pos rfl, if_pos rfl]
          exact ih
        · rw [if_neg e, if_neg (Ne.symm e)]
          intro h1 h2
          have := of_decide_eq_true h1
          have := of_decide_eq_true h2
          omega
/-! ### turns of turns -/
theorem turns_len (ns : List Int) : (turnsOf ns).length = ns.length := by unfold turnsOf; rw [List.length_map, List.length_range]
theorem turns_get (ns : List Int) {i : Nat} (hi : i < ns.length) : (turnsOf ns)[i]? = some (turnAt ns i) := by
  unfold turnsOf
  rw [List.getElem?_map, List.getElem?_range hi]; rfl
/-! ### the first best one -/
end Pre

namespace Pre
open PySem PySem.Spec PyProof.Rows L2
/-! ### more of the order -/
theorem lex_trans {a b c : List Int} (h1 : HT.lexLt a b = true) (h2 : HT.lexLt b c = true) : HT.lexLt a c = true := by
  cases e : HT.lexLt a c with
  | true => rfl
  | false => rw [lex_le (a := b) (b := c) (c := a) (lex_asym h2) e] at h1; cases h1
theorem lex_app (p a b : List Int) : HT.lexLt (p ++ a) (p ++ b) = HT.lexLt a b := by
  induction p with
  | nil => rfl
  | cons x p ih => rw [List.cons_append, List.cons_append, HT.lexLt_cons, if_pos rfl, ih]
theorem lex_nil_r (a : List Int) : HT.lexLt a [] = false := by cases a <;> rfl
theorem lex_nil_l {a : List Int} (h : a ≠ []) : HT.lexLt [] a = true := by
  cases a with
  | nil => exact absurd rfl h
  | cons x a => rfl
theorem lex_pre (a b : List Int) : HT.lexLt (a ++ b) a = false := by
  have := lex_app a b []
  rw [List.append_nil] at this
  rw [this]; exact lex_nil_r b
theorem lex_pre_lt (a : List Int) {b : List Int} (h : b ≠ []) : HT.lexLt a (a ++ b) = true := by
  have := lex_app a [] b
  rw [List.append_nil] at this
  rw [this]; exact lex_nil_l h
/-- less at a place that both have -/
def lexD : List Int → List Int → Bool
  | x :: a, y :: b => if x = y then lexD a b else decide (x < y)
  | _, _ => false
theorem lexD_app : ∀ {a b : List Int}, lexD a b = true → ∀ c d, HT.lexLt (a ++ c) (b ++ d) = true
  | [], [], h, _, _ => by cases h
  | [], y :: b, h, _, _ => by cases h
  | x :: a, [], h, _, _ => by cases h
  | x :: a, y :: b, h, c, d => by
    rw [List.cons_append, List.cons_append, HT.lexLt_cons]
    unfold lexD at h
    by_cases e : x = y
    · rw [if_pos e] at h ⊢; exact lexD_app h c d
    · rw [if_neg e] at h ⊢; exact h
theorem lex_cases : ∀ {a b : List Int}, HT.lexLt a b = true → lexD a b = true ∨ ∃ z, z ≠ [] ∧ b = a ++ z
  | [], [], h => by cases h
  | [], y :: b, _ => .inr ⟨y :: b, by simp, rfl⟩
  | x :: a, [], h => by cases h
  | x :: a, y :: b, h => by
    rw [HT.lexLt_cons] at h
    unfold lexD
    by_cases e : x = y
    · rw [if_pos e] at h ⊢
      rcases lex_cases h with g | ⟨z, hz, g⟩
      · exact .inl g
      · exact .inr ⟨z, hz, by rw [g, e]; rfl⟩
    · rw [if_neg e] at h ⊢; exact .inl h
theorem lexD_of {a b : List Int} (h : HT.lexLt a b = true) (hl : b.length ≤ a.length) : lexD a b = true := by
  rcases lex_cases h with g | ⟨z, hz, rfl⟩
  · exact g
  · rw [List.length_append] at hl
    have : 0 < z.length := List.length_pos_iff.mpr hz
    omega
theorem lexD_head : ∀ {p v x u : List Int}, p.length = v.length → HT.lexLt (p ++ x) (v ++ u) = true → p ≠ v → lexD p v = true
  | [], [], _, _, _, _, h => absurd rfl h
  | [], y :: v, _, _, h, _, _ => by cases h
  | x' :: p, [], _, _, h, _, _ => by cases h
  | x' :: p, y :: v, x, u, hl, h, hn => by
    rw [List.cons_append, List.cons_append, HT.lexLt_cons] at h
    unfold lexD
    by_cases e : x' = y
    · rw [if_pos e] at h ⊢
      exact lexD_head (by simpa using hl) h fun z => hn (by rw [e, z])
    · rw [if_neg e] at h ⊢; exact h
/-! ### turnwords by their ends -/
def Ly (w : List Int) : Prop := w ≠ [] ∧ ∀ k, 0 < k → k < w.length → HT.lexLt w (w.drop k) = true
theorem tw_turns (w : List Int) : tw w = true ↔ w ≠ [] ∧ ∀ k, 0 < k → k < w.length → HT.lexLt w (turnAt w k) = true := by
  unfold tw
  rw [Bool.and_eq_true, Bool.not_eq_true', List.all_eq_true]
  constructor
  · rintro ⟨h1, h2⟩
    refine ⟨(by intro e; rw [e] at h1; cases h1), fun k hk hk2 => h2 _ ?_⟩
    refine List.mem_of_getElem? (i := k - 1) ?_
    rw [List.getElem?_drop, show 1 + (k - 1) = k by omega, turns_get w hk2]
  · rintro ⟨h1, h2⟩
    refine ⟨by cases w with | nil => exact absurd rfl h1 | cons x w => rfl, fun t ht => ?_⟩
    obtain ⟨i, hi, e⟩ := List.mem_iff_getElem.mp ht
    rw [List.getElem_drop] at e
    rw [List.length_drop, turns_len] at hi
    have := turns_get w (i := 1 + i) (by omega)
    rw [List.getElem?_eq_getElem (by rw [turns_len]; omega), e] at this
    cases this
    exact h2 _ (by omega) (by omega)
theorem Ly.turn {w : List Int} (h : Ly w) : tw w = true := by
  refine (tw_turns w).mpr ⟨h.1, fun k hk hk2 => ?_⟩
  have d := lexD_of (h.2 k hk hk2) (by rw [List.length_drop]; omega)
  have := lexD_app d [] (w.take k)
  rw [List.append_nil] at this
  exact this
theorem Ly.of_turn {w : List Int} (h : tw w = true) : Ly w := by
  obtain ⟨h1, h2⟩ := (tw_turns w).mp h
  refine ⟨h1, fun k hk hk2 => ?_⟩
  have hv : (w.drop k).length = w.length - k := List.length_drop ..
  have hu : (w.take k).length = k := by rw [List.length_take]; omega
  have e0 : w = w.take k ++ w.drop k := (List.take_append_drop k w).symm
  have r1 : HT.lexLt w (w.drop k ++ w.take k) = true := h2 k hk hk2
  have r2 : HT.lexLt w (w.drop (w.length - k) ++ w.take (w.length - k)) = true := h2 (w.length - k) (by omega) (by omega)
  have e1 : w = w.take (w.length - k) ++ w.drop (w.length - k) := (List.take_append_drop _ w).symm
  have hp : (w.take (w.length - k)).length = w.length - k := by rw [List.length_take]; omega
  have hx : (w.drop (w.length - k)).length = k := by rw [List.length_drop]; omega
  generalize w.drop k = v at *
  generalize w.take k = u at *
  generalize w.take (w.length - k) = p at *
  generalize w.drop (w.length - k) = x at *
  by_cases e : p = v
  · exfalso
    subst e
    have g1 : HT.lexLt x u = true := by
      rw [e1] at r1
      rwa [lex_app] at r1
    have g2 : HT.lexLt (u ++ p) (x ++ p) = true := by rwa [← e0]
    by_cases e2 : u = x
    · subst e2; rw [lex_irr] at g1; cases g1
    · have d := lexD_head (by omega) g2 e2
      have g3 := lexD_app d [] []
      rw [List.append_nil, List.append_nil] at g3
      rw [lex_asym g3] at g1; cases g1
  · have r1' : HT.lexLt (p ++ x) (v ++ u) = true := by rwa [← e1]
    have d := lexD_head (by omega) r1' e
    have := lexD_app d x []
    rw [List.append_nil, ← e1] at this
    exact this
theorem tw_ly (w : List Int) : tw w = true ↔ Ly w := ⟨Ly.of_turn, Ly.turn⟩
theorem Ly.pos {w : List Int} (h : Ly w) : 0 < w.length := List.length_pos_iff.mpr h.1
theorem Ly.one (x : Int) : Ly [x] := ⟨by simp, fun k h1 h2 => by simp at h2; omega⟩
/-- two turnwords, the first less than the second, are one -/
theorem Ly.app {u v : List Int} (hu : Ly u) (hv : Ly v) (h : HT.lexLt u v = true) : Ly (u ++ v) := by
  have pu := hu.pos
  have pv := hv.pos
  refine ⟨fun e => hu.1 (List.append_eq_nil_iff.mp e).1, fun k hk hk2 => ?_⟩
  rw [List.length_append] at hk2
  have base : HT.lexLt (u ++ v) v = true := by
    rcases lex_cases h with d | ⟨z, hz, e⟩
    · have := lexD_app d v []
      rwa [List.append_nil] at this
    · have pz : 0 < z.length := List.length_pos_iff.mpr hz
      have el : v.length = u.length + z.length := by rw [e, List.length_append]
      have := hv.2 u.length pu (by omega)
      have ez : v.drop u.length = z := by rw [e, List.drop_left]
      rw [ez] at this
      have g := lex_app u v z
      rw [← e, this] at g
      exact g
  by_cases c : k < u.length
  · rw [List.drop_append_of_le_length (by omega)]
    exact lexD_app (lexD_of (hu.2 k hk c) (by rw [List.length_drop]; omega)) v v
  · rw [List.drop_append, List.drop_eq_nil_of_le (by omega), List.nil_append]
    by_cases c2 : k - u.length = 0
    · rw [c2]; exact base
    · exact lex_trans base (hv.2 _ (by omega) (by omega))
/-! ### falling turnwords -/
def Fal (fs : List (List Int)) : Prop := (∀ f ∈ fs, Ly f) ∧ fs.Pairwise fun a b => HT.lexLt a b = false
theorem fal_ends : ∀ (fs : List (List Int)) (l : List Int), Fal (fs ++ [l]) → ∀ k, k < fs.flatten.length → HT.lexLt ((fs ++ [l]).flatten.drop k) l = false
  | [], l, _, k, h => by simp at h
  | f :: r, l, F, k, h => by
    have hf : Ly f := F.1 f (List.mem_cons_self ..)
    have hp := F.2
    rw [List.cons_append, List.pairwise_cons] at hp
    rw [List.cons_append, List.flatten_cons]
    rw [List.flatten_cons, List.length_append] at h
    by_cases c : k < f.length
    · rw [List.drop_append_of_le_length (by omega)]
      have h1 : HT.lexLt f l = false := hp.1 l (List.mem_append_right _ (List.mem_singleton.mpr rfl))
      have h2 : HT.lexLt (f.drop k) f = false := by
        by_cases z : k = 0
        · subst z; exact lex_irr f
        · exact lex_asym (hf.2 k (by omega) c)
      exact lex_le (lex_le h1 h2) (lex_pre _ _)
    · rw [List.drop_append, List.drop_eq_nil_of_le (by omega), List.nil_append]
      exact fal_ends r l ⟨fun g hg => F.1 g (List.mem_cons_of_mem _ hg), hp.2⟩ _ (by omega)
/-- what halves asks -/
structure Halved (w u l : List Int) : Prop where
  eq : w = u ++ l
  one : Ly u
  two : Ly l
  lt : HT.lexLt u l = true
  most : ∀ k, 1 ≤ k → k < u.length → tw (w.drop k) = false
theorem halved {w : List Int} {x : Int} {fs : List (List Int)} {l : List Int} (hw : Ly w) (e : w = x :: (fs ++ [l]).flatten) (F : Fal (fs ++ [l])) : Halved w (x :: fs.flatten) l := by
  have hl : Ly l := F.1 l (List.mem_append_right _ (List.mem_singleton.mpr rfl))
  have pl := hl.pos
  have e2 : w = (x :: fs.flatten) ++ l := by rw [e, List.flatten_append]; simp
  have G : ∀ k, 1 ≤ k → k < (x :: fs.flatten).length → HT.lexLt (w.drop k) l = false := by
    intro k hk hk2
    rw [List.length_cons] at hk2
    have := fal_ends fs l F (k - 1) (by omega)
    rw [e, show k = (k - 1) + 1 by omega, List.drop_succ_cons]
    exact this
  generalize hu : x :: fs.flatten = u at *
  have pu : 0 < u.length := by rw [← hu]; simp
  have lw : w.length = u.length + l.length := by rw [e2, List.length_append]
  have wl : HT.lexLt w l = true := by
    have := hw.2 u.length pu (by omega)
    rwa [show w.drop u.length = l by rw [e2, List.drop_left]] at this
  refine ⟨e2, ⟨(by intro z; rw [z] at pu; cases pu), fun k hk hk2 => ?_⟩, hl, lex_trans (by rw [e2]; exact lex_pre_lt u hl.1) wl, fun k hk hk2 => ?_⟩
  · have h := hw.2 k hk (by omega)
    rw [show w.drop k = u.drop k ++ l by rw [e2, List.drop_append_of_le_length (by omega)]] at h
    have lt' : (u.drop k).length = u.length - k := List.length_drop ..
    have eu : u = u.take (u.length - k) ++ u.drop (u.length - k) := (List.take_append_drop _ u).symm
    have lp : (u.take (u.length - k)).length = u.length - k := by rw [List.length_take]; omega
    by_cases c : u.take (u.length - k) = u.drop k
    · exfalso
      have g := G (u.length - k) (by omega) (by omega)
      rw [e2, List.drop_append_of_le_length (by omega)] at g
      rw [e2] at h
      have h' : HT.lexLt (u.drop k ++ (u.drop (u.length - k) ++ l)) (u.drop k ++ l) = true := by
        rw [← List.append_assoc]
        rw [← c, ← eu, c]; exact h
      rw [lex_app, g] at h'
      cases h'
    · have h' : HT.lexLt (u.take (u.length - k) ++ (u.drop (u.length - k) ++ l)) (u.drop k ++ l) = true := by
        rw [← List.append_assoc, ← eu, ← e2]; exact h
      have d := lexD_head (by omega) h' c
      have := lexD_app d (u.drop (u.length - k)) []
      rwa [List.append_nil, ← eu] at this
  · cases c : tw (w.drop k) with
    | false => rfl
    | true =>
      exfalso
      have hy := Ly.of_turn c
      have g := G k hk hk2
      have := hy.2 (u.length - k) (by omega) (by rw [List.length_drop]; omega)
      rw [List.drop_drop, show k + (u.length - k) = u.length by omega, show w.drop u.length = l by rw [e2, List.drop_left], g] at this
      cases this
/-! ### words that are some word repeated -/
end Pre

namespace Pre
open PySem PySem.Spec PyProof.Rows L2
def spCut : Sp := fun vs H Q _ => ∃ (a : Addr) (ns : List Int), vs = [.ref a] ∧ Wd H a ns ∧ ns.length ≤ 1000 ∧
  ∀ (r : Addr) (H' : Hp) (wss : List (List Int)), H r = none → Fal wss → wss.flatten = ns → Ws H' r wss → Same H H' → Q (.ref r) H'
def spHalves : Sp := fun vs H Q _ => ∃ (a : Addr) (ns : List Int), vs = [.ref a] ∧ Wd H a ns ∧ Ly ns ∧ 2 ≤ ns.length ∧ ns.length ≤ 1000 ∧
  ∀ (p t1 t2 : Addr) (H' : Hp) (u l : List Int), Halved ns u l → H' p = some (.tup [.ref t1, .ref t2]) → WT H' t1 u → WT H' t2 l → Same H H' → Q (.ref p) H'
end Pre
namespace Pre
open PySem PySem.Spec PyProof.Rows L2
theorem snoc_cases {α : Type} (l : List α) : l = [] ∨ ∃ r x, l = r ++ [x] := by
  induction l with
  | nil => exact .inl rfl
  | cons a l ih =>
    rcases ih with rfl | ⟨r, x, rfl⟩
    · exact .inr ⟨[], a, rfl⟩
    · exact .inr ⟨a :: r, x, rfl⟩
theorem WsAt.snoc {H : Hp} : ∀ {ps : List Addr} {p : Addr} {wss : List (List Int)}, WsAt H (ps ++ [p]) wss → ∃ vss f, wss = vss ++ [f] ∧ WsAt H ps vss ∧ WT H p f
  | [], p, wss, h => by
    cases h with
    | cons r t => cases t with | nil => exact ⟨[], _, rfl, .nil, r⟩
  | q :: ps, p, wss, h => by
    cases h with
    | cons r t =>
      obtain ⟨vss, f, e, h1, h2⟩ := WsAt.snoc (ps := ps) t
      exact ⟨_ :: vss, f, by rw [e]; rfl, .cons r h1, h2⟩
theorem Fal.init {vss : List (List Int)} {f : List Int} (F : Fal (vss ++ [f])) : Fal vss ∧ Ly f :=
  ⟨⟨fun g hg => F.1 g (List.mem_append_left _ hg), (List.pairwise_append.mp F.2).1⟩, F.1 f (List.mem_append_right _ (List.mem_singleton.mpr rfl))⟩
theorem Fal.snoc {vss : List (List Int)} {f w : List Int} (F : Fal (vss ++ [f])) (hw : Ly w) (h : HT.lexLt f w = false) : Fal (vss ++ [f] ++ [w]) := by
  refine ⟨fun g hg => ?_, List.pairwise_append.mpr ⟨F.2, List.pairwise_singleton .., fun a ha b hb => ?_⟩⟩
  · rcases List.mem_append.mp hg with hg | hg
    · exact F.1 g hg
    · rw [List.mem_singleton.mp hg]; exact hw
  · rw [List.mem_singleton.mp hb]
    rcases List.mem_append.mp ha with ha | ha
    · exact lex_le h ((List.pairwise_append.mp F.2).2.2 a ha f (List.mem_singleton.mpr rfl))
    · rw [List.mem_singleton.mp ha]; exact h
theorem Fal.one {w : List Int} (hw : Ly w) : Fal [w] := ⟨fun g hg => by rw [List.mem_singleton.mp hg]; exact hw, List.pairwise_singleton ..⟩
theorem Fal.len : ∀ {wss : List (List Int)}, Fal wss → wss.length ≤ wss.flatten.length
  | [], _ => Nat.le_refl _
  | f :: r, F => by
    have h := (F.1 f (List.mem_cons_self ..)).pos
    have ih := Fal.len (wss := r) ⟨fun g hg => F.1 g (List.mem_cons_of_mem _ hg), (List.pairwise_cons.mp F.2).2⟩
    rw [List.length_cons, List.flatten_cons, List.length_append]; omega
end Pre

namespace R7
open PySem PySem.Spec PyProof.Rows L2
/-! ### sorted(words, reverse=True) of a list of tuples of whole numbers -/
section
variable {prog : Program} {w : World} {A : Around} {E : Value → Shared → Prop} {s : Shared}
end
/-! ### the keys of words -/
end R7

namespace Pre
open PySem PySem.Spec PyProof.Rows L2
/-! ### one way to cut -/
/-! ### lists of words compared -/
/-! ### zip in a comprehension -/
end Pre

namespace Pre
open PySem PySem.Spec PyProof.Rows L2
/-! ### least turns are a turnword repeated -/
theorem Fal.rep {r : List Int} (h : Ly r) : ∀ m, Fal (List.replicate m r)
  | 0 => ⟨fun _ h => absurd h (by simp), .nil⟩
  | m + 1 => by
    have ih := Fal.rep h m
    refine ⟨fun f hf => by rw [List.eq_of_mem_replicate hf]; exact h, ?_⟩
    rw [List.replicate_succ, List.pairwise_cons]
    exact ⟨fun a ha => by rw [List.eq_of_mem_replicate ha]; exact lex_irr r, ih.2⟩
end Pre

/-! dict comprehensions: the layer's list comprehension, with a store in the place of the append -/
namespace L2
open PySem PySem.Spec PyProof.Rows
section
variable {X : Cx} {pins : List (Addr × Obj)} {σ : St} {H : Hp} {s : Shared} {a : Addr} {y v : V} {u r : Value} {A : Around} {E : Value → Shared → Prop}
/-- the store of a display or a comprehension -/
theorem d_dictSet {H' : Hp} {Q : Unit → Shared → Prop} (hu : A.units + 1 < cLine) (I : Inv X pins σ H s) (g : DPut H a y v H') (ry : RelV y u) (rv : RelV v r) (h : ∀ s', Inv X pins σ H' s' → Q () s') :
    wpAny (model X.prog X.w) A (dictSet a u r) Q E s := by
  rcases g with ⟨kvs, k, e, ey, l, eH⟩ | ⟨kvs, k, b, e, ey, eb, l, eH⟩
  · subst ey eH
    obtain ⟨z, hd, vs, rel, dd⟩ := dk_of I.hok e
    have hz : vs.length ≤ sizeLine := by rw [← rel.length]; exact z
    have hl : (putK kvs k v).length ≤ sizeLine := by have := length_putK kvs k v; omega
    refine wpAny_dictSet_pairs (hsz := hz) (kV_is ry) dd fun h' dd' hs => h _ ?_
    have he : ∃ q, h'.get? a = some q := let ⟨q, _, _, hq, _⟩ := dd'; ⟨q, hq⟩
    exact d_write I (by rw [e]; exact True.intro) hs he (dk_new hl hd (rel.put k rv) dd')
  · subst ey eH
    cases (show u = Value.ref b from ry)
    obtain ⟨z, hd, xs, rel, dd⟩ := dt_of I.hok e
    have hz : xs.length ≤ sizeLine := by rw [← Paired.length rel]; exact z
    have hl : (putK kvs k v).length ≤ sizeLine := by have := length_putK kvs k v; omega
    refine wpAny_dictSet_heap (hsz := hz) (show A.units < cLine from Nat.lt_of_succ_lt hu) (key_of I.hok eb) dd fun h' dd' hs => h _ ?_
    obtain ⟨q, es, ep, hq, h2, h3, h4, _, h5⟩ := dd'
    refine d_write I (by rw [e]; exact True.intro) hs ⟨q, hq⟩ ⟨hl, hd, _, (rel.put k eb rv).keeps fun c ys ec => ?_, q, es, ep, hq, h2, h3, h4, h5⟩
    rw [upd_ne (ne_of ec e (fun z => nomatch z))]
    exact ec
end

theorem compLoopD {prog : Program} {w : World} {A : Around} {R : Result → Shared → Prop} {s : Shared} {kx vx target iter : Expr} {ifs : List Expr} {scope : Scope} {pos : Pos} {it : Value} {D : Addr} {env : Env} (I : Nat → Shared → Prop)
    (turn : ∀ n s, I n s → wpAny (model prog w) A (pyNext it) (fun r s₁ => match r with
      | none => R (.ok .next) s₁
      | some v => wpAny (model prog w) A (letOwnedTupleGo target it v) (fun _ s₁' => wpAny (model prog w) A (assign target env v) (fun _ s₂ =>
          wpAny (model prog w) A (forIn ifs true fun c r => if r = true then do let ok ← isTrue c env (eval c env); pure (ForInStep.yield ok) else pure (ForInStep.yield r)) (fun ok s₃ =>
            if ok = true then wpAny (model prog w) A (eval kx env) (fun kv s₄ => wpAny (model prog w) A (eval vx env) (fun vv s₅ =>
              wpAny (model prog w) A (dictSet D kv vv) (fun _ s₆ => ∃ m, m < n ∧ I m s₆) (notedBy (model prog w) A env fun e s' => R (.error e) s') s₅) (notedBy (model prog w) A env fun e s' => R (.error e) s') s₄) (notedBy (model prog w) A env fun e s' => R (.error e) s') s₃
            else ∃ m, m < n ∧ I m s₃) (notedBy (model prog w) A env fun e s' => R (.error e) s') s₂) (notedBy (model prog w) A env fun e s' => R (.error e) s') s₁') (notedBy (model prog w) A env fun e s' => R (.error e) s') s₁) (notedBy (model prog w) A env fun e s' => R (.error e) s') s)
    (n : Nat) (h : I n s) :
    codeAny (model prog w) A (.compLoop (.DictComp kx vx [⟨target, iter, ifs, 0⟩] scope pos) 0 it (.ref D) env) R s := by
  refine codeAny_loop rfl I (fun n s hI => ?_) n h
  show wpAny _ A ((compTurn (.DictComp kx vx [⟨target, iter, ifs, 0⟩] scope pos) 0 it (.ref D) env).onRaise (fun x => do noteFrame x env; theTreesLotGoes x)) _ _ s
  refine wpAny_noted ?_
  rw [compTurn_dict]
  refine wpAny_bind (wpAny_standAt (wpAny_bind (wpAny_mono (turn n s hI) (fun r s₁ h₁ => ?_) fun _ _ h' => h')))
  cases r with
  | none => exact wpAny_pure h₁
  | some v =>
    refine wpAny_bind (wpAny_mono h₁ (fun _ s₁' h₁' => ?_) fun _ _ h' => h')
    refine wpAny_bind (wpAny_mono h₁' (fun _ s₂ h₂ => wpAny_bind (wpAny_mono h₂ (fun ok s₃ h₃ => ?_) fun _ _ h' => h')) fun _ _ h' => h')
    cases ok with
    | false => exact wpAny_pure ⟨rfl, h₃⟩
    | true =>
      exact wpAny_bind (wpAny_bind (wpAny_mono h₃ (fun kv s₄ h₄ => wpAny_bind (wpAny_holding (wpAny_mono h₄ (fun vv s₅ h₅ => wpAny_bind (wpAny_standAt (wpAny_holding (wpAny_mono h₅ (fun _ s₆ h₆ => wpAny_pure ⟨rfl, h₆⟩) fun _ _ h' => h')))) fun _ _ h' => h'))) fun _ _ h' => h'))

section
variable {X : Cx}
/-- [elt for target in iter if ..]: D the new list; W by the turn and a measure, Nx what a turn is to reach -/
def tDc (o0 : HO) (wi : TI) (g : TG) (tt : TT) (tk tv : TE) (vs : List Nat) : TE := fun σ H Q => wi σ H fun J H1 => ∀ D, H1 D = none → ∃ W : Nat → Nat → Hp → Prop, (∃ m, W 0 m (upd H1 D o0)) ∧ ∀ i m H, W i m H →
  (J.stop i H ∧ Q (.ref D) H) ∨ (J.go i H ∧ ∃ Nx : Hp → Prop, (∀ H', Nx H' → ∃ m', m' < m ∧ W (i + 1) m' H') ∧ ∀ x H', J.yld i H x H' → g x (wipe σ vs) H' fun σ2 H2 => wipe σ2 vs = wipe σ vs ∧ tt σ2 H2 fun b H3 =>
    if b = true then tk σ2 H3 fun y H4 => tv σ2 H4 fun v H5 => ∃ H6, DPut H5 D y v H6 ∧ Nx H6 else Nx H3)
theorem dc_core {pins : List (Addr × Obj)} {s : Shared} {σ : St} {H : Hp} {Q : VK} {kx vx tg iter : Expr} {o0 : HO} {ifs : List Expr} {scope : Scope} {own : List (Str × Nat)} {pos pos' : Pos} {wi : TI} {g : TG} {tt : TT} {tk tv : TE} {use : Option (Value → Sem Unit)} {Qf : Value → Shared → Prop}
    (ho0 : o0 = .dK [] ∨ o0 = .dT []) (hu : X.A.units + 1 < cLine) (hc : X.calm = true) (hN : X.N.Nodup) (I : Inv X pins σ H s) (hi : PI X tg iter wi) (ok : BlkOk X.N X.env.scope scope own)
    (hg : ∀ (s : Shared) (H : Hp) (C : Addr) (cl : List (Str × Addr)) (fp : List Addr), PG (X.blk s H scope (compEnvC scope cl C X.env) fp) tg g) (ht : ∀ (s : Shared) (H : Hp) (C : Addr) (cl : List (Str × Addr)) (fp : List Addr), PTs (X.blk s H scope (compEnvC scope cl C X.env) fp) ifs tt)
    (he : ∀ (s : Shared) (H : Hp) (C : Addr) (cl : List (Str × Addr)) (fp : List Addr), PE (X.blk s H scope (compEnvC scope cl C X.env) fp) kx tk) (hev : ∀ (s : Shared) (H : Hp) (C : Addr) (cl : List (Str × Addr)) (fp : List Addr), PE (X.blk s H scope (compEnvC scope cl C X.env) fp) vx tv) (hs : ∀ x, foldedSetIterable iter X.env x = pure x)
    (h : tDc o0 wi g tt tk tv (own.map (·.2)) σ H Q)
    (hRR : ∀ D C s' m H', Inv X pins σ H' s' → Q (.ref D) H' → s'.heap.Ns C m → FpOk X pins H' C → compPost (model X.prog X.w) X.A X.xe use Qf (.ref D) C (.ok .next) s') :
    wpAny (model X.prog X.w) X.A (comprehension (.DictComp kx vx [⟨tg, iter, ifs, 0⟩] scope pos) scope X.env pos' newDict false (eval iter X.env) use) Qf X.xe s := by
  have hfree : ∀ y ∈ scope.names, y.2 = .free → ∃ c, X.env.cells.lookup y.1 = some c := fun y hy e => by
    rcases ok.free y hy e with k | k
    · exact I.ok.has _ (.inl k)
    · exact I.ok.has _ (.inr k)
  refine wpAny_comprehension_free (use := use) rfl hs (closure_ok hfree) ok.kind (fun y hy e => by rw [ok.uniq y hy, e])
    (thn (hi pins s σ H _ I h) fun xv s1 hx => thn hx fun itv s2 h2 => ?_)
  obtain ⟨it, fp, tn, J, H2, e, I2, T, st2, f2, q⟩ := h2
  subst e
  refine wpAny_newObj_type (newEnv_comp ?_)
  generalize hD : s2.heap.objs.size = D
  have hDn : H2 D = none := I2.hok.fresh (Nat.le_of_eq hD)
  obtain ⟨W, ⟨m0, w0⟩, turn⟩ := q D hDn
  -- the new list
  generalize hs3 : ({ s2 with heap := s2.heap.push { cls := .type "dict", data := .dict #[] } } : Shared) = s3
  have I3 : Inv X pins σ (upd H2 D o0) s3 := by
    rw [← hs3]
    refine I2.laid (t' := s2.toks) (fun b o e => Heap.get?_push_of_some _ e) (Nat.le_of_eq hD) ?_
    rw [← hD]
    rcases ho0 with z | z
    · rw [z]; exact dk_empty s2.heap I2.big
    · rw [z]; exact dt_empty s2.heap I2.big
  have h3 : s3.heap = s2.heap.push { cls := .type "dict", data := .dict #[] } := by rw [← hs3]
  have sz : ∀ b ∈ fp, b < s2.heap.objs.size := fun b hb => by
    obtain ⟨o, e, _⟩ := T.obj _ _ st2 b hb
    exact Heap.lt_size e
  have f3 : ∀ b ∈ fp, FpOk X pins (upd H2 D o0) b ∧ b < s3.heap.objs.size := fun b hb => by
    have hlt := sz b hb
    refine ⟨⟨?_, (f2 b hb).2⟩, by rw [h3, Heap.size_push]; exact Nat.lt_succ_of_lt hlt⟩
    rw [upd_ne (by rw [← hD]; exact Nat.ne_of_lt hlt)]
    exact (f2 b hb).1
  have st3 : tn 0 s3.heap := T.keep _ _ _ st2 fun b _ o e => by rw [h3]; exact Heap.get?_push_of_some _ e
  have I4 := block_start I3 ok hN f3
  have pg := hg s3 (upd H2 D o0) s3.heap.objs.size (cellsFrom (s3.heap.objs.size + 1) scope.names (cloFrom X.env.cells scope.names [])) fp
  have pt := ht s3 (upd H2 D o0) s3.heap.objs.size (cellsFrom (s3.heap.objs.size + 1) scope.names (cloFrom X.env.cells scope.names [])) fp
  have pe2 := hev s3 (upd H2 D o0) s3.heap.objs.size (cellsFrom (s3.heap.objs.size + 1) scope.names (cloFrom X.env.cells scope.names [])) fp
  have pe := he s3 (upd H2 D o0) s3.heap.objs.size (cellsFrom (s3.heap.objs.size + 1) scope.names (cloFrom X.env.cells scope.names [])) fp
  show codeAny _ _ (.compStart (.DictComp kx vx [⟨tg, iter, ifs, 0⟩] scope pos) 0 (.ref it) (.ref D) (compEnvC scope (cellsFrom (s3.heap.objs.size + 1) scope.names (cloFrom X.env.cells scope.names [])) s3.heap.objs.size X.env)) (compPost (model X.prog X.w) X.A X.xe use Qf (.ref D) s3.heap.objs.size) { s3 with heap := pushCells (s3.heap.push { cls := .type "dict", data := .dict #[] }) scope.names }
  have nfp : ∀ b ∈ fp, (upd H2 D o0) b = none := fun b hb => (f3 b hb).1.1
  generalize hce : compEnvC scope (cellsFrom (s3.heap.objs.size + 1) scope.names (cloFrom X.env.cells scope.names [])) s3.heap.objs.size X.env = ce at I4 pg pt pe pe2 ⊢
  have cL : ce.locals = s3.heap.objs.size := by subst hce; rfl
  generalize hH3 : upd H2 D o0 = H3 at I3 I4 pg pt pe pe2 w0 nfp f3
  generalize hs4 : ({ s3 with heap := pushCells (s3.heap.push { cls := .type "dict", data := .dict #[] }) scope.names } : Shared) = s4 at I4 ⊢
  have st4 : tn 0 s4.heap := T.keep _ _ _ st3 fun b _ o e => by rw [← hs4]; exact pushCells_keeps _ _ _ _ (Heap.get?_push_of_some _ e)
  have stat : ∀ {σ' : St} {H' : Hp} {s' : Shared}, Inv (X.blk s3 H3 scope ce fp) [] σ' H' s' → (∀ b ∈ fp, H' b = none) → ∀ b ∈ fp, FpOk (X.blk s3 H3 scope ce fp) [] H' b := fun {σ' H' s'} I' hn b hb =>
    ⟨hn b hb, (I'.ok.exf b hb).1, I'.ok.exfs b hb, .inl hb, fun x c e => (I'.ok.exf b hb).2 x c e, fun p hp => absurd (show p ∈ ([] : List (Addr × Obj)) ++ [] from hp) (by simp)⟩
  have loop : codeAny (model X.prog X.w) X.A (.compLoop (.DictComp kx vx [⟨tg, iter, ifs, 0⟩] scope pos) 0 (.ref it) (.ref D) ce) (compPost (model X.prog X.w) X.A X.xe use Qf (.ref D) s3.heap.objs.size) s4 := by
    refine compLoopD (fun n s' => ∃ i H', Inv (X.blk s3 H3 scope ce fp) [] (wipe σ (own.map (·.2))) H' s' ∧ tn i s'.heap ∧ (∀ b ∈ fp, H' b = none) ∧ W i n H') ?_ m0 ⟨0, H3, I4, st4, nfp, w0⟩
    rintro n s5 ⟨i, H5, I5, st5, n5, w5⟩
    rcases turn i n H5 w5 with ⟨stop, qq⟩ | ⟨go, Nx, hNx, step⟩
    · have td := T.done (X.blk s3 H3 scope ce fp) rfl rfl rfl hc i [] s5 _ H5 (fun _ _ => False) I5 (stat I5 n5) st5 stop
      refine thnF td fun r s6 ⟨hr, I6⟩ => ?_
      subst hr
      -- back in the def's context
      have I7 : Inv X pins σ H5 s6 := I3.call' (ch := fp) I6.os I6.base I6.hok I6.bare fun b hb => ⟨(f3 b hb).1.2.2.2.1, (f3 b hb).1.2.1, (f3 b hb).1.2.2.2.2.1, (f3 b hb).1.2.2.2.2.2⟩
      have nC : H5 s3.heap.objs.size = none := by
        have z : H5 ce.locals = none := I6.free
        rw [cL] at z
        exact z
      obtain ⟨m, hn, _⟩ := I6.loc
      have hn : s6.heap.Ns ce.locals m := hn
      rw [cL] at hn
      exact hRR D s3.heap.objs.size s6 m H5 I7 qq hn (I3.fpOk (Nat.le_refl _) nC)
    · have ti := T.item (X.blk s3 H3 scope ce fp) rfl rfl rfl hc i [] s5 _ H5 (fun _ _ => False) I5 (stat I5 n5) st5 go
      refine thnF ti fun r s6 ⟨u, hr, h6⟩ => ?_
      subst hr
      refine thnF h6 fun _ s7 ⟨x, H7, I7, r7, y7, st7, n7⟩ => ?_
      have I7' := I7.pinned (stat I7 n7) (T.obj _ _ st7)
      refine thnF (pg _ s7 _ H7 x u _ I7' r7 (step x H7 y7)) fun _ s8 ⟨σ8, H8, I8, hw8, q8⟩ => ?_
      refine thnF (pt _ s8 σ8 H8 _ I8 q8) fun b s9 ⟨H9, I9, q9⟩ => ?_
      -- the turn's end
      have fin : ∀ {s' : Shared} {H' : Hp}, Inv (X.blk s3 H3 scope ce fp) ([] ++ pinsAt fp s7.heap) σ8 H' s' → Nx H' → ∃ m, m < n ∧ ∃ i H', Inv (X.blk s3 H3 scope ce fp) [] (wipe σ (own.map (·.2))) H' s' ∧ tn i s'.heap ∧ (∀ b ∈ fp, H' b = none) ∧ W i m H' := fun {s' H'} I' nx => by
        obtain ⟨m', hm, w'⟩ := hNx H' nx
        have pin' : ∀ b ∈ fp, ∀ o, s7.heap.get? b = some o → s'.heap.get? b = some o ∧ H' b = none := fun b hb o e =>
          let z := I'.pin (b, o) (List.mem_append_right _ (List.mem_append_right _ (mem_pinsAt hb e)))
          ⟨z.1, z.2.1⟩
        have hl : (wipe σ (own.map (·.2))).length = σ8.length := by rw [← hw8, wipe_length]
        refine ⟨m', hm, i + 1, H', (I'.unpinned (pins := [])).weak hl (fun j v e => ?_), T.keep _ _ _ st7 fun b hb o e => (pin' b hb o e).1, fun b hb => ?_, w'⟩
        · rw [← hw8] at e
          exact (wipe_some e).1
        · obtain ⟨o, e, _⟩ := T.obj _ _ st7 b hb
          exact (pin' b hb o e).2
      cases b with
      | false =>
        simp only [Bool.false_eq_true, if_false] at q9 ⊢
        exact fin I9 q9
      | true =>
        simp only [if_true] at q9 ⊢
        refine thnF (pe _ s9 σ8 H9 _ I9 q9) fun z s10 ⟨yv, H10, I10, r10, q10⟩ => ?_
        refine thnF (pe2 _ s10 σ8 H10 _ I10 q10) fun z2 s11 ⟨vv, H11, I11, r11, H12, dp, nx⟩ => ?_
        exact d_dictSet (X := X.blk s3 H3 scope ce fp) hu I11 dp r10 r11 fun s12 I12 => fin I12 nx
  exact codeAny_compStart_dict loop (T.self X.A 0 _ _ _ st4 loop)
/-- as a value -/
theorem pe_dc {kx vx tg iter : Expr} {o0 : HO} {ifs : List Expr} {scope : Scope} {own : List (Str × Nat)} {pos : Pos} {wi : TI} {g : TG} {tt : TT} {tk tv : TE} (ho0 : o0 = .dK [] ∨ o0 = .dT []) (hu : X.A.units + 1 < cLine) (hc : X.calm = true) (hN : X.N.Nodup) (hi : PI X tg iter wi) (ok : BlkOk X.N X.env.scope scope own)
    (hg : ∀ (s : Shared) (H : Hp) (C : Addr) (cl : List (Str × Addr)) (fp : List Addr), PG (X.blk s H scope (compEnvC scope cl C X.env) fp) tg g) (ht : ∀ (s : Shared) (H : Hp) (C : Addr) (cl : List (Str × Addr)) (fp : List Addr), PTs (X.blk s H scope (compEnvC scope cl C X.env) fp) ifs tt)
    (he : ∀ (s : Shared) (H : Hp) (C : Addr) (cl : List (Str × Addr)) (fp : List Addr), PE (X.blk s H scope (compEnvC scope cl C X.env) fp) kx tk) (hev : ∀ (s : Shared) (H : Hp) (C : Addr) (cl : List (Str × Addr)) (fp : List Addr), PE (X.blk s H scope (compEnvC scope cl C X.env) fp) vx tv) (hs : ∀ x, foldedSetIterable iter X.env x = pure x := by intro _; rfl) :
    PE X (.DictComp kx vx [⟨tg, iter, ifs, 0⟩] scope pos) (tDc o0 wi g tt tk tv (own.map (·.2))) := by
  intro pins s σ H Q I h
  rw [arm_eval_DictComp]
  dsimp only
  refine dc_core ho0 hu hc hN I hi ok hg ht he hev hs h fun D C s' m H' I' q hn f => ⟨m, hn, fun h'' sb => ?_⟩
  obtain ⟨f0, f1, f2, f3, f4, f5⟩ := f
  exact ⟨.ref D, H', I'.turned (t' := s'.toks) (fun b o hb e => (sb.2 b hb).trans e) f0 f1 f3 f4 f5, rfl, q⟩
end
end L2

namespace R9
open PySem PySem.Spec PyProof.Rows L2 Pre
/-! ### products of great numbers -/
/-- no more bits than that -/
def Bd (k : Nat) (i : Int) : Prop := i.natAbs ≤ 2 ^ k
theorem Bd.mono {k m : Nat} {i : Int} (h : Bd k i) (l : k ≤ m) : Bd m i := Nat.le_trans h (Nat.pow_le_pow_right (by decide) l)
theorem Bd.bits {k : Nat} {i : Int} (h : Bd k i) : Builtin.Int.intBits i ≤ k + 1 := by
  unfold Builtin.Int.intBits
  split
  · exact Nat.zero_le _
  · rename_i z
    have nz : i.natAbs ≠ 0 := by
      intro e
      have : i = 0 := Int.natAbs_eq_zero.mp e
      rw [this] at z
      exact z rfl
    have : i.natAbs.log2 < k + 1 := (Nat.log2_lt nz).mpr (Nat.lt_of_le_of_lt h (Nat.pow_lt_pow_right (by decide) (Nat.lt_succ_self k)))
    omega
theorem Bd.mul {k m : Nat} {i j : Int} (h : Bd k i) (g : Bd m j) : Bd (k + m) (i * j) := by
  unfold Bd
  rw [Int.natAbs_mul, Nat.pow_add]
  exact Nat.mul_le_mul h g
theorem Bd.add {k : Nat} {i j : Int} (h : Bd k i) (g : Bd k j) : Bd (k + 1) (i + j) := by
  unfold Bd at *
  have := Int.natAbs_add_le i j
  rw [Nat.pow_succ]
  omega
theorem Bd.neg {k : Nat} {i : Int} (h : Bd k i) : Bd k (-i) := by unfold Bd at *; rw [Int.natAbs_neg]; exact h
theorem Bd.sub {k : Nat} {i j : Int} (h : Bd k i) (g : Bd k j) : Bd (k + 1) (i - j) := by rw [Int.sub_eq_add_neg]; exact h.add g.neg
theorem Bd.zero (k : Nat) : Bd k 0 := Nat.zero_le _
theorem Bd.one (k : Nat) : Bd k 1 := Nat.one_le_two_pow
/-- a product whose factors have at most a million bits -/
def CMulB (i j : Int) : Prop := ∃ k m : Nat, k ≤ 1000000 ∧ m ≤ 1000000 ∧ Bd k i ∧ Bd m j
section
variable {X : Cx}
theorem CMulB.ok {i j : Int} (h : CMulB i j) : IntMulOk i j := by
  obtain ⟨k, m, hk, hm, h1, h2⟩ := h
  have e : (2 : Nat) ^ 20 = 1048576 := by decide
  exact IntMulOk.of_bits (by have := h1.bits; omega) (by have := h2.bits; omega)
theorem op_mulB : OpR X (binaryOp .Mult) (rI CMulB fun i j => .int (i * j)) := opI fun _ _ _ _ _ _ _ hc q => mul_int q hc.ok
/-- o[i] in o[i] += e, of a list -/
theorem get_list : PGet X (rIxL X.K) := by
  intro pins s σ H o i ov iv Q I ro ri h
  obtain ⟨p, xs, k, z, rfl, rfl, hq, he, q⟩ := h
  cases ro
  obtain ⟨t, rfl⟩ := ri
  obtain ⟨its, r, pl, hz⟩ := I.list hq
  obtain ⟨j, h1, h2, h3, h4, h5⟩ := atI_get he
  obtain ⟨w, ew, rw'⟩ := r.get h2
  have hl := r.length
  have hn := line63
  have fin : EP X pins σ Q w s := ⟨z, H, I, rw', q⟩
  by_cases h0 : 0 ≤ k
  · have hj : k.toNat = j := by
      rw [seqIndex_of h0 h5] at h1
      exact Option.some.inj h1
    exact wpAny_getItem_list pl.isList h0 (by omega) (by rw [hj]; simpa using ew) fin
  · have hj : (k + (its.toArray.size : Int)).toNat = j := by
      rw [seqIndex_neg (by omega) h4] at h1
      rw [List.size_toArray, ← hl]
      exact Option.some.inj h1
    exact wpAny_getItem_list_neg pl.isList (by omega) (by rw [List.size_toArray] <;> omega) (by omega) (by rw [hj]; simpa using ew) fin
theorem truth_ints {prog : Program} {w : World} {A : Around} {ns : List Int} {its : List Value} (e : IntsAre its ns) :
    TruthOf prog w A (fun i v => its.toArray[i]? = some v) (fun i => (ns.map (· != 0)).getD i false) := fun i v s Q E hv hq => by
  have hv' : its[i]? = some v := by simpa using hv
  obtain ⟨t, rfl⟩ := IntsAre.int_at e i v hv'
  have hi : i < ns.length := by
    rw [← IntsAre.length e]
    exact (List.getElem?_eq_some_iff.mp hv').1
  have hg : (ns.map (· != 0)).getD i false = (ns.getD i 0 != 0) := by
    rw [List.getD_eq_getElem?_getD, List.getElem?_map, List.getD_eq_getElem?_getD, List.getElem?_eq_getElem hi]; rfl
  have hq' : Q ((ns.map (· != 0)).getD i false) s := hq
  rw [hg] at hq'
  exact PySem.P.truthy_int hq'
/-- any(xs) of whole numbers -/
def rAnyI (K : PySem.W.Frag) : List V → Hp → VK → Prop := fun vs H Q => ∃ (a : Addr) (ns : List Int), vs = [V.ref a] ∧ SqL K H a (ns.map V.int) ∧ Q (.bl (ns.any (· != 0))) H
theorem cr_anyI (hc : X.calm = true) : CallR X (.builtin "any") (rAnyI X.K) := by
  intro pins s σ H vs us Q I r h
  obtain ⟨a, ns, rfl, hs, q⟩ := h
  obtain ⟨its, rv, hl, _⟩ := I.list hs
  rw [Vals.ref1 r]
  have hb := rv.ints
  refine call_any_walk (iter_any hl.isList fun s₂ e2 st hne => ?_)
  subst e2
  refine ⟨_, _, _, _, _, _, _, rfl, Walks.list (A := X.A.in1) (I.ok.hd hc) _ a hne its.toArray, st, truth_ints hb, fun h' tk hk => ?_⟩
  refine ⟨.bl _, H, I.kept fun b o eo => hk b o (fun hmem => ?_) (Heap.get?_push_of_some _ eo), ?_, q⟩
  · rcases List.mem_cons.mp hmem with e1 | hmem
    · exact absurd (e1 ▸ Heap.lt_size eo) (Nat.lt_irrefl _)
    · cases hmem
  · have e3 : its.toArray.size = (ns.map (· != 0)).length := by rw [List.size_toArray, List.length_map]; exact IntsAre.length hb
    show Value.bool _ = Value.bool _
    rw [e3, L2.any_range, List.any_map]
    rfl
end
/-! ### walks -/
theorem lc_enum {K : PySem.W.Frag} {a : Addr} {xs : List V} {g : TG} {tt : TT} {te : TE} {vs : List Nat} {σ : L2.St} {H1 : Hp} {D : Addr} {Qd : Hp → Prop} (Pv : Nat → Hp → Prop) (h0 : Pv 0 (upd H1 D (.lst []))) (hl : ∀ i H, Pv i H → SqL K H a xs)
    (hs : ∀ i x T H, xs[i]? = some x → H T = none → Pv i H → g (.ref T) (wipe σ vs) (upd H T (.tup [.int (i : Nat), x])) fun σ2 H2 => wipe σ2 vs = wipe σ vs ∧ tt σ2 H2 fun b H3 =>
      if b = true then te σ2 H3 fun y H4 => ∃ acc, H4 D = some (.lst acc) ∧ acc.length < sizeLine ∧ Pv (i + 1) (upd H4 D (.lst (acc ++ [y]))) else Pv (i + 1) H3) (hd : ∀ H, Pv xs.length H → Qd H) :
    ∃ W : Nat → Nat → Hp → Prop, (∃ m, W 0 m (upd H1 D (.lst []))) ∧ ∀ i m H, W i m H →
      ((Ite K a).stop i H ∧ Qd H) ∨ ((Ite K a).go i H ∧ ∃ Nx : Hp → Prop, (∀ H', Nx H' → ∃ m', m' < m ∧ W (i + 1) m' H') ∧ ∀ x H', (Ite K a).yld i H x H' → g x (wipe σ vs) H' fun σ2 H2 => wipe σ2 vs = wipe σ vs ∧ tt σ2 H2 fun b H3 =>
        if b = true then te σ2 H3 fun y H4 => ∃ acc, H4 D = some (.lst acc) ∧ acc.length < sizeLine ∧ Nx (upd H4 D (.lst (acc ++ [y]))) else Nx H3) := by
  refine ⟨fun i m H => m = xs.length - i ∧ i ≤ xs.length ∧ Pv i H, ⟨xs.length, by simp, Nat.zero_le _, h0⟩, ?_⟩
  rintro i m H ⟨rfl, hi, p⟩
  have q := hl i H p
  by_cases hlt : i < xs.length
  · refine .inr ⟨⟨xs, xs[i], q, by simp [hlt]⟩, Pv (i + 1), fun H' p' => ⟨xs.length - (i + 1), by omega, rfl, hlt, p'⟩, fun x H' y => ?_⟩
    obtain ⟨T, x', rfl, hT, rfl, y⟩ := y
    exact hs i x' T _ (y xs q) hT p
  · have e : i = xs.length := by omega
    subst e
    exact .inl ⟨⟨xs, q, Nat.le_refl _⟩, hd H p⟩
theorem dc_enum {o0 : HO} {K : PySem.W.Frag} {a : Addr} {xs : List V} {g : TG} {tt : TT} {tk tv : TE} {vs : List Nat} {σ : L2.St} {H1 : Hp} {D : Addr} {Qd : Hp → Prop} (Pv : Nat → Hp → Prop) (h0 : Pv 0 (upd H1 D o0)) (hl : ∀ i H, Pv i H → SqL K H a xs)
    (hs : ∀ i x T H, xs[i]? = some x → H T = none → Pv i H → g (.ref T) (wipe σ vs) (upd H T (.tup [.int (i : Nat), x])) fun σ2 H2 => wipe σ2 vs = wipe σ vs ∧ tt σ2 H2 fun b H3 =>
      if b = true then tk σ2 H3 fun y H4 => tv σ2 H4 fun v H5 => ∃ H6, DPut H5 D y v H6 ∧ Pv (i + 1) H6 else Pv (i + 1) H3) (hd : ∀ H, Pv xs.length H → Qd H) :
    ∃ W : Nat → Nat → Hp → Prop, (∃ m, W 0 m (upd H1 D o0)) ∧ ∀ i m H, W i m H →
      ((Ite K a).stop i H ∧ Qd H) ∨ ((Ite K a).go i H ∧ ∃ Nx : Hp → Prop, (∀ H', Nx H' → ∃ m', m' < m ∧ W (i + 1) m' H') ∧ ∀ x H', (Ite K a).yld i H x H' → g x (wipe σ vs) H' fun σ2 H2 => wipe σ2 vs = wipe σ vs ∧ tt σ2 H2 fun b H3 =>
        if b = true then tk σ2 H3 fun y H4 => tv σ2 H4 fun v H5 => ∃ H6, DPut H5 D y v H6 ∧ Nx H6 else Nx H3) := by
  refine ⟨fun i m H => m = xs.length - i ∧ i ≤ xs.length ∧ Pv i H, ⟨xs.length, by simp, Nat.zero_le _, h0⟩, ?_⟩
  rintro i m H ⟨rfl, hi, p⟩
  have q := hl i H p
  by_cases hlt : i < xs.length
  · refine .inr ⟨⟨xs, xs[i], q, by simp [hlt]⟩, Pv (i + 1), fun H' p' => ⟨xs.length - (i + 1), by omega, rfl, hlt, p'⟩, fun x H' y => ?_⟩
    obtain ⟨T, x', rfl, hT, rfl, y⟩ := y
    exact hs i x' T _ (y xs q) hT p
  · have e : i = xs.length := by omega
    subst e
    exact .inl ⟨⟨xs, q, Nat.le_refl _⟩, hd H p⟩
theorem dc_list {o0 : HO} {K : PySem.W.Frag} {a : Addr} {xs : List V} {g : TG} {tt : TT} {tk tv : TE} {vs : List Nat} {σ : L2.St} {H1 : Hp} {D : Addr} {Qd : Hp → Prop} (Pv : Nat → Hp → Prop) (h0 : Pv 0 (upd H1 D o0)) (hl : ∀ i H, Pv i H → SqL K H a xs)
    (hs : ∀ i x H, xs[i]? = some x → Pv i H → g x (wipe σ vs) H fun σ2 H2 => wipe σ2 vs = wipe σ vs ∧ tt σ2 H2 fun b H3 =>
      if b = true then tk σ2 H3 fun y H4 => tv σ2 H4 fun v H5 => ∃ H6, DPut H5 D y v H6 ∧ Pv (i + 1) H6 else Pv (i + 1) H3) (hd : ∀ H, Pv xs.length H → Qd H) :
    ∃ W : Nat → Nat → Hp → Prop, (∃ m, W 0 m (upd H1 D o0)) ∧ ∀ i m H, W i m H →
      ((Itl K a).stop i H ∧ Qd H) ∨ ((Itl K a).go i H ∧ ∃ Nx : Hp → Prop, (∀ H', Nx H' → ∃ m', m' < m ∧ W (i + 1) m' H') ∧ ∀ x H', (Itl K a).yld i H x H' → g x (wipe σ vs) H' fun σ2 H2 => wipe σ2 vs = wipe σ vs ∧ tt σ2 H2 fun b H3 =>
        if b = true then tk σ2 H3 fun y H4 => tv σ2 H4 fun v H5 => ∃ H6, DPut H5 D y v H6 ∧ Nx H6 else Nx H3) := by
  refine ⟨fun i m H => m = xs.length - i ∧ i ≤ xs.length ∧ Pv i H, ⟨xs.length, by simp, Nat.zero_le _, h0⟩, ?_⟩
  rintro i m H ⟨rfl, hi, p⟩
  have q := hl i H p
  by_cases hlt : i < xs.length
  · refine .inr ⟨⟨xs, xs[i], q, by simp [hlt]⟩, Pv (i + 1), fun H' p' => ⟨xs.length - (i + 1), by omega, rfl, hlt, p'⟩, fun x H' y => ?_⟩
    obtain ⟨e, y⟩ := y
    subst e
    exact hs i x _ (y xs q) p
  · have e : i = xs.length := by omega
    subst e
    exact .inl ⟨⟨xs, q, Nat.le_refl _⟩, hd H p⟩
/-- for over reversed(a tuple) -/
theorem for_revT {K : PySem.W.Frag} {a : Addr} {xs : List V} {g : TG} {tb : TS} {D : Ends} {σ : L2.St} {H : Hp} (Pv : Nat → L2.St → Hp → Prop) (h0 : Pv 0 σ H) (hl : ∀ i σ H, Pv i σ H → SqT K H a xs)
    (hs : ∀ i x σ H, i < xs.length → xs[xs.length - 1 - i]? = some x → Pv i σ H → g x σ H fun σ2 H2 => tb { D with nx := Pv (i + 1), ct := Pv (i + 1), bk := D.nx } σ2 H2) (hd : ∀ σ H, Pv xs.length σ H → D.nx σ H) :
    ∃ W : Nat → Nat → L2.St → Hp → Prop, (∃ m, W 0 m σ H) ∧ ∀ i m σ H, W i m σ H →
      ((R2.Itw K a xs.length).stop i H ∧ D.nx σ H) ∨ ((R2.Itw K a xs.length).go i H ∧ ∃ N : L2.St → Hp → Prop, (∀ σ' H', N σ' H' → ∃ m', m' < m ∧ W (i + 1) m' σ' H') ∧ ∀ x H', (R2.Itw K a xs.length).yld i H x H' → g x σ H' fun σ2 H2 => tb { D with nx := N, ct := N, bk := D.nx } σ2 H2) := by
  refine ⟨fun i m σ H => m = xs.length - i ∧ i ≤ xs.length ∧ Pv i σ H, ⟨xs.length, by simp, Nat.zero_le _, h0⟩, ?_⟩
  rintro i m σ H ⟨rfl, hi, p⟩
  have q := hl i σ H p
  by_cases hlt : i < xs.length
  · refine .inr ⟨⟨hlt, xs, xs[xs.length - 1 - i], q, List.getElem?_eq_getElem _⟩, Pv (i + 1), fun σ' H' p' => ⟨xs.length - (i + 1), by omega, rfl, hlt, p'⟩, fun x H' y => ?_⟩
    obtain ⟨rfl, y⟩ := y
    exact hs i x σ _ hlt (y xs q) p
  · have e : i = xs.length := by omega
    subst e
    exact .inl ⟨Nat.le_refl _, hd σ H p⟩
end R9
namespace Pre
open PySem PySem.Spec PyProof.Rows L2
theorem piL {X : Cx} {K : PySem.W.Frag} {tg l : Expr} {tl : TE} (h : X.K = K) (hl : PE X l tl) : PI X tg l (iList K tl) := h ▸ pi_list hl
theorem piT {X : Cx} {K : PySem.W.Frag} {tg l : Expr} {tl : TE} (h : X.K = K) (hl : PE X l tl) : PI X tg l (iTup K tl) := h ▸ pi_tup hl
theorem peF {X : Cx} {K : PySem.W.Frag} {e : Expr} {f : Str} {pos : Pos} {ta : TE} (h : X.K = K) (he : PE X e ta) (hb : attributeBase e f X.env (eval e X.env) = eval e X.env) : PE X (.Attribute e f pos) (tFld K ta f) := h ▸ pe_fld he hb
/-! ### methods and makers -/
def CalM (P : Program) (w : World) (K : PySem.W.Frag) (mg : Str → Option Value) (base : Heap) (C : Addr) (m : Str) (ps : List Str) (r : Nat) (sp : Sp) : Prop :=
  ∃ (g : Addr) (gd : FuncData), FnOk P w K mg base CX0 r g gd ps sp ∧ Binds K gd ps [] ∧ Meth K C m g
def CalI (P : Program) (w : World) (K : PySem.W.Frag) (mg : Str → Option Value) (base : Heap) (C : Addr) (x : Str) (ps : List Str) (r : Nat) (sp : Sp) : Prop :=
  ∃ (g : Addr) (gd : FuncData), FnOk P w K mg base CX0 r g gd ps sp ∧ Binds K gd ps [] ∧ Mk K C g ∧ mg x = some (.ref C)
section
variable {X : Cx} {C : Addr} {x m : Str} {ps : List Str} {r : Nat} {sp : Sp} {p apos pos : Pos} {o e : Expr} {es : List Expr} {t : TA} {ta : TE}
theorem CalM.pe {pl : Sem Bool} (M : CalM X.prog X.w X.K X.mg X.base C m ps r sp) (c : Cls X.K C) (hr : Room r X.A) (he : PE X o ta) (ha : PA X (e :: es) t)
    (hst : starEach (e :: es) X.env = (false, eval e X.env) :: starEach es X.env := by rfl) (hpl : (backTo pos (starEach es X.env)).any (·.1) = false := by rfl)
    (ht : eval (.Call (.Attribute o m apos) (e :: es) [] pos) X.env = (do
      let ov ← eval o X.env
      standAt apos.atName
      let (f, first) ← holding [ov] (getMethod ov m pl)
      callWith pos f first (backTo pos (starEach (e :: es) X.env)) (backToKw pos (keywordEach [] X.env))) := by rfl) :
    PE X (.Call (.Attribute o m apos) (e :: es) [] pos) (tMeth C m sp [] E0 ta t) := by
  obtain ⟨g, gd, G, b, k⟩ := M
  exact pe_meth he c k G hr b .nil pass0 ha hst hpl ht
theorem CalM.pe0 {pl : Sem Bool} (M : CalM X.prog X.w X.K X.mg X.base C m ps r sp) (c : Cls X.K C) (hr : Room r X.A) (he : PE X o ta)
    (ht : eval (.Call (.Attribute o m apos) [] [] pos) X.env = (do
      let ov ← eval o X.env
      standAt apos.atName
      let (f, first) ← holding [ov] (getMethod ov m pl)
      callWith pos f first (backTo pos (starEach [] X.env)) (backToKw pos (keywordEach [] X.env))) := by rfl) :
    PE X (.Call (.Attribute o m apos) [] [] pos) (tMeth C m sp [] E0 ta tNil) := by
  obtain ⟨g, gd, G, b, k⟩ := M
  exact pe_meth0 he c k G hr b .nil pass0 ht
theorem CalI.pe (M : CalI X.prog X.w X.K X.mg X.base C x ps r sp) (hr : Room (r + 1) X.A) (hg : Gl X x) (ha : PA X (e :: es) t)
    (hdb : (x == ("__debug__" : Str)) = false := by decide) (he : starEach (e :: es) X.env = (false, eval e X.env) :: starEach es X.env := by rfl) (hpl : (backTo pos (starEach es X.env)).any (·.1) = false := by rfl) :
    PE X (.Call (.Name x p) (e :: es) [] pos) (tMake C sp [] E0 t) := by
  obtain ⟨g, gd, G, b, k, m⟩ := M
  exact pe_make k G hr hg m b .nil pass0 ha hdb he hpl
end
end Pre

namespace Pre
open PySem PySem.Spec PyProof.Rows L2 R9
/-! ### the words of a ground -/
def gw (l d : Nat) : List (List Int) := (List.range (d + 1)).flatMap (pw l)
def gt (l d : Nat) : List (List Int) := (gw l d).filter tw
/-- a ground's letters and depth -/
structure GOk (l d : Nat) : Prop where
  l1 : 1 ≤ l
  l4 : l ≤ 4
  d1 : 1 ≤ d
  dm : d ≤ [0, 5, 5, 4, 3].getD l 0
theorem GOk.d5 {l d : Nat} (h : GOk l d) : d ≤ 5 := by
  have h1 := h.l1; have h2 := h.l4; have h3 := h.dm
  rcases (by omega : l = 1 ∨ l = 2 ∨ l = 3 ∨ l = 4) with rfl | rfl | rfl | rfl
  · exact h3
  · exact h3
  · exact Nat.le_trans h3 (by decide)
  · exact Nat.le_trans h3 (by decide)
theorem pw_of {l : Nat} : ∀ {n : Nat} {w : List Int}, w.length = n → Lets l w → w ∈ pw l n
  | 0, w, h, _ => by
    rw [List.length_eq_zero_iff.mp h]; exact List.mem_singleton.mpr rfl
  | n + 1, w, h, hl => by
    rcases last_cases w with rfl | ⟨u, x, rfl⟩
    · simp at h
    have hu : u.length = n := by rw [List.length_append] at h; simpa using h
    have ih := pw_of hu fun y hy => hl y (List.mem_append_left _ hy)
    have hx := hl x (List.mem_append_right _ (List.mem_singleton.mpr rfl))
    rw [pw]
    unfold pwN
    refine List.mem_flatMap.mpr ⟨u, ih, ?_⟩
    unfold ext1
    refine List.mem_map.mpr ⟨(x - 1).toNat, List.mem_range.mpr (by omega), ?_⟩
    rw [show (1 : Int) + (((x - 1).toNat : Nat) : Int) = x by omega]
theorem gw_mem {l d : Nat} {w : List Int} : w ∈ gw l d ↔ w.length ≤ d ∧ Lets l w := by
  unfold gw
  rw [List.mem_flatMap]
  constructor
  · rintro ⟨n, hn, hw⟩
    have a := pw_word hw
    have b := List.mem_range.mp hn
    exact ⟨by omega, a.2⟩
  · rintro ⟨h1, h2⟩
    exact ⟨w.length, List.mem_range.mpr (by omega), pw_of rfl h2⟩
theorem gt_mem {l d : Nat} {w : List Int} : w ∈ gt l d ↔ w.length ≤ d ∧ Lets l w ∧ Ly w := by
  unfold gt
  rw [List.mem_filter, gw_mem, tw_ly, and_assoc]
/-- what is shown once for all seventeen -/
theorem gw_all : ((List.range 4).all fun l => (List.range ([0, 5, 5, 4, 3].getD (l + 1) 0)).all fun d => decide ((gw (l + 1) (d + 1)).Nodup) && decide ((gw (l + 1) (d + 1)).length ≤ 121)) = true := by decide +kernel
theorem gw_fin {l d : Nat} (h : GOk l d) : (gw l d).Nodup ∧ (gw l d).length ≤ 121 := by
  have h1 := h.l1; have h4 := h.l4; have d1 := h.d1; have dm := h.dm
  have t := List.all_eq_true.mp gw_all (l - 1) (List.mem_range.mpr (by omega))
  have e : l - 1 + 1 = l := by omega
  rw [e] at t
  have t2 := List.all_eq_true.mp t (d - 1) (List.mem_range.mpr (by omega))
  rw [show d - 1 + 1 = d by omega] at t2
  have := Bool.and_eq_true_iff.mp t2
  exact ⟨of_decide_eq_true this.1, of_decide_eq_true this.2⟩
/-! ### lists of words that hold the parts of their words -/
structure Cl (ws : List (List Int)) : Prop where
  nd : ws.Nodup
  len : ws.length ≤ 200
  siz : ∀ w ∈ ws, w.length ≤ 10
  tk : ∀ w ∈ ws, ∀ k, w.take k ∈ ws
  dr : ∀ w ∈ ws, ∀ k, w.drop k ∈ ws
theorem gw_cl {l d : Nat} (h : GOk l d) : Cl (gw l d) where
  nd := (gw_fin h).1
  len := Nat.le_trans (gw_fin h).2 (by decide)
  siz := fun w hw => by have := (gw_mem.mp hw).1; have := h.d5; omega
  tk := fun w hw k => gw_mem.mpr ⟨by rw [List.length_take]; have := (gw_mem.mp hw).1; omega, fun x hx => (gw_mem.mp hw).2 x (List.mem_of_mem_take hx)⟩
  dr := fun w hw k => gw_mem.mpr ⟨by rw [List.length_drop]; have := (gw_mem.mp hw).1; omega, fun x hx => (gw_mem.mp hw).2 x (List.mem_of_mem_drop hx)⟩
theorem gt_nodup {l d : Nat} (h : GOk l d) : (gt l d).Nodup := (gw_fin h).1.filter _
theorem gt_len {l d : Nat} (h : GOk l d) : (gt l d).length ≤ 121 := Nat.le_trans (List.length_filter_le _ _) (gw_fin h).2
theorem gw_first (l d : Nat) : ∃ r, gw l d = [] :: r := by
  unfold gw
  rw [List.range_succ_eq_map, List.flatMap_cons]
  exact ⟨_, rfl⟩
/-! ### numbers of words -/
theorem nd_inj {α : Type} {ws : List α} (nd : ws.Nodup) {i j : Nat} (hi : i < ws.length) (hj : j < ws.length) (e : ws[i] = ws[j]) : i = j := by
  have h := List.pairwise_iff_getElem.mp nd
  rcases Nat.lt_trichotomy i j with z | z | z
  · exact absurd e (h i j hi hj z)
  · exact z
  · exact absurd e.symm (h j i hj hi z)
theorem ix_get {ws : List (List Int)} {w : List Int} (h : w ∈ ws) : ws.idxOf w < ws.length ∧ ws[ws.idxOf w]? = some w := by
  have hl : ws.idxOf w < ws.length := List.idxOf_lt_length_iff.mpr h
  exact ⟨hl, by rw [List.getElem?_eq_getElem hl, List.getElem_idxOf]⟩
theorem ix_of {ws : List (List Int)} (nd : ws.Nodup) {i : Nat} {w : List Int} (h : ws[i]? = some w) : ws.idxOf w = i := by
  obtain ⟨h1, h2⟩ := ix_get (List.mem_of_getElem? h)
  obtain ⟨hi, e⟩ := List.getElem?_eq_some_iff.mp h
  obtain ⟨_, e2⟩ := List.getElem?_eq_some_iff.mp h2
  exact nd_inj nd _ _ (e2.trans e.symm)
def keyW (w : List Int) : List Key := w.map Sum.inl
theorem keyW_kV (w : List Int) : (keyW w).map kV = w.map V.int := by unfold keyW; rw [List.map_map]; rfl
theorem keyW_inj {u v : List Int} (h : keyW u = keyW v) : u = v := by
  unfold keyW at h
  induction u generalizing v with
  | nil => cases v with
    | nil => rfl
    | cons _ _ => cases h
  | cons x u ih => cases v with
    | nil => cases h
    | cons y v =>
      rw [List.map_cons, List.map_cons, List.cons.injEq] at h
      rw [Sum.inl.inj h.1, ih h.2]
/-- the dict of the numbers of words -/
def numF (k : Nat) : List (List Int) → List (List Key × V)
  | [] => []
  | w :: r => (keyW w, V.int (k : Nat)) :: numF (k + 1) r
theorem numF_val : ∀ (ws : List (List Int)) (k : Nat) (w : List Int), valV (numF k ws) (keyW w) = if w ∈ ws then some (V.int ((k + ws.idxOf w : Nat) : Int)) else none
  | [], k, w => by rw [if_neg (List.not_mem_nil)]; rfl
  | u :: r, k, w => by
    by_cases e : u = w
    · subst e
      rw [if_pos (List.mem_cons_self ..), numF, valV_pos rfl, List.idxOf_cons_self]
      rfl
    · have ne : ¬ keyW u = keyW w := fun z => e (keyW_inj z)
      rw [numF, valV_neg ne, numF_val r (k + 1) w]
      by_cases m : w ∈ r
      · rw [if_pos m, if_pos (List.mem_cons_of_mem _ m), List.idxOf_cons, show (u == w) = false from beq_eq_false_iff_ne.mpr e, cond_false]
        congr 2
        omega
      · rw [if_neg m, if_neg (fun z => (List.mem_cons.mp z).elim (fun z => e z.symm) m)]
theorem numF_len : ∀ (ws : List (List Int)) (k : Nat), (numF k ws).length = ws.length
  | [], _ => rfl
  | _ :: r, k => by rw [numF, List.length_cons, numF_len r, List.length_cons]
theorem numF_app : ∀ (ws : List (List Int)) (k : Nat) (w : List Int), numF k (ws ++ [w]) = numF k ws ++ [(keyW w, V.int ((k + ws.length : Nat) : Int))]
  | [], _, _ => rfl
  | u :: r, k, w => by
    rw [List.cons_append, numF, numF_app r (k + 1) w, numF, List.cons_append, List.length_cons]
    congr 5
    omega
abbrev numT (ws : List (List Int)) : List (List Key × V) := numF 0 ws
theorem numT_val {ws : List (List Int)} {w : List Int} (h : w ∈ ws) : valV (numT ws) (keyW w) = some (V.int ((ws.idxOf w : Nat) : Int)) := by
  rw [numF_val, if_pos h, Nat.zero_add]
theorem numT_not {ws : List (List Int)} {w : List Int} (h : w ∉ ws) : valV (numT ws) (keyW w) = none := by rw [numF_val, if_neg h]
theorem numT_put {ws : List (List Int)} {w : List Int} (h : w ∉ ws) : putK (numT ws) (keyW w) (V.int (ws.length : Nat)) = numT (ws ++ [w]) := by
  rw [putK_new _ (numT_not h)]
  show numF 0 ws ++ _ = numF 0 (ws ++ [w])
  rw [numF_app, Nat.zero_add]
theorem take_not {ws : List (List Int)} (nd : ws.Nodup) {i : Nat} (hi : i < ws.length) : ws[i] ∉ ws.take i := fun h => by
  obtain ⟨j, hj, e⟩ := List.getElem_of_mem h
  rw [List.length_take] at hj
  rw [List.getElem_take] at e
  have := nd_inj nd _ _ e
  omega
/-! ### tuples stay -/
def SameT (H H' : Hp) : Prop := ∀ b ys, H b = some (.tup ys) → H' b = some (.tup ys)
theorem SameT.of {H H' : Hp} (s : Same H H') : SameT H H' := fun b ys h => s b _ h
theorem SameT.trans {H H1 H2 : Hp} (x : SameT H H1) (y : SameT H1 H2) : SameT H H2 := fun b ys h => y b ys (x b ys h)
theorem SameT.updL {H : Hp} {D : Addr} {xs : List V} {o : HO} (h : H D = some (.lst xs)) : SameT H (upd H D o) := fun b ys e => by rw [upd_ne (ne_of e h (fun z => nomatch z))]; exact e
theorem SameT.updK {H : Hp} {D : Addr} {xs : List (Key × V)} {o : HO} (h : H D = some (.dK xs)) : SameT H (upd H D o) := fun b ys e => by rw [upd_ne (ne_of e h (fun z => nomatch z))]; exact e
theorem WT.t {H H' : Hp} {a : Addr} {ns : List Int} (x : WT H a ns) (s : SameT H H') : WT H' a ns := s _ _ x
theorem WsAt.t {H H' : Hp} {ps : List Addr} {wss : List (List Int)} (h : WsAt H ps wss) (s : SameT H H') : WsAt H' ps wss := Paired.imp' (fun _ _ w => w.t s) h
def PrAt (H : Hp) (q : Addr) (p : Nat × Nat) : Prop := H q = some (.tup [.int (p.1 : Nat), .int (p.2 : Nat)])
theorem PrAt.t {H H' : Hp} {q : Addr} {p : Nat × Nat} (x : PrAt H q p) (s : SameT H H') : PrAt H' q p := s _ _ x
def Prs (H : Hp) (a : Addr) (ps : List (Nat × Nat)) : Prop := ∃ qs : List Addr, H a = some (.tup (qs.map V.ref)) ∧ Paired (PrAt H) qs ps
theorem Prs.t {H H' : Hp} {a : Addr} {ps : List (Nat × Nat)} (x : Prs H a ps) (s : SameT H H') : Prs H' a ps :=
  let ⟨qs, h1, h2⟩ := x; ⟨qs, s _ _ h1, Paired.imp' (fun _ _ w => w.t s) h2⟩
def Prt (H : Hp) (a : Addr) (pss : List (List (Nat × Nat))) : Prop := ∃ qs : List Addr, H a = some (.tup (qs.map V.ref)) ∧ Paired (Prs H) qs pss
theorem Prt.t {H H' : Hp} {a : Addr} {pss : List (List (Nat × Nat))} (x : Prt H a pss) (s : SameT H H') : Prt H' a pss :=
  let ⟨qs, h1, h2⟩ := x; ⟨qs, s _ _ h1, Paired.imp' (fun _ _ w => w.t s) h2⟩
theorem paired_app {α β : Type} {F : α → β → Prop} : ∀ {as : List α} {bs : List β} {a : α} {b : β}, Paired F as bs → F a b → Paired F (as ++ [a]) (bs ++ [b])
  | _, _, _, _, .nil, h => .cons h .nil
  | _, _, _, _, .cons r t, h => .cons r (paired_app t h)
/-! ### partings and endings -/
def prtW (ws : List (List Int)) (w : List Int) : List (Nat × Nat) := (List.range (w.length + 1)).map fun k => (ws.idxOf (w.take k), ws.idxOf (w.drop k))
def prt (ws : List (List Int)) : List (List (Nat × Nat)) := ws.map (prtW ws)
def lastIs (x : Int) (w : List Int) : Bool := decide (w.drop (w.length - 1) = [x])
def endW (ws : List (List Int)) (x : Int) : List (Nat × Nat) := (ws.filter (lastIs x)).map fun w => (ws.idxOf w, ws.idxOf w.dropLast)
theorem cutI_last (w : List Int) : cutI w (some (-1)) none = w.drop (w.length - 1) := by
  unfold cutI
  rw [HT.sIx_none]
  have e : HT.sIx w.length 0 (some (-1)) = w.length - 1 := by
    unfold HT.sIx
    simp
    omega
  rw [e, List.take_of_length_le (by rw [List.length_drop]; omega)]
theorem cutI_init (w : List Int) : cutI w none (some (-1)) = w.dropLast := by
  unfold cutI
  rw [HT.sIx_none]
  have e : HT.sIx w.length w.length (some (-1)) = w.length - 1 := by
    unfold HT.sIx
    simp
    omega
  rw [e, List.drop_zero, Nat.sub_zero, List.dropLast_eq_take]
/-- the dict of endings: by what it tells -/
def EndD (H : Hp) (D : Addr) (ws : List (List Int)) (ls : List Int) : Prop := ∃ kvs : List (Key × V), H D = some (.dK kvs) ∧ kvs.length ≤ ls.length ∧
  (∀ x ∈ ls, ∃ t, valV kvs (Sum.inl x) = some (V.ref t) ∧ Prs H t (endW ws x)) ∧ ∀ x, x ∉ ls → valV kvs (Sum.inl x) = none
theorem EndD.same {H H' : Hp} {D : Addr} {ws : List (List Int)} {ls : List Int} (x : EndD H D ws ls) (s : Same H H') : EndD H' D ws ls :=
  let ⟨kvs, h1, h2, h3, h4⟩ := x; ⟨kvs, s _ _ h1, h2, fun x hx => let ⟨t, a, b⟩ := h3 x hx; ⟨t, a, b.t (.of s)⟩, h4⟩
def ltrs (ws : List (List Int)) : List Int := (ws.filter fun w => decide (w.length = 1)).map fun w => w.getD 0 0
theorem ltrs_mem {l d : Nat} (h : GOk l d) (x : Int) : x ∈ ltrs (gw l d) ↔ 1 ≤ x ∧ x ≤ l := by
  unfold ltrs
  rw [List.mem_map]
  constructor
  · rintro ⟨w, hw, rfl⟩
    rw [List.mem_filter, gw_mem] at hw
    obtain ⟨⟨_, h2⟩, h3⟩ := hw
    obtain ⟨y, rfl⟩ := List.length_eq_one_iff.mp (of_decide_eq_true h3)
    exact h2 y (List.mem_singleton.mpr rfl)
  · intro hx
    exact ⟨[x], List.mem_filter.mpr ⟨gw_mem.mpr ⟨h.d1, fun y hy => by rw [List.mem_singleton.mp hy]; exact hx⟩, by rfl⟩, rfl⟩
theorem endW_none {l d : Nat} {x : Int} (h : ¬ (1 ≤ x ∧ x ≤ l)) : endW (gw l d) x = [] := by
  unfold endW
  rw [List.map_eq_nil_iff, List.filter_eq_nil_iff]
  intro w hw e
  have e := of_decide_eq_true e
  have : x ∈ w := List.mem_of_mem_drop (i := w.length - 1) (by rw [e]; exact List.mem_singleton.mpr rfl)
  exact h ((gw_mem.mp hw).2 x this)
end Pre

namespace Pre
open PySem PySem.Spec PyProof.Rows L2 R9
/-! ### sums -/
def emptyW (ws : List (List Int)) : List Int := 1 :: List.replicate (ws.length - 1) 0
def addP (told : List Int) (p : Nat × Nat) : List Int := told.set p.1 (told.getD p.1 0 + told.getD p.2 0)
def subP (told : List Int) (p : Nat × Nat) : List Int := told.set p.1 (told.getD p.1 0 - told.getD p.2 0)
def stepW (ws : List (List Int)) (told : List Int) (x : Int) : List Int := if 0 < x then (endW ws x).reverse.foldl addP told else (endW ws (-x)).foldl subP told
def scatW (ws : List (List Int)) (u : List Int) : List Int := u.foldl (stepW ws) (emptyW ws)
def joinP (one other : List Int) (ps : List (Nat × Nat)) : Int := (ps.map fun p => one.getD p.1 0 * other.getD p.2 0).sum
def joinW (ws : List (List Int)) (one other : List Int) : List Int := (prt ws).map (joinP one other)
def restW (one : List Int) : List Int := 0 :: one.drop 1
def powsF (ws : List (List Int)) (rest : List Int) : Nat → List Int → List (List Int)
  | 0, _ => []
  | n + 1, p => if p.any (· != 0) then p :: powsF ws rest n (joinW ws p rest) else []
theorem emptyW_len {ws : List (List Int)} (h : 1 ≤ ws.length) : (emptyW ws).length = ws.length := by
  unfold emptyW; rw [List.length_cons, List.length_replicate]; omega
theorem addP_len (t : List Int) (p : Nat × Nat) : (addP t p).length = t.length := List.length_set
theorem subP_len (t : List Int) (p : Nat × Nat) : (subP t p).length = t.length := List.length_set
theorem foldl_len {f : List Int → Nat × Nat → List Int} (hf : ∀ t p, (f t p).length = t.length) : ∀ (ps : List (Nat × Nat)) (t : List Int), (ps.foldl f t).length = t.length
  | [], _ => rfl
  | p :: r, t => by rw [List.foldl_cons, foldl_len hf r, hf]
theorem stepW_len (ws : List (List Int)) (t : List Int) (x : Int) : (stepW ws t x).length = t.length := by
  unfold stepW
  split
  · exact foldl_len addP_len _ _
  · exact foldl_len subP_len _ _
theorem scat_len' (ws : List (List Int)) : ∀ (u t : List Int), (u.foldl (stepW ws) t).length = t.length
  | [], _ => rfl
  | x :: r, t => by rw [List.foldl_cons, scat_len' ws r, stepW_len]
theorem scatW_len {ws : List (List Int)} (h : 1 ≤ ws.length) (u : List Int) : (scatW ws u).length = ws.length := by
  unfold scatW; rw [scat_len', emptyW_len h]
theorem joinW_len (ws : List (List Int)) (a b : List Int) : (joinW ws a b).length = ws.length := by unfold joinW prt; rw [List.length_map, List.length_map]
theorem restW_len {one : List Int} (h : 1 ≤ one.length) : (restW one).length = one.length := by unfold restW; rw [List.length_cons, List.length_drop]; omega
/-! ### bounds -/
def Bds (k : Nat) (xs : List Int) : Prop := ∀ x ∈ xs, Bd k x
theorem Bds.mono {k m : Nat} {xs : List Int} (h : Bds k xs) (l : k ≤ m) : Bds m xs := fun x hx => (h x hx).mono l
theorem Bds.getD {k : Nat} {xs : List Int} (h : Bds k xs) (i : Nat) : Bd k (xs.getD i 0) := by
  rw [List.getD_eq_getElem?_getD]
  cases e : xs[i]? with
  | none => exact Bd.zero k
  | some y => exact h y (List.mem_of_getElem? e)
theorem Bds.set {k : Nat} {xs : List Int} (h : Bds k xs) (i : Nat) {y : Int} (hy : Bd k y) : Bds k (xs.set i y) := fun x hx => by
  rcases List.mem_or_eq_of_mem_set hx with z | z
  · exact h x z
  · rw [z]; exact hy
theorem Bds.addP {k : Nat} {xs : List Int} (h : Bds k xs) (p : Nat × Nat) : Bds (k + 1) (addP xs p) := (h.mono (Nat.le_succ _)).set _ ((h.getD _).add (h.getD _))
theorem Bds.subP {k : Nat} {xs : List Int} (h : Bds k xs) (p : Nat × Nat) : Bds (k + 1) (subP xs p) := (h.mono (Nat.le_succ _)).set _ ((h.getD _).sub (h.getD _))
theorem Bds.foldl {f : List Int → Nat × Nat → List Int} (hf : ∀ k t p, Bds k t → Bds (k + 1) (f t p)) : ∀ (ps : List (Nat × Nat)) (k : Nat) (t : List Int), Bds k t → Bds (k + ps.length) (ps.foldl f t)
  | [], _, _, h => h
  | p :: r, k, t, h => by
    rw [List.foldl_cons, List.length_cons, show k + (r.length + 1) = k + 1 + r.length by omega]
    exact Bds.foldl hf r (k + 1) _ (hf k t p h)
theorem endW_len (ws : List (List Int)) (x : Int) : (endW ws x).length ≤ ws.length := by unfold endW; rw [List.length_map]; exact List.length_filter_le ..
theorem Bds.step {ws : List (List Int)} {k : Nat} {t : List Int} (h : Bds k t) (x : Int) : Bds (k + ws.length) (stepW ws t x) := by
  unfold stepW
  split
  · exact (Bds.foldl (fun _ _ _ h => h.addP _) _ k t h).mono (by rw [List.length_reverse]; have := endW_len ws x; omega)
  · exact (Bds.foldl (fun _ _ _ h => h.subP _) _ k t h).mono (by have := endW_len ws (-x); omega)
theorem Bds.scat' {ws : List (List Int)} : ∀ (u : List Int) (k : Nat) (t : List Int), Bds k t → Bds (k + u.length * ws.length) (u.foldl (stepW ws) t)
  | [], _, _, h => h.mono (Nat.le_add_right _ _)
  | x :: r, k, t, h => by
    rw [List.foldl_cons, List.length_cons, Nat.succ_mul, show k + (r.length * ws.length + ws.length) = k + ws.length + r.length * ws.length by omega]
    exact Bds.scat' r _ _ (h.step x)
theorem Bds.empty (ws : List (List Int)) : Bds 0 (emptyW ws) := fun x hx => by
  unfold emptyW at hx
  rcases List.mem_cons.mp hx with z | z
  · rw [z]; exact Bd.one 0
  · rw [List.eq_of_mem_replicate z]; exact Bd.zero 0
theorem Bds.scat (ws : List (List Int)) (u : List Int) : Bds (u.length * ws.length) (scatW ws u) := by
  have := Bds.scat' (ws := ws) u 0 _ (Bds.empty ws)
  rwa [Nat.zero_add] at this
theorem Bds.rest {k : Nat} {one : List Int} (h : Bds k one) : Bds k (restW one) := fun x hx => by
  rcases List.mem_cons.mp hx with z | z
  · rw [z]; exact Bd.zero k
  · exact h x (List.mem_of_mem_drop z)
theorem Bd.sum {k : Nat} : ∀ (xs : List Int), Bds k xs → Bd (k + xs.length) xs.sum
  | [], _ => Bd.zero _
  | x :: r, h => by
    rw [List.sum_cons, List.length_cons, ← Nat.add_assoc]
    exact Bd.add ((h x (List.mem_cons_self ..)).mono (by omega)) (Bd.sum r fun y hy => h y (List.mem_cons_of_mem _ hy))
theorem Bds.join {ws : List (List Int)} (C : Cl ws) {k m : Nat} {a b : List Int} (ha : Bds k a) (hb : Bds m b) : Bds (k + m + 11) (joinW ws a b) := fun x hx => by
  unfold joinW prt at hx
  rw [List.map_map] at hx
  obtain ⟨w, hw, rfl⟩ := List.mem_map.mp hx
  show Bd _ (joinP a b (prtW ws w))
  unfold joinP
  refine (Bd.sum (k := k + m) _ fun y hy => ?_).mono ?_
  · obtain ⟨p, _, rfl⟩ := List.mem_map.mp hy
    exact (ha.getD _).mul (hb.getD _)
  · rw [List.length_map]
    unfold prtW
    rw [List.length_map, List.length_range]
    have := C.siz w hw
    omega
/-! ### powers come to nothing -/
/-- nought for all words of fewer letters -/
def Zr (ws : List (List Int)) (k : Nat) (p : List Int) : Prop := ∀ i w, ws[i]? = some w → w.length < k → p.getD i 0 = 0
theorem Zr.rest {ws : List (List Int)} {r : List (List Int)} (e : ws = [] :: r) (hr : ∀ w ∈ r, 1 ≤ w.length) (one : List Int) : Zr ws 1 (restW one) := fun i w h hw => by
  subst e
  cases i with
  | zero => rfl
  | succ i =>
    rw [List.getElem?_cons_succ] at h
    have := hr w (List.mem_of_getElem? h)
    omega
theorem Zr.join {ws : List (List Int)} (C : Cl ws) {k : Nat} {p q : List Int} (hp : Zr ws k p) (hq : Zr ws 1 q) : Zr ws (k + 1) (joinW ws p q) := fun i w h hw => by
  have hm := List.mem_of_getElem? h
  have e : (joinW ws p q).getD i 0 = joinP p q (prtW ws w) := by
    unfold joinW prt
    rw [List.getD_eq_getElem?_getD, List.getElem?_map, List.getElem?_map, h]
    rfl
  rw [e]
  unfold joinP prtW
  rw [List.map_map]
  have z : ∀ y ∈ (List.range (w.length + 1)).map ((fun p' : Nat × Nat => p.getD p'.1 0 * q.getD p'.2 0) ∘ fun k => (ws.idxOf (w.take k), ws.idxOf (w.drop k))), y = 0 := fun y hy => by
    obtain ⟨j, hj, rfl⟩ := List.mem_map.mp hy
    have hj := List.mem_range.mp hj
    show p.getD (ws.idxOf (w.take j)) 0 * q.getD (ws.idxOf (w.drop j)) 0 = 0
    by_cases c : j < k
    · rw [hp _ _ (ix_get (C.tk w hm j)).2 (by rw [List.length_take]; omega), Int.zero_mul]
    · rw [hq _ _ (ix_get (C.dr w hm j)).2 (by rw [List.length_drop]; omega), Int.mul_zero]
  generalize (List.range (w.length + 1)).map _ = l at z
  induction l with
  | nil => rfl
  | cons x l ih =>
    rw [List.sum_cons, z x (List.mem_cons_self ..), ih fun y hy => z y (List.mem_cons_of_mem _ hy)]
    rfl
theorem Zr.all {ws : List (List Int)} {k : Nat} {p : List Int} (h : Zr ws k p) (hl : p.length = ws.length) (hs : ∀ w ∈ ws, w.length < k) : p.any (· != 0) = false := by
  rw [List.any_eq_false]
  intro x hx
  obtain ⟨i, hi, rfl⟩ := List.getElem_of_mem hx
  have hi2 : i < ws.length := by omega
  have := h i ws[i] (List.getElem?_eq_getElem hi2) (hs _ (List.getElem_mem hi2))
  rw [List.getD_eq_getElem?_getD, List.getElem?_eq_getElem hi] at this
  have e : p[i] = 0 := this
  rw [e]
  decide
/-! ### brackets -/
inductive Br : List Int → List Int → Prop
  | one (x : Int) : Br [x] [x]
  | two {w u v bu bv : List Int} (h : Halved w u v) (hu : Br u bu) (hv : Br v bv) : Br w (brack bu bv)
theorem brack_len (a b : List Int) : (brack a b).length = 2 * (a.length + b.length) := by
  unfold brack
  rw [List.length_append, List.length_append, List.length_append, back_len, back_len]
  omega
theorem Br.len {w b : List Int} (h : Br w b) : 1 ≤ w.length ∧ b.length * 4 ≤ 4 ^ w.length := by
  induction h with
  | one x => exact ⟨Nat.le_refl _, Nat.le_refl _⟩
  | @two w u v bu bv h _ _ ih1 ih2 =>
    have e : w.length = u.length + v.length := by rw [h.eq, List.length_append]
    refine ⟨by omega, ?_⟩
    rw [brack_len, e, Nat.pow_add]
    have p1 : 4 ≤ 4 ^ u.length := Nat.le_trans (by decide : 4 ≤ 4 ^ 1) (Nat.pow_le_pow_right (by decide) ih1.1)
    have p2 : 4 ≤ 4 ^ v.length := Nat.le_trans (by decide : 4 ≤ 4 ^ 1) (Nat.pow_le_pow_right (by decide) ih2.1)
    generalize 4 ^ u.length = a at *
    generalize 4 ^ v.length = b at *
    have q1 : a * 4 ≤ a * b := Nat.mul_le_mul_left a p2
    have q2 : 4 * b ≤ a * b := Nat.mul_le_mul_right b p1
    omega
theorem Br.len5 {w b : List Int} (h : Br w b) (hw : w.length ≤ 5) : b.length ≤ 256 := by
  have h1 := h.len.2
  have h2 : 4 ^ w.length ≤ 4 ^ 5 := Nat.pow_le_pow_right (by decide) hw
  have h3 : (4 : Nat) ^ 5 = 1024 := by decide
  omega
end Pre

namespace Pre
open PySem PySem.Spec PyProof.Rows L2 R9
/-! ### a ground on the heap -/
def mets : List Str := ["__init__", "letters", "depth", "words", "turnwords", "places", "word_at", "place_of", "size_at", "parts_at", "bracket_at", "partings", "endings", "standings", "bracket_powers"]
/-- a ground, all of it or as far as it's made when its powers are reckoned -/
structure GrP (C : Addr) (H : Hp) (g : Addr) (l d : Nat) : Prop where
  ok : GOk l d
  ex : ∃ (dx pl tu nu pa en : Addr) (fs : List (Str × V)), H g = some (.ins C dx fs) ∧ (∀ m ∈ mets, fs.lookup m = none) ∧ fs.lookup ("letter_count" : Str) = some (.int (l : Nat)) ∧ fs.lookup ("deepest" : Str) = some (.int (d : Nat)) ∧
    fs.lookup ("plain" : Str) = some (.ref pl) ∧ fs.lookup ("turned" : Str) = some (.ref tu) ∧ fs.lookup ("numbered" : Str) = some (.ref nu) ∧ fs.lookup ("parted" : Str) = some (.ref pa) ∧ fs.lookup ("ended" : Str) = some (.ref en) ∧
    Ws H pl (gw l d) ∧ Ws H tu (gt l d) ∧ H nu = some (.dT (numT (gt l d))) ∧ Prt H pa (prt (gw l d)) ∧ EndD H en (gw l d) (ltrs (gw l d))
theorem GrP.same {C : Addr} {H H' : Hp} {g : Addr} {l d : Nat} (x : GrP C H g l d) (s : Same H H') : GrP C H' g l d :=
  ⟨x.ok, let ⟨dx, pl, tu, nu, pa, en, fs, h1, h2, h3, h4, h5, h6, h7, h8, h9, a1, a2, a3, a4, a5⟩ := x.ex
    ⟨dx, pl, tu, nu, pa, en, fs, s _ _ h1, h2, h3, h4, h5, h6, h7, h8, h9, a1.same s, a2.same s, s _ _ a3, a4.t (.of s), a5.same s⟩⟩
/-- what the class is, as the top has made it -/
structure TxtG (K : PySem.W.Frag) (mg : Str → Option Value) (C aD : Addr) : Prop where
  cl : Cls K C
  na : ∀ f ∈ (["letter_count", "deepest", "plain", "turned", "numbered", "parted", "ended", "standing", "powered"] : List Str), NoAttr K C f
  mgD : mg "DEEPEST" = some (.ref aD)
  dp : ∀ H, SqT K H aD [.int 0, .int 5, .int 5, .int 4, .int 3]
theorem TxtG.n {K : PySem.W.Frag} {mg : Str → Option Value} {C aD : Addr} (T : TxtG K mg C aD) (f : Str) (h : f ∈ (["letter_count", "deepest", "plain", "turned", "numbered", "parted", "ended", "standing", "powered"] : List Str) := by decide +kernel) : NoAttr K C f := T.na f h
theorem noM {fs : List (Str × V)} (h : ∀ m ∈ mets, fs.lookup m = none) (m : Str) (hm : m ∈ mets := by decide +kernel) : fs.lookup m = none := h m hm
theorem fm_len {l : Nat} (hl : l ≤ 4) : ∀ i, i ≤ 6 → ((List.range i).flatMap (pw l)).length ≤ 1024 * i
  | 0, _ => Nat.le_refl _
  | i + 1, h => by
    rw [List.range_succ, List.flatMap_append, List.length_append]
    simp only [List.flatMap_cons, List.flatMap_nil, List.append_nil]
    rw [pw_len]
    have a1 := fm_len hl i (by omega)
    have a2 := pow_le (l := l) (n := i) hl (by omega)
    omega
theorem num_key {H : Hp} {c : Addr} {u : List Int} (hc : WT H c u) : H c = some (.tup ((keyW u).map kV)) := by rw [keyW_kV]; exact hc
theorem num_get {H : Hp} {D c : Addr} {ws : List (List Int)} {u : List Int} (hD : H D = some (.dT (numT ws))) (hc : WT H c u) (hu : u ∈ ws) : DGet H D (.ref c) (some (.int (ws.idxOf u : Nat))) := by
  have := DGet.t (k := keyW u) hD (num_key hc)
  rwa [numT_val hu] at this
theorem num_step {H : Hp} {D c : Addr} {ws : List (List Int)} (nd : ws.Nodup) (hl : ws.length ≤ 1000) {i : Nat} (hi : i < ws.length) (hD : H D = some (.dT (numT (ws.take i)))) (hc : WT H c ws[i]) :
    DPut H D (.ref c) (.int (i : Nat)) (upd H D (.dT (numT (ws.take (i + 1))))) := by
  have hn := take_not nd hi
  have ln : (ws.take i).length = i := by rw [List.length_take]; omega
  have := DPut.t (k := keyW ws[i]) (v := .int (i : Nat)) hD (num_key hc) (by rw [numF_len, ln]; exact Nat.lt_of_le_of_lt (show i ≤ 1000 by omega) (by decide))
  have e := numT_put hn
  rw [ln] at e
  rw [List.take_succ_eq_append_getElem hi, ← e]
  exact this
theorem prtW_at (ws : List (List Int)) (w : List Int) {k : Nat} (h : k < (prtW ws w).length) : (prtW ws w)[k] = (ws.idxOf (w.take k), ws.idxOf (w.drop k)) := by
  have ln : (prtW ws w).length = w.length + 1 := by unfold prtW; rw [List.length_map, List.length_range]
  have : (prtW ws w)[k]? = some (ws.idxOf (w.take k), ws.idxOf (w.drop k)) := by
    unfold prtW
    rw [List.getElem?_map, List.getElem?_range (by omega)]
    rfl
  exact (List.getElem?_eq_some_iff.mp this).2
theorem prt_at {ws : List (List Int)} {w : List Int} {j : Nat} (hw : ws[j]? = some w) (h : j < (prt ws).length) : (prt ws)[j] = prtW ws w := by
  have : (prt ws)[j]? = some (prtW ws w) := by
    unfold prt
    rw [List.getElem?_map, hw]
    rfl
  exact (List.getElem?_eq_some_iff.mp this).2
theorem end_put {H : Hp} {D t : Addr} {ws : List (List Int)} {ls : List Int} {y : Int} {kvs : List (Key × V)} (h1 : H D = some (.dK kvs)) (h2 : kvs.length ≤ ls.length) (h3 : ∀ x ∈ ls, ∃ t, valV kvs (Sum.inl x) = some (V.ref t) ∧ Prs H t (endW ws x))
    (h4 : ∀ x, x ∉ ls → valV kvs (Sum.inl x) = none) (ht : Prs H t (endW ws y)) : EndD (upd H D (.dK (putK kvs (Sum.inl y) (.ref t)))) D ws (ls ++ [y]) := by
  have st : SameT H (upd H D (.dK (putK kvs (Sum.inl y) (.ref t)))) := .updK h1
  refine ⟨_, upd_same, ?_, fun x hx => ?_, fun x hx => ?_⟩
  · have := length_putK kvs (Sum.inl y) (V.ref t)
    rw [List.length_append]
    simp only [List.length_cons, List.length_nil]
    omega
  · by_cases e : x = y
    · subst e
      exact ⟨t, by rw [valV_put, if_pos rfl], ht.t st⟩
    · obtain ⟨u, a, b⟩ := h3 x ((List.mem_append.mp hx).elim id fun z => absurd (List.mem_singleton.mp z) e)
      exact ⟨u, by rw [valV_put, if_neg (fun z => e (Sum.inl.inj z))]; exact a, b.t st⟩
  · have e : x ≠ y := fun z => hx (List.mem_append_right _ (List.mem_singleton.mpr z))
    rw [valV_put, if_neg (fun z => e (Sum.inl.inj z))]
    exact h4 x fun z => hx (List.mem_append_left _ z)
theorem ltrs_take {ws : List (List Int)} {i : Nat} (hi : i < ws.length) : ltrs (ws.take (i + 1)) = ltrs (ws.take i) ++ (if ws[i].length = 1 then [ws[i].getD 0 0] else []) := by
  unfold ltrs
  rw [List.take_succ_eq_append_getElem hi, List.filter_append, List.map_append]
  by_cases c : ws[i].length = 1
  · rw [if_pos c, List.filter_cons_of_pos (by simp [c])]; rfl
  · rw [if_neg c, List.filter_cons_of_neg (by simp [c])]; rfl
theorem ltrs_len (ws : List (List Int)) : (ltrs ws).length ≤ ws.length := by unfold ltrs; rw [List.length_map]; exact List.length_filter_le ..
def endG (ws : List (List Int)) (x : Int) (us : List (List Int)) : List (Nat × Nat) := (us.filter (lastIs x)).map fun w => (ws.idxOf w, ws.idxOf w.dropLast)
theorem endG_take {ws us : List (List Int)} {x : Int} {i : Nat} (hi : i < us.length) : endG ws x (us.take (i + 1)) = endG ws x (us.take i) ++ (if lastIs x us[i] = true then [(ws.idxOf us[i], ws.idxOf us[i].dropLast)] else []) := by
  unfold endG
  rw [List.take_succ_eq_append_getElem hi, List.filter_append, List.map_append]
  by_cases c : lastIs x us[i] = true
  · rw [if_pos c, List.filter_cons_of_pos c]; rfl
  · rw [if_neg c, List.filter_cons_of_neg c]; rfl
theorem endG_len (ws us : List (List Int)) (x : Int) : (endG ws x us).length ≤ us.length := by unfold endG; rw [List.length_map]; exact List.length_filter_le ..
theorem paired_at {α β : Type} {F : α → β → Prop} : ∀ {as : List α} {bs : List β}, Paired F as bs → ∀ {i : Nat} {b : β}, bs[i]? = some b → ∃ a, as[i]? = some a ∧ F a b
  | _, _, .nil, i, b, h => by simp at h
  | _, _, .cons r t, 0, b, h => by rw [List.getElem?_cons_zero] at h; cases h; exact ⟨_, rfl, r⟩
  | _, _, .cons r t, i + 1, b, h => by rw [List.getElem?_cons_succ] at h; obtain ⟨a, e, f⟩ := paired_at t h; exact ⟨a, by rw [List.getElem?_cons_succ]; exact e, f⟩
theorem ref_at {ps : List Addr} {i : Nat} {p : Addr} (h : ps[i]? = some p) : atI (ps.map V.ref) (i : Int) = some (V.ref p) := atI_nat (by rw [List.getElem?_map, h]; rfl)
theorem halved_in {l d : Nat} {w u v : List Int} (hw : w ∈ gt l d) (h : Halved w u v) : u ∈ gt l d ∧ v ∈ gt l d := by
  obtain ⟨h1, h2, h3⟩ := gt_mem.mp hw
  have e := congrArg List.length h.eq
  rw [List.length_append] at e
  refine ⟨gt_mem.mpr ⟨by omega, fun x hx => h2 x (by rw [h.eq]; exact List.mem_append_left _ hx), h.one⟩, gt_mem.mpr ⟨by omega, fun x hx => h2 x (by rw [h.eq]; exact List.mem_append_right _ hx), h.two⟩⟩
theorem getD_at {ns : List Int} {i : Nat} (hi : i < ns.length) : (ns.map V.int)[i]? = some (V.int (ns.getD i 0)) := by
  rw [at_int' hi, List.getD_eq_getElem?_getD, List.getElem?_eq_getElem hi]; rfl
theorem ixD_rd {K : PySem.W.Frag} {H : Hp} {a : Addr} {ns : List Int} {i : Nat} {R : VK} (ha : Wd H a ns) (hi : i < ns.length) (h : R (.int (ns.getD i 0)) H) : rIx K (.ref a) (.int (i : Nat)) H R := by
  rcases ha with ha | ha
  · exact .inr (.inl ⟨a, _, _, _, rfl, rfl, SqT.of ha, atI_nat (getD_at hi), h⟩)
  · exact .inl ⟨a, _, _, _, rfl, rfl, SqL.of ha, atI_nat (getD_at hi), h⟩
theorem slR_rd {K : PySem.W.Frag} {H : Hp} {a : Addr} {qs : List Addr} {R : VK} (ha : H a = some (.tup (qs.map V.ref))) (h : ∀ (c : Addr) (H' : Hp), H' c = some (.tup ((qs.drop 1).map V.ref)) → Same H H' → R (.ref c) H') : R3.rSlA K (.ref a) (some 1) none H R := by
  refine ⟨a, _, rfl, SqT.of ha, fun z => ?_, fun _ p hp => ?_⟩
  · have e : qs = [] := by
      have z1 := z.1
      have : HT.sIx (qs.map V.ref).length 0 (some ((1 : Nat) : Int)) = min 1 (qs.map V.ref).length := HT.sIx_nat ..
      rw [show (some (1 : Int)) = some ((1 : Nat) : Int) from rfl, this, List.length_map] at z1
      exact List.length_eq_zero_iff.mp (by omega)
    subst e
    exact h a H ha fun _ _ h => h
  · refine h p _ ?_ (same_new hp _)
    rw [upd_same]
    exact congrArg (fun z => some (HO.tup z)) (cutV_from qs 1)
theorem endW_lt {ws : List (List Int)} (C : Cl ws) {x : Int} {p : Nat × Nat} (h : p ∈ endW ws x) : p.1 < ws.length ∧ p.2 < ws.length := by
  unfold endW at h
  obtain ⟨w, hw, rfl⟩ := List.mem_map.mp h
  have hm := (List.mem_filter.mp hw).1
  exact ⟨(ix_get hm).1, (ix_get (by rw [List.dropLast_eq_take]; exact C.tk w hm _)).1⟩
theorem rev_at {α : Type} {xs : List α} {i : Nat} (hi : i < xs.length) {x : α} (h : xs[xs.length - 1 - i]? = some x) : xs.reverse[i]? = some x := by
  rw [List.getElem?_reverse hi]
  exact h
theorem set_ints (ns : List Int) (i : Nat) (y : Int) : (ns.map V.int).set i (V.int y) = (ns.set i y).map V.int := by rw [List.map_set]
theorem fold_take {f : List Int → Nat × Nat → List Int} {ps : List (Nat × Nat)} {t : List Int} {i : Nat} {p : Nat × Nat} (h : ps[i]? = some p) : (ps.take (i + 1)).foldl f t = f ((ps.take i).foldl f t) p := by
  obtain ⟨hi, e⟩ := List.getElem?_eq_some_iff.mp h
  rw [List.take_succ_eq_append_getElem hi, List.foldl_append, e]
  rfl
theorem scat_take {ws : List (List Int)} {u t : List Int} {i : Nat} (hi : i < u.length) : (u.take (i + 1)).foldl (stepW ws) t = stepW ws ((u.take i).foldl (stepW ws) t) u[i] := by
  rw [List.take_succ_eq_append_getElem hi, List.foldl_append]
  rfl
theorem prt_lt {ws : List (List Int)} (C : Cl ws) {prs : List (Nat × Nat)} (h : prs ∈ prt ws) : prs.length ≤ 11 ∧ ∀ p ∈ prs, p.1 < ws.length ∧ p.2 < ws.length := by
  unfold prt at h
  obtain ⟨w, hw, rfl⟩ := List.mem_map.mp h
  have := C.siz w hw
  unfold prtW
  refine ⟨by rw [List.length_map, List.length_range]; omega, fun p hp => ?_⟩
  obtain ⟨k, _, rfl⟩ := List.mem_map.mp hp
  exact ⟨(ix_get (C.tk w hw k)).1, (ix_get (C.dr w hw k)).1⟩
theorem WL.updR {H : Hp} {D p : Addr} {qs : List Addr} {o : HO} {ns : List Int} (h : WL H p ns) (hn : 1 ≤ ns.length) (hD : H D = some (.lst (qs.map V.ref))) : WL (upd H D o) p ns := by
  have ne : p ≠ D := by
    refine ne_of h hD fun z => ?_
    injection z with z
    cases ns with
    | nil => simp at hn
    | cons x r =>
      cases qs with
      | nil => simp at z
      | cons y s => simp at z
  unfold WL
  rw [upd_ne ne]
  exact h
theorem WL.same {H H' : Hp} {p : Addr} {ns : List Int} (h : WL H p ns) (s : Same H H') : WL H' p ns := s _ _ h
theorem powsF_no {ws : List (List Int)} {rest p : List Int} (h : p.any (· != 0) = false) : ∀ n, powsF ws rest n p = []
  | 0 => rfl
  | n + 1 => by rw [powsF, h]; rfl
theorem powsF_yes {ws : List (List Int)} {rest p : List Int} (h : p.any (· != 0) = true) {n : Nat} (hn : 1 ≤ n) : powsF ws rest n p = p :: powsF ws rest (n - 1) (joinW ws p rest) := by
  obtain ⟨m, rfl⟩ : ∃ m, n = m + 1 := ⟨n - 1, by omega⟩
  rw [powsF, h]; rfl
theorem powsF_len (ws : List (List Int)) (rest : List Int) : ∀ (n : Nat) (p : List Int), (powsF ws rest n p).length ≤ n
  | 0, _ => Nat.le_refl _
  | n + 1, p => by
    rw [powsF]
    split
    · rw [List.length_cons]; exact Nat.succ_le_succ (powsF_len ws rest n _)
    · exact Nat.zero_le _
theorem if_no {c : Bool} {A B : Prop} (h : c = false) (b : B) : if c = true then A else B := by subst h; exact b
theorem if_yes {c : Bool} {A B : Prop} (h : c = true) (a : A) : if c = true then A else B := by subst h; exact a
theorem putF_len (f : Str) (v : V) : ∀ fs : List (Str × V), (putF f v fs).length ≤ fs.length + 1
  | [] => Nat.le_refl _
  | (g, x) :: r => by
    unfold putF
    split
    · rw [List.length_cons, List.length_cons]; omega
    · rw [List.length_cons, List.length_cons]
      have := putF_len f v r
      omega
theorem num_no {H : Hp} {D c : Addr} {ws : List (List Int)} {u : List Int} (hD : H D = some (.dT (numT ws))) (hc : WT H c u) (hu : u ∉ ws) : DGet H D (.ref c) none := by
  have := DGet.t (k := keyW u) hD (num_key hc)
  rwa [numT_not hu] at this
theorem deepest_at {l d : Nat} (ok : GOk l d) : ∃ m : Nat, ([V.int 0, .int 5, .int 5, .int 4, .int 3] : List V)[l]? = some (V.int (m : Nat)) ∧ d ≤ m := by
  have h1 := ok.l1; have h2 := ok.l4; have h3 := ok.dm
  rcases (by omega : l = 1 ∨ l = 2 ∨ l = 3 ∨ l = 4) with rfl | rfl | rfl | rfl
  · exact ⟨5, rfl, h3⟩
  · exact ⟨5, rfl, h3⟩
  · exact ⟨4, rfl, h3⟩
  · exact ⟨3, rfl, h3⟩
/-! ### all but objects stay -/
def notIns : HO → Prop
  | .ins .. => False
  | _ => True
def SameN (H H' : Hp) : Prop := ∀ b o, notIns o → H b = some o → H' b = some o
theorem SameN.of {H H' : Hp} (s : Same H H') : SameN H H' := fun b o _ h => s b o h
theorem SameN.trans {H H1 H2 : Hp} (x : SameN H H1) (y : SameN H1 H2) : SameN H H2 := fun b o n h => y b o n (x b o n h)
theorem SameN.t {H H' : Hp} (s : SameN H H') : SameT H H' := fun b ys h => s b _ trivial h
theorem SameN.upd {H : Hp} {g C dx : Addr} {fs : List (Str × V)} {o : HO} (hg : H g = some (.ins C dx fs)) : SameN H (L2.upd H g o) := fun b u n h => by
  rw [upd_ne (ne_of h hg (fun z => by rw [z] at n; exact n))]
  exact h
theorem SameN.dT {H H' : Hp} {b : Addr} {kvs : List (List Key × V)} (s : SameN H H') (h : H b = some (.dT kvs)) : H' b = some (.dT kvs) := s b (.dT kvs) True.intro h
theorem Ws.n {H H' : Hp} {r : Addr} {wss : List (List Int)} (h : Ws H r wss) (s : SameN H H') : Ws H' r wss := let ⟨ps, h1, h2⟩ := h; ⟨ps, s _ _ trivial h1, h2.t s.t⟩
theorem EndD.n {H H' : Hp} {D : Addr} {ws : List (List Int)} {ls : List Int} (x : EndD H D ws ls) (s : SameN H H') : EndD H' D ws ls :=
  let ⟨kvs, h1, h2, h3, h4⟩ := x; ⟨kvs, s _ _ trivial h1, h2, fun x hx => let ⟨t, a, b⟩ := h3 x hx; ⟨t, a, b.t s.t⟩, h4⟩
/-- the places' words, by their numbers -/
def standF (k : Nat) : List (List Int) → List Int
  | [] => []
  | w :: r => if tw w = true then (k : Int) :: standF (k + 1) r else standF (k + 1) r
theorem standF_app : ∀ (ws : List (List Int)) (k : Nat) (w : List Int), standF k (ws ++ [w]) = standF k ws ++ (if tw w = true then [((k + ws.length : Nat) : Int)] else [])
  | [], k, w => by
    show (if tw w = true then (k : Int) :: [] else []) = _
    split <;> rfl
  | u :: r, k, w => by
    rw [List.cons_append, standF, standF_app r (k + 1) w, standF, List.length_cons, show k + 1 + r.length = k + (r.length + 1) by omega]
    split <;> rfl
theorem standF_len : ∀ (ws : List (List Int)) (k : Nat), (standF k ws).length ≤ ws.length
  | [], _ => Nat.le_refl _
  | w :: r, k => by
    rw [standF, List.length_cons]
    have := standF_len r (k + 1)
    split
    · rw [List.length_cons]; omega
    · omega
def standW (l d : Nat) : List Int := standF 0 (gw l d)
theorem stand_take {ws : List (List Int)} {i : Nat} (hi : i < ws.length) : standF 0 (ws.take (i + 1)) = standF 0 (ws.take i) ++ (if tw ws[i] = true then [(i : Int)] else []) := by
  rw [List.take_succ_eq_append_getElem hi, standF_app, List.length_take, Nat.zero_add, Nat.min_eq_left (by omega)]
theorem filter_take {ws : List (List Int)} {i : Nat} (hi : i < ws.length) : (ws.take (i + 1)).filter tw = (ws.take i).filter tw ++ (if tw ws[i] = true then [ws[i]] else []) := by
  rw [List.take_succ_eq_append_getElem hi, List.filter_append]
  congr 1
  by_cases c : tw ws[i] = true
  · rw [if_pos c, List.filter_cons_of_pos c]; rfl
  · rw [if_neg c, List.filter_cons_of_neg c]; rfl
/-! ### promises -/
def spWordsUp : Sp := fun vs H Q _ => ∃ (l d : Nat), vs = [.int (l : Nat), .int (d : Nat)] ∧ GOk l d ∧ ∀ (r : Addr) (H' : Hp), H r = none → Ws H' r (gw l d) → Same H H' → Q (.ref r) H'
def spPartings : Sp := fun vs H Q _ => ∃ (a : Addr) (ws : List (List Int)), vs = [.ref a] ∧ Ws H a ws ∧ Cl ws ∧ ∀ (t : Addr) (H' : Hp), Prt H' t (prt ws) → Same H H' → Q (.ref t) H'
def spEndings : Sp := fun vs H Q _ => ∃ (a : Addr) (ws : List (List Int)), vs = [.ref a] ∧ Ws H a ws ∧ Cl ws ∧ ∀ (t : Addr) (H' : Hp), EndD H' t ws (ltrs ws) → Same H H' → Q (.ref t) H'
def spMPart (C : Addr) : Sp := fun vs H Q _ => ∃ (g : Addr) (l d : Nat), vs = [.ref g] ∧ GrP C H g l d ∧ ∀ pa, Prt H pa (prt (gw l d)) → Q (.ref pa) H
def spMEnd (C : Addr) : Sp := fun vs H Q _ => ∃ (g : Addr) (x : Int) (l d : Nat), vs = [.ref g, .int x] ∧ GrP C H g l d ∧ ∀ t H', Prs H' t (endW (gw l d) x) → Same H H' → Q (.ref t) H'
def spMSize (C : Addr) : Sp := fun vs H Q _ => ∃ (g : Addr) (i : Nat) (w : List Int) (l d : Nat), vs = [.ref g, .int (i : Nat)] ∧ GrP C H g l d ∧ (gt l d)[i]? = some w ∧ Q (.int (w.length : Nat)) H
def spMPlace (C : Addr) : Sp := fun vs H Q _ => ∃ (g a : Addr) (w : List Int) (l d : Nat), vs = [.ref g, .ref a] ∧ GrP C H g l d ∧ Wd H a w ∧ w ∈ gt l d ∧ ∀ H', Same H H' → Q (.int ((gt l d).idxOf w : Nat)) H'
def spMParts (C : Addr) : Sp := fun vs H Q _ => ∃ (g : Addr) (i : Nat) (w : List Int) (l d : Nat), vs = [.ref g, .int (i : Nat)] ∧ GrP C H g l d ∧ (gt l d)[i]? = some w ∧
  (w.length = 1 → Q .non H) ∧ ∀ t u v H', Halved w u v → 2 ≤ w.length → u ∈ gt l d → v ∈ gt l d → H' t = some (.tup [.int ((gt l d).idxOf u : Nat), .int ((gt l d).idxOf v : Nat)]) → Same H H' → Q (.ref t) H'
def spMBr (C : Addr) (n : Nat) : Sp := fun vs H Q _ => ∃ (g : Addr) (i : Nat) (w : List Int) (l d : Nat), vs = [.ref g, .int (i : Nat)] ∧ GrP C H g l d ∧ (gt l d)[i]? = some w ∧ w.length ≤ n ∧
  ∀ t b H', Br w b → WT H' t b → Same H H' → Q (.ref t) H'
def spEmpty (C : Addr) : Sp := fun vs H Q _ => ∃ (g : Addr) (l d : Nat), vs = [.ref g] ∧ GrP C H g l d ∧ ∀ r H', H r = none → WL H' r (emptyW (gw l d)) → Same H H' → Q (.ref r) H'
def spScat (C : Addr) : Sp := fun vs H Q _ => ∃ (g a : Addr) (u : List Int) (l d : Nat), vs = [.ref g, .ref a] ∧ GrP C H g l d ∧ Wd H a u ∧ u.length ≤ 10000 ∧ ∀ r H', H r = none → WL H' r (scatW (gw l d) u) → Same H H' → Q (.ref r) H'
def spJoin (C : Addr) : Sp := fun vs H Q _ => ∃ (g a b : Addr) (one other : List Int) (l d : Nat) (k m : Nat), vs = [.ref g, .ref a, .ref b] ∧ GrP C H g l d ∧ Wd H a one ∧ Wd H b other ∧ one.length = (gw l d).length ∧ other.length = (gw l d).length ∧
  Bds k one ∧ Bds m other ∧ k ≤ 1000000 ∧ m ≤ 1000000 ∧ ∀ r H', H r = none → WL H' r (joinW (gw l d) one other) → Same H H' → Q (.ref r) H'
/-- a list of lists, a tuple of tuples of numbers -/
def LL (H : Hp) (r : Addr) (ns : List (List Int)) : Prop := ∃ ps : List Addr, H r = some (.lst (ps.map V.ref)) ∧ Paired (fun p n => WL H p n) ps ns
def TT2 (H : Hp) (r : Addr) (ns : List (List Int)) : Prop := ∃ ps : List Addr, H r = some (.tup (ps.map V.ref)) ∧ WsAt H ps ns
theorem TT2.t {H H' : Hp} {r : Addr} {ns : List (List Int)} (x : TT2 H r ns) (s : SameT H H') : TT2 H' r ns := let ⟨ps, h1, h2⟩ := x; ⟨ps, s _ _ h1, h2.t s⟩
def powsW (l d : Nat) (one : List Int) : List (List Int) := emptyW (gw l d) :: powsF (gw l d) (restW one) (d + 1) (restW one)
def spRest (C : Addr) : Sp := fun vs H Q _ => ∃ (g a : Addr) (one : List Int) (l d : Nat) (k : Nat), vs = [.ref g, .ref a] ∧ GrP C H g l d ∧ Wd H a one ∧ one.length = (gw l d).length ∧ Bds k one ∧ k ≤ 100000 ∧
  ∀ r H', H r = none → LL H' r (powsW l d one) → Same H H' → Q (.ref r) H'
def spAllP (C : Addr) : Sp := fun vs H Q _ => ∃ (g : Addr) (i : Nat) (w : List Int) (l d : Nat), vs = [.ref g, .int (i : Nat)] ∧ GrP C H g l d ∧ (gt l d)[i]? = some w ∧
  ∀ t b H', Br w b → TT2 H' t (powsW l d (scatW (gw l d) b)) → Same H H' → Q (.ref t) H'
/-- the powers of all brackets -/
def PwL (H : Hp) (r : Addr) (l d : Nat) : Prop := ∃ ps : List Addr, H r = some (.lst (ps.map V.ref)) ∧ Paired (fun p w => ∃ b, Br w b ∧ TT2 H p (powsW l d (scatW (gw l d) b))) ps (gt l d)
theorem PwL.n {H H' : Hp} {r : Addr} {l d : Nat} (x : PwL H r l d) (s : SameN H H') : PwL H' r l d :=
  let ⟨ps, h1, h2⟩ := x; ⟨ps, s _ _ trivial h1, Paired.imp' (fun _ _ ⟨b, h, t⟩ => ⟨b, h, t.t s.t⟩) h2⟩
/-- a ground, all of it -/
structure Gr (C : Addr) (H : Hp) (g : Addr) (l d : Nat) : Prop where
  p : GrP C H g l d
  ex : ∃ (dx st pw : Addr) (fs : List (Str × V)), H g = some (.ins C dx fs) ∧ fs.lookup ("standing" : Str) = some (.ref st) ∧ fs.lookup ("powered" : Str) = some (.ref pw) ∧ WT H st (standW l d) ∧ PwL H pw l d
theorem Gr.same {C : Addr} {H H' : Hp} {g : Addr} {l d : Nat} (x : Gr C H g l d) (s : Same H H') : Gr C H' g l d :=
  ⟨x.p.same s, let ⟨dx, st, pw, fs, h1, h2, h3, h4, h5⟩ := x.ex; ⟨dx, st, pw, fs, s _ _ h1, h2, h3, h4.same s, h5.n (.of s)⟩⟩
def spInit (C : Addr) : Sp := fun vs H Q _ => ∃ (g dx : Addr) (l d : Nat), vs = [.ref g, .int (l : Nat), .int (d : Nat)] ∧ H g = some (.ins C dx []) ∧ GOk l d ∧ ∀ H', Gr C H' g l d → SameB g H H' → Q .non H'
end Pre

namespace Pre
open PySem PySem.Spec PyProof.Rows L2 R9
theorem star_tup (es : List Expr) (k) (p : Pos) (rest : List Expr) (env : Env) : starEach (.Tuple es k p :: rest) env = (false, eval (.Tuple es k p) env) :: starEach rest env := rfl
theorem sw_lst {es : List Expr} {p q : Pos} {n : Nat} {x : Str} {env : Env} : swapsWith (.List es p) (some (.Name x q)) n env = pure false := rfl
/-! ### the same rules, to be used with @ : else Lean, to find out how many arguments there are, runs the text -/
theorem pa_tupU {X : Cx} {es : List Expr} {k} {p : Pos} {rest : List Expr} {te : TE} {t : TA} (ha : PE X (.Tuple es k p) te) (hr : PA X rest t) : PA X (.Tuple es k p :: rest) (tCons te t) := pa_cons ha hr (star_tup es k p rest X.env)
theorem pe_tupU {X : Cx} {es : List Expr} {t : TA} {pos : Pos} {x1} (h : PA X es t) : PE X (.Tuple es x1 pos) (tTupN t) := pe_tupN h
theorem pe_lstU {X : Cx} {es : List Expr} {t : TA} {pos : Pos} (h : PA X es t) : PE X (.List es pos) (tLstN t) := pe_lstN h
theorem ps_setU {X : Cx} {i : Nat} {x : Str} {es : List Expr} {te : TE} {pos' p pos : Pos} (hN : X.N.Nodup) (hi : X.N[i]? = some x) (hx : Loc X.env.scope x) (he : PE X (.List es p) te) (hf : X.fn x = true ∨ X.env.scope.names.lookup x = some .local) :
    PS X (.Assign [.Name x pos'] (.List es p) pos) (tAsg te (gName i)) := ps_set hN hi hx he sw_lst hf
theorem pss_consU {X : Cx} {st : Stmt} {rest : List Stmt} {t v : TS} (h1 : PS X st t) (h2 : PSs X rest v) : PSs X (st :: rest) (tSeq t v) := pss_cons h1 h2
theorem pss_oneU {X : Cx} {st : Stmt} {t : TS} (h1 : PS X st t) : PSs X [st] t := pss_one h1
theorem ps_ifU {X : Cx} {c : Expr} {a b : List Stmt} {pos : Pos} {tA : TT} {ta tb : TS} (hc : PT X c tA) (ha : PSs X a ta) (hb : PSs X b tb) : PS X (.If c a b pos) (tIfS tA ta tb) := ps_if hc ha hb
theorem ps_retU {X : Cx} {e : Expr} {te : TE} {pos : Pos} (he : PE X e te) : PS X (.Return (some e) pos) (tRet te) := ps_ret he
theorem pe_ixU {X : Cx} {a b : Expr} {ta tb : TE} {pos : Pos} {r : R2} (hr : IxR X r) (ha : PE X a ta) (hb : PE X b tb) (hs : PlainIx b) : PE X (.Subscript a b pos) (tOp r ta tb) := pe_ix hr ha hb hs
end Pre

namespace Pre
/-! ### sums as functions of words: products -/
abbrev Ser := List Int → Int
def conv : Ser → Ser → Ser
  | f, g, [] => f [] * g []
  | f, g, a :: w => f [] * g (a :: w) + conv (fun v => f (a :: v)) g w
termination_by _ _ w => w.length
def oneF : Ser := fun w => if w = [] then 1 else 0
theorem conv_nil (f g : Ser) : conv f g [] = f [] * g [] := by rw [conv]
theorem conv_cons (f g : Ser) (a : Int) (w : List Int) : conv f g (a :: w) = f [] * g (a :: w) + conv (fun v => f (a :: v)) g w := by rw [conv]
theorem conv_add_left (f p g : Ser) (w : List Int) : conv (fun v => f v + p v) g w = conv f g w + conv p g w := by
  induction w generalizing f p with
  | nil => rw [conv_nil, conv_nil, conv_nil]; exact Int.add_mul ..
  | cons a w ih => rw [conv_cons, conv_cons, conv_cons, ih]; grind
theorem conv_mul_left (c : Int) (f g : Ser) (w : List Int) : conv (fun v => c * f v) g w = c * conv f g w := by
  induction w generalizing f with
  | nil => rw [conv_nil, conv_nil]; exact Int.mul_assoc ..
  | cons a w ih => rw [conv_cons, conv_cons, ih]; grind
theorem conv_zero_left (g : Ser) (w : List Int) : conv (fun _ => 0) g w = 0 := by
  induction w with
  | nil => rw [conv_nil]; exact Int.zero_mul _
  | cons a w ih => rw [conv_cons, ih]; grind
theorem conv_add_right (f g p : Ser) (w : List Int) : conv f (fun v => g v + p v) w = conv f g w + conv f p w := by
  induction w generalizing f with
  | nil => rw [conv_nil, conv_nil, conv_nil]; exact Int.mul_add ..
  | cons a w ih => rw [conv_cons, conv_cons, conv_cons, ih]; grind
theorem conv_mul_right (c : Int) (f g : Ser) (w : List Int) : conv f (fun v => c * g v) w = c * conv f g w := by
  induction w generalizing f with
  | nil => rw [conv_nil, conv_nil]; grind
  | cons a w ih => rw [conv_cons, conv_cons, ih]; grind
theorem conv_assoc' (f g h : Ser) (w : List Int) : conv (conv f g) h w = conv f (conv g h) w := by
  induction w generalizing f g with
  | nil => rw [conv_nil, conv_nil, conv_nil, conv_nil]; exact Int.mul_assoc ..
  | cons a w ih =>
    rw [conv_cons, conv_cons, conv_cons, conv_nil]
    have e : (fun v => conv f g (a :: v)) = fun v => (fun u => f [] * g (a :: u)) v + conv (fun u => f (a :: u)) g v := by
      funext v; rw [conv_cons]
    rw [e, conv_add_left, conv_mul_left (f []) (fun u => g (a :: u)), ih]
    grind
theorem conv_assoc (f g h : Ser) : conv (conv f g) h = conv f (conv g h) := funext (conv_assoc' f g h)
theorem one_conv (g : Ser) : conv oneF g = g := by
  funext w
  cases w with
  | nil => rw [conv_nil]; exact Int.one_mul _
  | cons a w =>
    rw [conv_cons]
    have e : (fun v => oneF (a :: v)) = fun _ => (0 : Int) := by funext v; exact if_neg (by simp)
    rw [e, conv_zero_left]
    show 1 * _ + 0 = _
    grind
theorem conv_one (f : Ser) : conv f oneF = f := by
  funext w
  induction w generalizing f with
  | nil => rw [conv_nil]; exact Int.mul_one _
  | cons a w ih =>
    rw [conv_cons, ih, show oneF (a :: w) = 0 from if_neg (by simp)]
    grind
/-- what a product tells of a word rests on its parts alone -/
theorem conv_congr {f f' g g' : Ser} {w : List Int} (hf : ∀ k, f (w.take k) = f' (w.take k)) (hg : ∀ k, g (w.drop k) = g' (w.drop k)) : conv f g w = conv f' g' w := by
  induction w generalizing f f' with
  | nil => rw [conv_nil, conv_nil, show f [] = f' [] from hf 0, show g [] = g' [] from hg 0]
  | cons a w ih =>
    rw [conv_cons, conv_cons, show f [] = f' [] from hf 0, show g (a :: w) = g' (a :: w) from hg 0]
    rw [ih (f := fun v => f (a :: v)) (f' := fun v => f' (a :: v)) (fun k => hf (k + 1)) (fun k => hg (k + 1))]
theorem range_map_succ {α : Type} (n : Nat) (f : Nat → α) : (List.range (n + 1)).map f = f 0 :: (List.range n).map fun k => f (k + 1) := by
  rw [List.range_succ_eq_map, List.map_cons, List.map_map]
  rfl
theorem conv_sum (f g : Ser) (w : List Int) : conv f g w = ((List.range (w.length + 1)).map fun k => f (w.take k) * g (w.drop k)).sum := by
  induction w generalizing f with
  | nil => rw [conv_nil]; simp
  | cons a w ih =>
    rw [conv_cons, ih, List.length_cons, range_map_succ (w.length + 1), List.sum_cons]
    rfl
/-- a letter or its back -/
def elt (x : Int) : Ser := fun w => if 0 < x then (if w = [] then 1 else if w = [x] then 1 else 0) else if w.all (fun y => decide (y = -x)) then (-1) ^ w.length else 0
theorem elt_nil (x : Int) : elt x [] = 1 := by
  unfold elt
  split <;> simp
theorem elt_pos {x : Int} (h : 0 < x) (a : Int) (w : List Int) : elt x (a :: w) = if a = x ∧ w = [] then 1 else 0 := by
  unfold elt
  rw [if_pos h, if_neg (by simp)]
  simp
theorem elt_neg {x : Int} (h : ¬ 0 < x) (a : Int) (w : List Int) : elt x (a :: w) = if a = -x then - elt x w else 0 := by
  unfold elt
  rw [if_neg h, if_neg h, List.all_cons]
  by_cases c : a = -x
  · rw [if_pos c, decide_eq_true c, Bool.true_and]
    split
    · rw [List.length_cons, Int.pow_succ]; grind
    · rfl
  · rw [if_neg c, decide_eq_false c, Bool.false_and]
    simp
theorem pos_neg {x : Int} (h : 0 < x) : conv (elt x) (elt (-x)) = oneF := by
  funext w
  cases w with
  | nil => rw [conv_nil, elt_nil, elt_nil]; rfl
  | cons a w =>
    rw [conv_cons, elt_nil, elt_neg (by omega), show oneF (a :: w) = 0 from if_neg (by simp)]
    by_cases c : a = x
    · subst c
      have e : (fun v => elt a (a :: v)) = oneF := by
        funext v; rw [elt_pos h]; unfold oneF; simp
      rw [e, one_conv, if_pos (by omega)]
      grind
    · have e : (fun v => elt x (a :: v)) = fun _ => (0 : Int) := by
        funext v; rw [elt_pos h, if_neg (fun z => c z.1)]
      rw [e, conv_zero_left, if_neg (by omega)]
      grind
theorem neg_pos {x : Int} (h : 0 < x) : conv (elt (-x)) (elt x) = oneF := by
  funext w
  induction w with
  | nil => rw [conv_nil, elt_nil, elt_nil]; rfl
  | cons a w ih =>
    rw [conv_cons, elt_nil, elt_pos h, show oneF (a :: w) = 0 from if_neg (by simp)]
    by_cases c : a = x
    · subst c
      have e : (fun v => elt (-a) (a :: v)) = fun v => (-1) * elt (-a) v := by
        funext v; rw [elt_neg (by omega), if_pos (by omega)]; grind
      rw [e, conv_mul_left, ih]
      unfold oneF
      by_cases d : w = []
      · rw [if_pos ⟨rfl, d⟩, if_pos d]; decide
      · rw [if_neg (fun z => d z.2), if_neg d]; decide
    · have e : (fun v => elt (-x) (a :: v)) = fun _ => (0 : Int) := by
        funext v; rw [elt_neg (by omega), if_neg (by omega)]
      rw [e, conv_zero_left, if_neg (fun z => c z.1)]
      decide
theorem elt_back {x : Int} (h : x ≠ 0) : conv (elt x) (elt (-x)) = oneF := by
  by_cases c : 0 < x
  · exact pos_neg c
  · have := neg_pos (x := -x) (by omega)
    rwa [Int.neg_neg] at this
/-! ### the sums of a word -/
def scF (u : List Int) : Ser := u.foldl (fun f x => conv f (elt x)) oneF
theorem scF_from (u : List Int) (f : Ser) : u.foldl (fun f x => conv f (elt x)) f = conv f (scF u) := by
  unfold scF
  induction u generalizing f with
  | nil => rw [List.foldl_nil, List.foldl_nil, conv_one]
  | cons x u ih => rw [List.foldl_cons, List.foldl_cons, ih, ih (conv oneF (elt x)), one_conv, conv_assoc]
theorem scF_app (u v : List Int) : scF (u ++ v) = conv (scF u) (scF v) := by
  rw [← scF_from v (scF u)]
  unfold scF
  rw [List.foldl_append]
theorem scF_one (x : Int) : scF [x] = elt x := by
  unfold scF; rw [List.foldl_cons, List.foldl_nil, one_conv]
theorem scF_cons (x : Int) (u : List Int) : scF (x :: u) = conv (elt x) (scF u) := by
  rw [show x :: u = [x] ++ u from rfl, scF_app, scF_one]
theorem scF_pair {x : Int} (h : x ≠ 0) (u v : List Int) : scF (u ++ [x, -x] ++ v) = scF (u ++ v) := by
  rw [scF_app, scF_app, scF_app u v, show scF [x, -x] = oneF by rw [scF_cons, scF_one, elt_back h], conv_one]
theorem scF_at_nil (u : List Int) : scF u [] = 1 := by
  induction u with
  | nil => rfl
  | cons x u ih => rw [scF_cons, conv_nil, elt_nil, ih]; rfl
theorem nilOne_conv {f g : Ser} (hf : f [] = 1) (hg : g [] = 1) : conv f g [] = 1 := by rw [conv_nil, hf, hg]; rfl
end Pre

namespace Pre
open PySem PySem.Spec PyProof.Rows L2 R9
/-! ### the order of a ground's words -/
theorem gw_ord_all : ((List.range 4).all fun l => (List.range ([0, 5, 5, 4, 3].getD (l + 1) 0)).all fun d => (gw (l + 1) (d + 1)).all fun w => w.isEmpty || decide ((gw (l + 1) (d + 1)).idxOf w.dropLast < (gw (l + 1) (d + 1)).idxOf w)) = true := by decide +kernel
structure Od (ws : List (List Int)) : Prop where
  cl : Cl ws
  od : ∀ w ∈ ws, w ≠ [] → ws.idxOf w.dropLast < ws.idxOf w
theorem gw_od {l d : Nat} (h : GOk l d) : Od (gw l d) where
  cl := gw_cl h
  od := fun w hw ne => by
    have h1 := h.l1; have h4 := h.l4; have d1 := h.d1; have dm := h.dm
    have t := List.all_eq_true.mp gw_ord_all (l - 1) (List.mem_range.mpr (by omega))
    have e : l - 1 + 1 = l := by omega
    rw [e] at t
    have t2 := List.all_eq_true.mp t (d - 1) (List.mem_range.mpr (by omega))
    rw [show d - 1 + 1 = d by omega] at t2
    have t3 := List.all_eq_true.mp t2 w hw
    rcases Bool.or_eq_true_iff.mp t3 with z | z
    · exact absurd (List.isEmpty_iff.mp z) ne
    · exact of_decide_eq_true z
theorem idx_pw {ws : List (List Int)} (nd : ws.Nodup) : ws.Pairwise fun a b => ws.idxOf a < ws.idxOf b := by
  rw [List.pairwise_iff_getElem]
  intro i j hi hj hij
  rw [ix_of nd (List.getElem?_eq_getElem hi), ix_of nd (List.getElem?_eq_getElem hj)]
  exact hij
theorem endW_pw {ws : List (List Int)} (nd : ws.Nodup) (x : Int) : (endW ws x).Pairwise fun a b => a.1 < b.1 := by
  unfold endW
  rw [List.pairwise_map]
  exact ((idx_pw nd).filter _)
theorem lastIs_app (x a : Int) (w : List Int) : lastIs x (w ++ [a]) = decide (a = x) := by
  unfold lastIs
  rw [List.length_append, List.length_singleton, Nat.add_sub_cancel, List.drop_left]
  simp
theorem lastIs_nil (x : Int) : lastIs x [] = false := by
  unfold lastIs; simp
theorem endW_mem {ws : List (List Int)} {x : Int} {p : Nat × Nat} : p ∈ endW ws x ↔ ∃ v, v ++ [x] ∈ ws ∧ p = (ws.idxOf (v ++ [x]), ws.idxOf v) := by
  unfold endW
  rw [List.mem_map]
  constructor
  · rintro ⟨w, hw, rfl⟩
    obtain ⟨h1, h2⟩ := List.mem_filter.mp hw
    rcases last_cases w with rfl | ⟨v, a, rfl⟩
    · rw [lastIs_nil] at h2; cases h2
    · rw [lastIs_app] at h2
      have := of_decide_eq_true h2
      subst this
      exact ⟨v, h1, by rw [List.dropLast_concat]⟩
  · rintro ⟨v, h, rfl⟩
    exact ⟨v ++ [x], List.mem_filter.mpr ⟨h, by rw [lastIs_app]; exact decide_eq_true rfl⟩, by rw [List.dropLast_concat]⟩
/-! ### one step -/
theorem getD_set (t : List Int) (i j : Nat) (y : Int) (hi : i < t.length) : (t.set i y).getD j 0 = if i = j then y else t.getD j 0 := by
  rw [List.getD_eq_getElem?_getD, List.getElem?_set, List.getD_eq_getElem?_getD]
  by_cases e : i = j
  · rw [if_pos e, if_pos e, if_pos hi]; rfl
  · rw [if_neg e, if_neg e]
theorem addP_at (t : List Int) (p : Nat × Nat) (j : Nat) (h : p.1 < t.length) : (addP t p).getD j 0 = if p.1 = j then t.getD p.1 0 + t.getD p.2 0 else t.getD j 0 := getD_set _ _ _ _ h
theorem subP_at (t : List Int) (p : Nat × Nat) (j : Nat) (h : p.1 < t.length) : (subP t p).getD j 0 = if p.1 = j then t.getD p.1 0 - t.getD p.2 0 else t.getD j 0 := getD_set _ _ _ _ h
/-- falling: each one takes what stood there at first -/
theorem fold_add : ∀ (ps : List (Nat × Nat)) (t : List Int), ps.Pairwise (fun a b => b.1 < a.1) → (∀ p ∈ ps, p.2 < p.1 ∧ p.1 < t.length) →
    (∀ j, (∀ p ∈ ps, p.1 ≠ j) → (ps.foldl addP t).getD j 0 = t.getD j 0) ∧ ∀ p ∈ ps, (ps.foldl addP t).getD p.1 0 = t.getD p.1 0 + t.getD p.2 0
  | [], t, _, _ => ⟨fun _ _ => rfl, fun p hp => absurd hp (by simp)⟩
  | q :: r, t, pw, h => by
    obtain ⟨pw1, pw2⟩ := List.pairwise_cons.mp pw
    obtain ⟨hq, hql⟩ := h q (List.mem_cons_self ..)
    obtain ⟨i1, i2⟩ := fold_add r (addP t q) pw2 fun p hp => by rw [addP_len]; exact h p (List.mem_cons_of_mem _ hp)
    rw [List.foldl_cons]
    refine ⟨fun j hj => ?_, fun p hp => ?_⟩
    · rw [i1 j fun p hp => hj p (List.mem_cons_of_mem _ hp), addP_at t q j hql, if_neg (hj q (List.mem_cons_self ..))]
    · rcases List.mem_cons.mp hp with rfl | hp
      · rw [i1 p.1 fun z hz e => by have := pw1 z hz; omega, addP_at t p p.1 hql, if_pos rfl]
      · have l1 := pw1 p hp
        have l2 := (h p (List.mem_cons_of_mem _ hp)).1
        rw [i2 p hp, addP_at t q _ hql, addP_at t q _ hql, if_neg (by omega), if_neg (by omega)]
/-- rising: each one takes what stands there in the end -/
theorem fold_sub : ∀ (ps : List (Nat × Nat)) (t : List Int), ps.Pairwise (fun a b => a.1 < b.1) → (∀ p ∈ ps, p.2 < p.1 ∧ p.1 < t.length) →
    (∀ j, (∀ p ∈ ps, p.1 ≠ j) → (ps.foldl subP t).getD j 0 = t.getD j 0) ∧ ∀ p ∈ ps, (ps.foldl subP t).getD p.1 0 = t.getD p.1 0 - (ps.foldl subP t).getD p.2 0
  | [], t, _, _ => ⟨fun _ _ => rfl, fun p hp => absurd hp (by simp)⟩
  | q :: r, t, pw, h => by
    obtain ⟨pw1, pw2⟩ := List.pairwise_cons.mp pw
    obtain ⟨hq, hql⟩ := h q (List.mem_cons_self ..)
    obtain ⟨i1, i2⟩ := fold_sub r (subP t q) pw2 fun p hp => by rw [subP_len]; exact h p (List.mem_cons_of_mem _ hp)
    rw [List.foldl_cons]
    refine ⟨fun j hj => ?_, fun p hp => ?_⟩
    · rw [i1 j fun p hp => hj p (List.mem_cons_of_mem _ hp), subP_at t q j hql, if_neg (hj q (List.mem_cons_self ..))]
    · rcases List.mem_cons.mp hp with rfl | hp
      · rw [i1 p.1 fun z hz e => by have := pw1 z hz; omega, i1 p.2 fun z hz e => by have := pw1 z hz; omega, subP_at t p p.1 hql, subP_at t p p.2 hql, if_pos rfl, if_neg (by omega)]
      · have l1 := pw1 p hp
        rw [i2 p hp, subP_at t q _ hql, if_neg (by omega)]
theorem conv_snoc (f g : Ser) (w : List Int) (a : Int) : conv f g (w ++ [a]) = conv f (fun v => g (v ++ [a])) w + f (w ++ [a]) * g [] := by
  induction w generalizing f with
  | nil =>
    show conv f g [a] = _
    rw [conv_cons, conv_nil, conv_nil]
    rfl
  | cons b w ih =>
    rw [List.cons_append, conv_cons, conv_cons, ih]
    grind
theorem elt_snoc_pos {x : Int} (h : 0 < x) (v : List Int) (a : Int) : elt x (v ++ [a]) = (if a = x then 1 else 0) * oneF v := by
  cases v with
  | nil =>
    rw [List.nil_append, elt_pos h]
    unfold oneF
    by_cases c : a = x <;> simp [c]
  | cons b v =>
    rw [List.cons_append, elt_pos h, show oneF (b :: v) = 0 from if_neg (by simp), if_neg (by simp)]
    exact (Int.mul_zero _).symm
theorem elt_snoc_neg {x : Int} (h : ¬ 0 < x) (v : List Int) (a : Int) : elt x (v ++ [a]) = (if a = -x then -1 else 0) * elt x v := by
  unfold elt
  rw [if_neg h, if_neg h, List.all_append, List.length_append, List.length_singleton]
  by_cases c : a = -x
  · rw [if_pos c]
    simp only [List.all_cons, List.all_nil, Bool.and_true, decide_eq_true c]
    split
    · rw [Int.pow_succ]; grind
    · rfl
  · rw [if_neg c]
    simp only [List.all_cons, List.all_nil, Bool.and_true, decide_eq_false c, Bool.and_false]
    simp
theorem step_pos {x : Int} (h : 0 < x) (f : Ser) (w : List Int) (a : Int) : conv f (elt x) (w ++ [a]) = f (w ++ [a]) + (if a = x then f w else 0) := by
  rw [conv_snoc, elt_nil]
  have e : (fun v => elt x (v ++ [a])) = fun v => (if a = x then 1 else 0) * oneF v := by funext v; exact elt_snoc_pos h v a
  rw [e, conv_mul_right, conv_one]
  split <;> grind
theorem step_neg {x : Int} (h : ¬ 0 < x) (f : Ser) (w : List Int) (a : Int) : conv f (elt x) (w ++ [a]) = f (w ++ [a]) - (if a = -x then conv f (elt x) w else 0) := by
  rw [conv_snoc, elt_nil]
  have e : (fun v => elt x (v ++ [a])) = fun v => (if a = -x then -1 else 0) * elt x v := by funext v; exact elt_snoc_neg h v a
  rw [e, conv_mul_right]
  split <;> grind
theorem map_getD {ws : List (List Int)} (f : Ser) {i : Nat} {w : List Int} (h : ws[i]? = some w) : (ws.map f).getD i 0 = f w := by
  rw [List.getD_eq_getElem?_getD, List.getElem?_map, h]; rfl
theorem ext_at {ws : List (List Int)} {t : List Int} {f : Ser} (hl : t.length = ws.length) (h : ∀ i w, ws[i]? = some w → t.getD i 0 = f w) : t = ws.map f := by
  apply List.ext_getElem?
  intro i
  rw [List.getElem?_map]
  by_cases c : i < ws.length
  · have := h i _ (List.getElem?_eq_getElem c)
    rw [List.getD_eq_getElem?_getD, List.getElem?_eq_getElem (by omega)] at this
    rw [List.getElem?_eq_getElem c, List.getElem?_eq_getElem (by omega)]
    exact congrArg some this
  · rw [List.getElem?_eq_none (by omega), List.getElem?_eq_none (by omega)]; rfl
theorem stepW_map {ws : List (List Int)} (O : Od ws) (f : Ser) (x : Int) : stepW ws (ws.map f) x = ws.map (conv f (elt x)) := by
  have nd := O.cl.nd
  unfold stepW
  by_cases c : 0 < x
  · rw [if_pos c]
    have hp : ∀ p ∈ (endW ws x).reverse, p.2 < p.1 ∧ p.1 < (ws.map f).length := fun p hp => by
      obtain ⟨v, hv, rfl⟩ := endW_mem.mp (List.mem_reverse.mp hp)
      have := O.od _ hv (by simp)
      rw [List.dropLast_concat] at this
      exact ⟨this, by rw [List.length_map]; exact (ix_get hv).1⟩
    obtain ⟨i1, i2⟩ := fold_add (endW ws x).reverse (ws.map f) (List.pairwise_reverse.mpr (endW_pw nd x)) hp
    refine ext_at (by rw [foldl_len addP_len, List.length_map]) fun i w hw => ?_
    rcases last_cases w with rfl | ⟨v, a, rfl⟩
    · rw [i1 i fun p hp e => ?_, map_getD f hw, conv_nil, elt_nil, Int.mul_one]
      obtain ⟨v, hv, rfl⟩ := endW_mem.mp (List.mem_reverse.mp hp)
      have h2 := (ix_get hv).2
      have e : ws.idxOf (v ++ [x]) = i := e
      rw [e, hw] at h2
      simp at h2
    · rw [step_pos c]
      by_cases d : a = x
      · subst d
        have hm := List.mem_of_getElem? hw
        have := i2 (ws.idxOf (v ++ [a]), ws.idxOf v) (List.mem_reverse.mpr (endW_mem.mpr ⟨v, hm, rfl⟩))
        rw [ix_of nd hw] at this
        have hv : v ∈ ws := by have := O.cl.tk _ hm v.length; rwa [List.take_left] at this
        rw [this, map_getD f hw, map_getD f (ix_get hv).2, if_pos rfl]
      · rw [i1 i fun p hp e => ?_, map_getD f hw, if_neg d, Int.add_zero]
        obtain ⟨v', hv, rfl⟩ := endW_mem.mp (List.mem_reverse.mp hp)
        have h2 := (ix_get hv).2
        have e : ws.idxOf (v' ++ [x]) = i := e
        rw [e, hw] at h2
        have := Option.some.inj h2
        rw [List.append_inj_right' this rfl |> List.singleton_inj.mp] at d
        exact d rfl
  · rw [if_neg c]
    have hp : ∀ p ∈ endW ws (-x), p.2 < p.1 ∧ p.1 < (ws.map f).length := fun p hp => by
      obtain ⟨v, hv, rfl⟩ := endW_mem.mp hp
      have := O.od _ hv (by simp)
      rw [List.dropLast_concat] at this
      exact ⟨this, by rw [List.length_map]; exact (ix_get hv).1⟩
    obtain ⟨i1, i2⟩ := fold_sub (endW ws (-x)) (ws.map f) (endW_pw nd (-x)) hp
    have hl : ((endW ws (-x)).foldl subP (ws.map f)).length = ws.length := by rw [foldl_len subP_len, List.length_map]
    refine ext_at hl ?_
    have main : ∀ n, ∀ i w, w.length = n → ws[i]? = some w → ((endW ws (-x)).foldl subP (ws.map f)).getD i 0 = conv f (elt x) w := by
      intro n
      induction n with
      | zero =>
        intro i w hn hw
        rw [List.length_eq_zero_iff.mp hn] at hw ⊢
        rw [i1 i fun p hp e => ?_, map_getD f hw, conv_nil, elt_nil, Int.mul_one]
        obtain ⟨v, hv, rfl⟩ := endW_mem.mp hp
        have h2 := (ix_get hv).2
        have e : ws.idxOf (v ++ [-x]) = i := e
        rw [e, hw] at h2
        simp at h2
      | succ n ih =>
        intro i w hn hw
        rcases last_cases w with rfl | ⟨v, a, rfl⟩
        · simp at hn
        · rw [step_neg c]
          by_cases d : a = -x
          · subst d
            have hm := List.mem_of_getElem? hw
            have := i2 (ws.idxOf (v ++ [-x]), ws.idxOf v) (endW_mem.mpr ⟨v, hm, rfl⟩)
            rw [ix_of nd hw] at this
            have hv : v ∈ ws := by have := O.cl.tk _ hm v.length; rwa [List.take_left] at this
            rw [this, map_getD f hw, if_pos rfl, ih _ v (by rw [List.length_append] at hn; simpa using hn) (ix_get hv).2]
          · rw [i1 i fun p hp e => ?_, map_getD f hw, if_neg d, Int.sub_zero]
            obtain ⟨v', hv, rfl⟩ := endW_mem.mp hp
            have h2 := (ix_get hv).2
            have e : ws.idxOf (v' ++ [-x]) = i := e
            rw [e, hw] at h2
            have := Option.some.inj h2
            rw [List.append_inj_right' this rfl |> List.singleton_inj.mp] at d
            exact d rfl
    exact fun i w hw => main w.length i w rfl hw
theorem emptyW_map {ws : List (List Int)} {r : List (List Int)} (e : ws = [] :: r) (hr : ∀ w ∈ r, w ≠ []) : emptyW ws = ws.map oneF := by
  subst e
  unfold emptyW
  rw [List.map_cons, List.length_cons, Nat.add_sub_cancel]
  congr 1
  symm
  rw [List.eq_replicate_iff]
  refine ⟨List.length_map _, fun b hb => ?_⟩
  obtain ⟨w, hw, rfl⟩ := List.mem_map.mp hb
  exact if_neg (hr w hw)
theorem gw_empty {l d : Nat} (h : GOk l d) : emptyW (gw l d) = (gw l d).map oneF := by
  obtain ⟨r, e⟩ := gw_first l d
  have nd := (gw_fin h).1
  rw [e] at nd
  exact emptyW_map e fun w hw z => by
    subst z
    exact (List.nodup_cons.mp nd).1 hw
theorem scat_map' {ws : List (List Int)} (O : Od ws) : ∀ (u : List Int) (f : Ser), u.foldl (stepW ws) (ws.map f) = ws.map (u.foldl (fun f x => conv f (elt x)) f)
  | [], f => rfl
  | x :: u, f => by rw [List.foldl_cons, List.foldl_cons, stepW_map O, scat_map' O]
theorem scatW_map {l d : Nat} (h : GOk l d) (u : List Int) : scatW (gw l d) u = (gw l d).map (scF u) := by
  unfold scatW scF
  rw [gw_empty h, scat_map' (gw_od h)]
theorem joinW_map {ws : List (List Int)} (C : Cl ws) (f g : Ser) : joinW ws (ws.map f) (ws.map g) = ws.map (conv f g) := by
  unfold joinW prt
  rw [List.map_map]
  refine List.map_congr_left fun w hw => ?_
  show joinP _ _ (prtW ws w) = _
  unfold joinP prtW
  rw [List.map_map, conv_sum]
  congr 1
  refine List.map_congr_left fun k _ => ?_
  show (ws.map f).getD (ws.idxOf (w.take k)) 0 * (ws.map g).getD (ws.idxOf (w.drop k)) 0 = _
  rw [map_getD f (ix_get (C.tk w hw k)).2, map_getD g (ix_get (C.dr w hw k)).2]
/-! ### how great they are -/
def BF (n k : Nat) (f : Ser) : Prop := ∀ w, w.length ≤ n → Bd k (f w)
theorem BF.mono {n k m : Nat} {f : Ser} (h : BF n k f) (l : k ≤ m) : BF n m f := fun w hw => (h w hw).mono l
theorem BF.one (n k : Nat) : BF n k oneF := fun w _ => by
  unfold oneF
  split
  · exact Bd.one k
  · exact Bd.zero k
end Pre

namespace Pre
open PySem PySem.Spec PyProof.Rows L2 R9
theorem rec0 {C : Addr} {vs : List V} {H : Hp} {Q : VK} {E : XK} (h : spMBr C 0 vs H Q E) : False := by
  obtain ⟨g, i, w, l, d, _, _, hw, hl, _⟩ := h
  have := (gt_mem.mp (List.mem_of_getElem? hw)).2.2
  rw [List.length_eq_zero_iff.mp (Nat.le_zero.mp hl)] at this
  exact this.1 rfl
/-! ### how great the sums are -/
theorem sum_bd {B : Nat} : ∀ xs : List Int, (∀ x ∈ xs, x.natAbs ≤ B) → xs.sum.natAbs ≤ xs.length * B
  | [], _ => Nat.zero_le _
  | x :: r, h => by
    rw [List.sum_cons, List.length_cons, Nat.succ_mul]
    have h1 := h x (List.mem_cons_self ..)
    have h2 := sum_bd r fun y hy => h y (List.mem_cons_of_mem _ hy)
    have h3 := Int.natAbs_add_le x r.sum
    omega
theorem elt_bd (x : Int) : ∀ w, (elt x w).natAbs ≤ 1
  | [] => by rw [elt_nil]; decide
  | a :: w => by
    by_cases c : 0 < x
    · rw [elt_pos c]; split <;> decide
    · rw [elt_neg c]
      split
      · rw [Int.natAbs_neg]; exact elt_bd x w
      · decide
theorem BF.step {n k : Nat} {f : Ser} (hn : n ≤ 7) (h : BF n k f) (x : Int) : BF n (k + 3) (conv f (elt x)) := fun w hw => by
  rw [conv_sum]
  unfold Bd
  have := sum_bd (B := 2 ^ k) ((List.range (w.length + 1)).map fun j => f (w.take j) * elt x (w.drop j)) fun y hy => by
    obtain ⟨j, _, rfl⟩ := List.mem_map.mp hy
    have h1 : (f (w.take j)).natAbs ≤ 2 ^ k := h (w.take j) (by rw [List.length_take]; omega)
    rw [Int.natAbs_mul]
    have h2 := elt_bd x (w.drop j)
    calc (f (w.take j)).natAbs * (elt x (w.drop j)).natAbs ≤ (f (w.take j)).natAbs * 1 := Nat.mul_le_mul_left _ h2
      _ ≤ 2 ^ k := by rw [Nat.mul_one]; exact h1
  rw [List.length_map, List.length_range] at this
  refine Nat.le_trans this ?_
  rw [Nat.pow_add, Nat.mul_comm]
  exact Nat.mul_le_mul_left _ (Nat.le_trans (show w.length + 1 ≤ 8 by omega) (by decide))
theorem BF.scat' {n : Nat} (hn : n ≤ 7) : ∀ (u : List Int) (k : Nat) (f : Ser), BF n k f → BF n (k + 3 * u.length) (u.foldl (fun f x => conv f (elt x)) f)
  | [], k, f, h => h
  | x :: u, k, f, h => by
    rw [List.foldl_cons, List.length_cons, show k + 3 * (u.length + 1) = k + 3 + 3 * u.length by omega]
    exact BF.scat' hn u _ _ (h.step hn x)
theorem BF.sc (u : List Int) : BF 7 (3 * u.length) (scF u) := by
  have := BF.scat' (n := 7) (Nat.le_refl _) u 0 oneF (BF.one _ _)
  rwa [Nat.zero_add] at this
theorem BF.list {l d k : Nat} {f : Ser} (h : GOk l d) (hf : BF 7 k f) : Bds k ((gw l d).map f) := fun x hx => by
  obtain ⟨w, hw, rfl⟩ := List.mem_map.mp hx
  have := (gw_mem.mp hw).1
  have := h.d5
  exact hf w (by omega)
theorem Bds.smalls {k : Nat} {xs : List Int} (h : Bds k xs) (hk : k < 1919) : Smalls xs := fun x hx => by
  have h1 : x.natAbs ≤ 2 ^ k := h x hx
  by_cases e : x.natAbs = 0
  · rw [e]; decide
  · exact (Nat.log2_lt e).mpr (Nat.lt_of_le_of_lt h1 (Nat.pow_lt_pow_right (by decide) (by omega)))
theorem scat_smalls {l d : Nat} (h : GOk l d) (u : List Int) (hu : u.length ≤ 600) : Smalls (scatW (gw l d) u) := by
  rw [scatW_map h]
  exact ((BF.sc u).list h).smalls (by omega)
def txtI (ns : List Int) : Str := PyData.shown (.list (ns.map PyData.int))
theorem dpAll_int {K : PySem.W.Frag} {H : Hp} : ∀ ns : List Int, DpAll K H (ns.map V.int) (ns.map PyData.int)
  | [] => .nil
  | n :: r => .cons (.int n) (dpAll_int r)
theorem strI_rd {K : PySem.W.Frag} {H : Hp} {a : Addr} {ns : List Int} {R : VK} (ha : WL H a ns) (hs : Smalls ns) (hl : ns.length ≤ 5000) (h : R (.str (txtI ns)) H) : rStrD K [V.ref a] H R := ⟨a, _, rfl, .lst (SqL.of ha) (dpAll_int ns), okd_lst ns hs hl, h⟩
/-! ### what a ground is made of stays -/
def gObj : HO → Prop
  | .lst (.ref _ :: _) => True
  | .tup _ => True
  | .dK _ => True
  | .dT _ => True
  | .ins .. => True
  | _ => False
def SameG (H H' : Hp) : Prop := ∀ c o, gObj o → H c = some o → H' c = some o
theorem SameG.of {H H' : Hp} (s : Same H H') : SameG H H' := fun c o _ h => s c o h
theorem SameG.refl (H : Hp) : SameG H H := fun _ _ _ h => h
theorem SameG.trans {H H1 H2 : Hp} (x : SameG H H1) (y : SameG H1 H2) : SameG H H2 := fun c o g h => y c o g (x c o g h)
theorem SameG.t {H H' : Hp} (s : SameG H H') : SameT H H' := fun b ys h => s b _ trivial h
theorem SameG.box {H H' : Hp} {b : Addr} {m : Nat} (x : Bx H b m) (s : SameB b H H') : SameG H H' := fun c o g h => by
  obtain ⟨x1, x2, x3, hb, _⟩ := x
  refine s c o (fun e => ?_) h
  subst e
  rw [hb] at h
  cases h
  exact g
theorem Ws.g {H H' : Hp} {r : Addr} {wss : List (List Int)} (h : Ws H r wss) (hn : wss ≠ []) (s : SameG H H') : Ws H' r wss := by
  obtain ⟨ps, h1, h2⟩ := h
  refine ⟨ps, s _ _ ?_ h1, h2.t s.t⟩
  cases h2 with
  | nil => exact absurd rfl hn
  | cons _ _ => trivial
theorem EndD.g {H H' : Hp} {D : Addr} {ws : List (List Int)} {ls : List Int} (x : EndD H D ws ls) (s : SameG H H') : EndD H' D ws ls :=
  let ⟨kvs, h1, h2, h3, h4⟩ := x; ⟨kvs, s _ _ trivial h1, h2, fun x hx => let ⟨t, a, b⟩ := h3 x hx; ⟨t, a, b.t s.t⟩, h4⟩
theorem gw_ne (l d : Nat) : gw l d ≠ [] := by obtain ⟨r, e⟩ := gw_first l d; rw [e]; simp
theorem gt_one {l d : Nat} (h : GOk l d) : [1] ∈ gt l d := gt_mem.mpr ⟨h.d1, fun x hx => by rw [List.mem_singleton.mp hx]; have := h.l1; omega, Ly.one 1⟩
theorem gt_ne {l d : Nat} (h : GOk l d) : gt l d ≠ [] := fun e => by have := gt_one h; rw [e] at this; simp at this
theorem PwL.g {H H' : Hp} {r : Addr} {l d : Nat} (ok : GOk l d) (x : PwL H r l d) (s : SameG H H') : PwL H' r l d := by
  obtain ⟨ps, h1, h2⟩ := x
  refine ⟨ps, s _ _ ?_ h1, Paired.imp' (fun _ _ ⟨b, h, t⟩ => ⟨b, h, t.t s.t⟩) h2⟩
  have := gt_ne ok
  cases h : gt l d with
  | nil => exact absurd h this
  | cons w r =>
    rw [h] at h2
    cases h2 with
    | cons _ _ => trivial
theorem GrP.g {C : Addr} {H H' : Hp} {g : Addr} {l d : Nat} (x : GrP C H g l d) (s : SameG H H') : GrP C H' g l d :=
  ⟨x.ok, let ⟨dx, pl, tu, nu, pa, en, fs, h1, h2, h3, h4, h5, h6, h7, h8, h9, a1, a2, a3, a4, a5⟩ := x.ex
    ⟨dx, pl, tu, nu, pa, en, fs, s _ _ trivial h1, h2, h3, h4, h5, h6, h7, h8, h9, a1.g (gw_ne l d) s, a2.g (gt_ne x.ok) s, s _ (.dT _) trivial a3, a4.t s.t, a5.g s⟩⟩
theorem Gr.g {C : Addr} {H H' : Hp} {g : Addr} {l d : Nat} (x : Gr C H g l d) (s : SameG H H') : Gr C H' g l d :=
  ⟨x.p.g s, let ⟨dx, st, pw, fs, h1, h2, h3, h4, h5⟩ := x.ex; ⟨dx, st, pw, fs, s _ _ trivial h1, h2, h3, h4.t s.t, h5.g x.p.ok s⟩⟩
theorem Gr.at_ {C : Addr} {H : Hp} {g : Addr} {l d : Nat} (x : Gr C H g l d) (m : Str) (hm : m ∈ mets := by decide +kernel) : ∃ dx fs, H g = some (.ins C dx fs) ∧ fs.lookup m = none :=
  let ⟨dx, _, _, _, _, _, fs, h1, h2, _⟩ := x.p.ex; ⟨dx, fs, h1, h2 m hm⟩
/-! ### promises -/
def spSizes : Sp := fun vs H Q _ => ∃ (b : Addr) (m : Nat), vs = [.ref b] ∧ Bx H b m ∧ m ≤ 900000 ∧
  ∀ (t : Addr) (l d : Nat) (H' : Hp), GOk l d → H' t = some (.tup [.int (l : Nat), .int (d : Nat)]) → Bx H' b (m + 4) → SameB b H H' → Q (.ref t) H'
def spMWords (C : Addr) : Sp := fun vs H Q _ => ∃ (g : Addr) (l d : Nat), vs = [.ref g] ∧ GrP C H g l d ∧ ∀ r H', H r = none → Ws H' r (gw l d) → Same H H' → Q (.ref r) H'
/-- a new instance stands beside all that was there -/
theorem made_same {H H1 : Hp} {x dx C : Addr} (nx : H x = none) (nd : H dx = none) (k : SameB x (upd (upd H dx (.own x)) x (.ins C dx [])) H1) : Same H H1 := Same.made nx nd fun b o e ne => k b o ne e
theorem back_two (u v : List Int) : back (u ++ v) = back v ++ back u := by unfold back; rw [List.map_append, List.reverse_append]
theorem sc_back_r : ∀ (u : List Int), (∀ x ∈ u, x ≠ 0) → scF (u ++ back u) = oneF
  | [], _ => rfl
  | x :: u, h => by
    have e : x :: u ++ back (x :: u) = [x] ++ (u ++ back u) ++ [-x] := by
      rw [show x :: u = [x] ++ u from rfl, back_two]
      simp [back]
    rw [e, scF_app, scF_app, sc_back_r u fun y hy => h y (List.mem_cons_of_mem _ hy), conv_one, ← scF_app]
    have := scF_pair (h x (List.mem_cons_self ..)) [] []
    rw [show ([x] : List Int) ++ [-x] = [] ++ [x, -x] ++ [] from rfl, this]; rfl
theorem back_nz {u : List Int} (h : ∀ x ∈ u, x ≠ 0) : ∀ x ∈ back u, x ≠ 0 := fun x hx => by
  unfold back at hx
  obtain ⟨y, hy, rfl⟩ := List.mem_map.mp (List.mem_reverse.mp hx)
  have := h y hy
  omega
theorem sc_back_l (u : List Int) (h : ∀ x ∈ u, x ≠ 0) : scF (back u ++ u) = oneF := by
  have := sc_back_r (back u) (back_nz h)
  rwa [back_back] at this
theorem step_nz {l x : Int} (h : Step l x) : x ≠ 0 := by unfold Step at h; omega
end Pre
namespace Pre
open PySem PySem.Spec PyProof.Rows L2 R9
/-! ### lists of pairs that are written -/
def PrN (H : Hp) (q : Addr) (p : Nat × Nat) : Prop := H q = some (.tup [.int (p.1 : Nat), .int (p.2 : Nat)])
def tPairs : List (Nat × Nat) → TA
  | [] => tNil
  | p :: r => tCons (tTupN (tCons (tC (.int (p.1 : Nat))) (tCons (tC (.int (p.2 : Nat))) tNil))) (tPairs r)
theorem tPairs_rd : ∀ (ps : List (Nat × Nat)) (σ : L2.St) (H : Hp) (R : List V → Hp → Prop), (∀ qs H', Same H H' → Paired (PrN H') qs ps → R (qs.map V.ref) H') → tPairs ps σ H R
  | [], σ, H, R, h => h [] H (Same.refl H) .nil
  | p :: r, σ, H, R, h => ⟨by show 2 ≤ sizeLine; decide, fun c H1 _ k s => tPairs_rd r σ H1 _ fun qs H2 s2 hp => h (c :: qs) H2 (s.trans s2) (.cons (s2 _ _ k) hp)⟩
theorem lstP_rd {ps : List (Nat × Nat)} {σ : L2.St} {H : Hp} {Q : VK} (hz : ps.length ≤ 1000) (h : ∀ (qs : List Addr) (l : Addr) (H' : Hp), H l = none → Same H H' → H' l = some (.lst (qs.map V.ref)) → Paired (PrN H') qs ps → Q (.ref l) H') : tLstN (tPairs ps) σ H Q :=
  tPairs_rd ps σ H _ fun qs H1 s1 hq => ⟨by rw [List.length_map, Paired.length hq]; exact Nat.le_trans hz (by decide), fun l H2 f2 hl s2 => h qs l H2 (s1.free f2) (s1.trans s2) hl (Paired.imp' (fun _ _ x => s2 _ _ x) hq)⟩
theorem PrN.t {H H' : Hp} {q : Addr} {p : Nat × Nat} (x : PrN H q p) (s : SameT H H') : PrN H' q p := s _ _ x
theorem gok_list {ps : List (Nat × Nat)} (h : (ps.all fun p => decide (1 ≤ p.1) && decide (p.1 ≤ 4) && decide (1 ≤ p.2) && decide (p.2 ≤ [0, 5, 5, 4, 3].getD p.1 0)) = true) : ∀ p ∈ ps, GOk p.1 p.2 := fun p hp => by
  have := List.all_eq_true.mp h p hp
  simp only [Bool.and_eq_true, decide_eq_true_eq] at this
  exact ⟨this.1.1.1, this.1.1.2, this.1.2, this.2⟩
end Pre

namespace L2
open PySem PySem.Spec PyProof.Rows
section
variable {X : Cx}
end
end L2

namespace Pre
open PySem PySem.Spec PyProof.Rows L2 R9
/-! ### the law's own count -/
end Pre

namespace Pre
open PySem PySem.Spec PyProof.Rows L2 R9
/-! ### powers of sums -/
/-- the same for all words of up to seven letters -/
def Al (f g : Ser) : Prop := ∀ w : List Int, w.length ≤ 7 → f w = g w
theorem Al.refl (f : Ser) : Al f f := fun _ _ => rfl
theorem Al.symm {f g : Ser} (h : Al f g) : Al g f := fun w hw => (h w hw).symm
theorem Al.trans {f g k : Ser} (h : Al f g) (j : Al g k) : Al f k := fun w hw => (h w hw).trans (j w hw)
theorem Al.of {f g : Ser} (h : f = g) : Al f g := h ▸ Al.refl f
theorem Al.conv {f f' g g' : Ser} (h : Al f f') (j : Al g g') : Al (conv f g) (conv f' g') := fun w hw =>
  conv_congr (fun k => h _ (by rw [List.length_take]; omega)) (fun k => j _ (by rw [List.length_drop]; omega))
def xF (f : Ser) : Ser := fun w => if w = [] then 0 else f w
def xpow (f : Ser) : Nat → Ser
  | 0 => oneF
  | k + 1 => conv (xpow f k) (xF f)
theorem conv_low {f g : Ser} {i j : Nat} (hf : ∀ w : List Int, w.length < i → f w = 0) (hg : ∀ w : List Int, w.length < j → g w = 0) (w : List Int) (hw : w.length < i + j) : conv f g w = 0 := by
  rw [conv_sum]
  have z : ∀ y ∈ (List.range (w.length + 1)).map (fun k => f (w.take k) * g (w.drop k)), y = 0 := fun y hy => by
    obtain ⟨k, hk, rfl⟩ := List.mem_map.mp hy
    by_cases c : (w.take k).length < i
    · rw [hf _ c, Int.zero_mul]
    · rw [hg (w.drop k) (by rw [List.length_take] at c; rw [List.length_drop]; omega), Int.mul_zero]
  generalize (List.range (w.length + 1)).map _ = l at z
  induction l with
  | nil => rfl
  | cons x l ih =>
    rw [List.sum_cons, z x (List.mem_cons_self ..), ih fun y hy => z y (List.mem_cons_of_mem _ hy)]
    rfl
theorem xF_low (f : Ser) (w : List Int) (h : w.length < 1) : xF f w = 0 := if_pos (List.length_eq_zero_iff.mp (by omega))
theorem xpow_low (f : Ser) : ∀ (k : Nat) (w : List Int), w.length < k → xpow f k w = 0
  | 0, w, h => absurd h (Nat.not_lt_zero _)
  | k + 1, w, h => conv_low (xpow_low f k) (xF_low f) w h
theorem xF_one (f : Ser) (h : f [] = 1) : f = fun w => oneF w + xF f w := by
  funext w
  unfold oneF xF
  by_cases c : w = []
  · rw [if_pos c, if_pos c, c, h]; rfl
  · rw [if_neg c, if_neg c, Int.zero_add]
/-- so many powers, chosen -/
def sumTo (f : Ser) (n : Int) : Nat → Ser
  | 0 => fun _ => 0
  | j + 1 => fun w => sumTo f n j w + ch n j * xpow f j w
def pw7 (f : Ser) (n : Int) : Ser := sumTo f n 8
theorem ch_zero (n : Int) : ch n 0 = 1 := rfl
theorem sumTo_conv (f g : Ser) (n : Int) : ∀ (j : Nat) (w : List Int), conv (sumTo f n j) g w = ((List.range j).map fun k => ch n k * conv (xpow f k) g w).sum
  | 0, w => by
    show conv (fun _ => 0) g w = _
    rw [conv_zero_left]; rfl
  | j + 1, w => by
    show conv (fun v => sumTo f n j v + ch n j * xpow f j v) g w = _
    rw [conv_add_left, conv_mul_left, sumTo_conv f g n j w, List.range_succ, List.map_append, List.sum_append]
    simp
theorem sumTo_at (f : Ser) (n : Int) : ∀ (j : Nat) (w : List Int), sumTo f n j w = ((List.range j).map fun k => ch n k * xpow f k w).sum
  | 0, w => rfl
  | j + 1, w => by
    show sumTo f n j w + ch n j * xpow f j w = _
    rw [sumTo_at f n j w, List.range_succ, List.map_append, List.sum_append]
    simp
theorem rsum (f : Nat → Int) (j : Nat) : ((List.range (j + 1)).map f).sum = ((List.range j).map f).sum + f j := by
  rw [List.range_succ, List.map_append, List.sum_append]
  simp
theorem sum_shift (n : Int) (a : Nat → Int) : ∀ j, ((List.range (j + 1)).map fun k => ch (n + 1) k * a k).sum = ((List.range (j + 1)).map fun k => ch n k * a k).sum + ((List.range j).map fun k => ch n k * a (k + 1)).sum
  | 0 => by simp [ch_zero]
  | j + 1 => by
    rw [rsum, sum_shift n a j, rsum _ (j + 1), rsum (fun k => ch n k * a (k + 1)) j, ch_pascal]
    grind
theorem pw7_succ (f : Ser) (h : f [] = 1) (n : Int) : Al (pw7 f (n + 1)) (conv (pw7 f n) f) := fun w hw => by
  have e : conv (pw7 f n) f w = pw7 f n w + conv (pw7 f n) (xF f) w := by
    have := conv_add_right (pw7 f n) oneF (xF f) w
    rw [← xF_one f h, conv_one] at this
    exact this
  rw [e]
  show sumTo f (n + 1) 8 w = sumTo f n 8 w + conv (sumTo f n 8) (xF f) w
  rw [sumTo_conv, sumTo_at, sumTo_at, sum_shift n (fun k => xpow f k w) 7]
  congr 1
  show _ = ((List.range (7 + 1)).map fun k => ch n k * xpow f (k + 1) w).sum
  rw [rsum _ 7, show xpow f (7 + 1) w = 0 from xpow_low f 8 w (by omega), Int.mul_zero, Int.add_zero]
theorem ch_0 : ∀ k : Nat, ch 0 (k + 1) = 0 := fun k => by
  have h1 := ch_fac (k + 1) 0
  rw [ff_zero] at h1
  rcases Int.mul_eq_zero.mp h1 with z | z
  · exact z
  · have := fac_pos (k + 1); omega
theorem pw7_0 (f : Ser) : pw7 f 0 = oneF := by
  funext w
  have : ∀ j, sumTo f 0 (j + 1) w = oneF w := fun j => by
    induction j with
    | zero => show 0 + ch 0 0 * oneF w = _; rw [ch_zero]; omega
    | succ j ih => show sumTo f 0 (j + 1) w + ch 0 (j + 1) * _ = _; rw [ih, ch_0, Int.zero_mul, Int.add_zero]
  exact this 7
theorem pw7_1 (f : Ser) (h : f [] = 1) : Al (pw7 f 1) f := by
  have := pw7_succ f h 0
  rw [pw7_0, one_conv] at this
  exact this
theorem pw7_nil (f : Ser) (n : Int) : pw7 f n [] = 1 := by
  have : ∀ j, sumTo f n (j + 1) [] = 1 := fun j => by
    induction j with
    | zero => show 0 + ch n 0 * oneF [] = _; rw [ch_zero]; rfl
    | succ j ih => show sumTo f n (j + 1) [] + ch n (j + 1) * xpow f (j + 1) [] = _; rw [ih, xpow_low f (j + 1) [] (Nat.succ_pos _), Int.mul_zero, Int.add_zero]
  exact this 7
/-- each has one that undoes it -/
theorem pw7_inv (f : Ser) (h : f [] = 1) : Al (conv (pw7 f (-1)) f) oneF := by
  have := (pw7_succ f h (-1)).symm
  rw [show (-1 : Int) + 1 = 0 by decide, pw7_0] at this
  exact this
theorem cancel_right {a b f : Ser} (h : f [] = 1) (e : Al (conv a f) (conv b f)) : Al a b := by
  -- f has one that undoes it on the right too: g with g f = 1, and g's own k with k g = 1: then k = f
  have hg := pw7_inv f h
  have hg0 := pw7_nil f (-1)
  have hk := pw7_inv (pw7 f (-1)) hg0
  have kf : Al (pw7 (pw7 f (-1)) (-1)) f := by
    have s1 : Al (conv (pw7 (pw7 f (-1)) (-1)) (conv (pw7 f (-1)) f)) (conv (pw7 (pw7 f (-1)) (-1)) oneF) := (Al.refl _).conv hg
    rw [conv_one, ← conv_assoc] at s1
    have s2 : Al (conv (conv (pw7 (pw7 f (-1)) (-1)) (pw7 f (-1))) f) (conv oneF f) := hk.conv (Al.refl f)
    rw [one_conv] at s2
    exact s1.symm.trans s2
  have fg : Al (conv f (pw7 f (-1))) oneF := (kf.symm.conv (Al.refl _)).trans hk
  have t : Al (conv (conv a f) (pw7 f (-1))) (conv (conv b f) (pw7 f (-1))) := e.conv (Al.refl _)
  rw [conv_assoc, conv_assoc] at t
  have ta := ((Al.refl a).conv fg)
  have tb := ((Al.refl b).conv fg)
  rw [conv_one] at ta tb
  exact ta.symm.trans (t.trans tb)
theorem pw7_add (f : Ser) (h : f [] = 1) (n m : Int) : Al (pw7 f (n + m)) (conv (pw7 f n) (pw7 f m)) := by
  refine int_ind (fun m => Al (pw7 f (n + m)) (conv (pw7 f n) (pw7 f m))) ?_ ?_ ?_ m
  · rw [Int.add_zero, pw7_0, conv_one]; exact Al.refl _
  · intro m ih
    have a := pw7_succ f h (n + m)
    rw [← Int.add_assoc]
    refine a.trans ((ih.conv (Al.refl f)).trans ?_)
    rw [conv_assoc]
    exact (Al.refl _).conv (pw7_succ f h m).symm
  · intro m ih
    refine cancel_right h ?_
    have a := (pw7_succ f h (n + m)).symm
    refine a.trans ?_
    rw [Int.add_assoc]
    refine ih.trans ?_
    rw [conv_assoc]
    exact (Al.refl _).conv (pw7_succ f h m)
theorem pw7_congr {f g : Ser} (e : Al f g) (n : Int) : Al (pw7 f n) (pw7 g n) := by
  have ex : Al (xF f) (xF g) := fun w hw => by unfold xF; split; rfl; exact e w hw
  have ek : ∀ k, Al (xpow f k) (xpow g k) := fun k => by
    induction k with
    | zero => exact Al.refl _
    | succ k ih => exact ih.conv ex
  intro w hw
  have : ∀ j, sumTo f n j w = sumTo g n j w := fun j => by
    induction j with
    | zero => rfl
    | succ j ih => show sumTo f n j w + ch n j * xpow f j w = _; rw [ih, ek j w hw]; rfl
  exact this 8
theorem pw7_mul (f : Ser) (h : f [] = 1) (n m : Int) : Al (pw7 (pw7 f n) m) (pw7 f (n * m)) := by
  have h0 := pw7_nil f n
  refine int_ind (fun m => Al (pw7 (pw7 f n) m) (pw7 f (n * m))) ?_ ?_ ?_ m
  · rw [Int.mul_zero, pw7_0, pw7_0]; exact Al.refl _
  · intro m ih
    refine (pw7_succ (pw7 f n) h0 m).trans ((ih.conv (Al.refl _)).trans ?_)
    rw [Int.mul_add, Int.mul_one]
    exact (pw7_add f h (n * m) n).symm
  · intro m ih
    refine cancel_right h0 ?_
    refine (pw7_succ (pw7 f n) h0 m).symm.trans (ih.trans ?_)
    rw [Int.mul_add, Int.mul_one]
    exact pw7_add f h (n * m) n
theorem pw7_nat (u : List Int) : ∀ k : Nat, Al (pw7 (scF u) (k : Int)) (scF (rep k u))
  | 0 => by rw [show ((0 : Nat) : Int) = 0 from rfl, pw7_0]; exact Al.refl _
  | k + 1 => by
    have h := scF_at_nil u
    have e : rep (k + 1) u = u ++ rep k u := by unfold rep; rw [List.replicate_succ, List.flatten_cons]
    rw [e, scF_app, show ((k + 1 : Nat) : Int) = 1 + (k : Int) by omega]
    exact (pw7_add _ h 1 k).trans ((pw7_1 _ h).conv (pw7_nat u k))
theorem pw7_back (u : List Int) (nz : ∀ x ∈ u, x ≠ 0) : Al (pw7 (scF u) (-1)) (scF (back u)) := by
  refine cancel_right (scF_at_nil u) ?_
  refine (pw7_inv _ (scF_at_nil u)).trans ?_
  rw [← scF_app, sc_back_l u nz]
  exact Al.refl _
theorem pw7_repW (u : List Int) (nz : ∀ x ∈ u, x ≠ 0) (n : Int) : Al (pw7 (scF u) n) (scF (repW u n)) := by
  unfold repW
  by_cases c : n < 0
  · rw [if_pos c]
    have e : n = -1 * (((-n).toNat : Nat) : Int) := by omega
    have h := scF_at_nil u
    have := (pw7_mul (scF u) h (-1) (((-n).toNat : Nat) : Int)).symm
    rw [← e] at this
    exact this.trans ((pw7_congr (pw7_back u nz) _).trans (pw7_nat (back u) _))
  · rw [if_neg c]
    have e : n = ((n.toNat : Nat) : Int) := by omega
    have := pw7_nat u n.toNat
    rw [← e] at this
    exact this
end Pre

namespace Pre
open PySem PySem.Spec PyProof.Rows L2 R9
theorem lc_zip2 {K : PySem.W.Frag} {a b : Addr} {xs ys : List V} {g : TG} {tt : TT} {te : TE} {vs : List Nat} {σ : L2.St} {H1 : Hp} {D : Addr} {Qd : Hp → Prop} (Pv : Nat → Hp → Prop) (el : xs.length = ys.length) (h0 : Pv 0 (upd H1 D (.lst []))) (hl : ∀ i H, Pv i H → SqL K H a xs ∧ SqL K H b ys)
    (hs : ∀ i x y T H, xs[i]? = some x → ys[i]? = some y → H T = none → Pv i H → g (.ref T) (wipe σ vs) (upd H T (.tup [x, y])) fun σ2 H2 => wipe σ2 vs = wipe σ vs ∧ tt σ2 H2 fun b H3 =>
      if b = true then te σ2 H3 fun y H4 => ∃ acc, H4 D = some (.lst acc) ∧ acc.length < sizeLine ∧ Pv (i + 1) (upd H4 D (.lst (acc ++ [y]))) else Pv (i + 1) H3) (hd : ∀ H, Pv xs.length H → Qd H) :
    ∃ W : Nat → Nat → Hp → Prop, (∃ m, W 0 m (upd H1 D (.lst []))) ∧ ∀ i m H, W i m H →
      ((Itz K a b).stop i H ∧ Qd H) ∨ ((Itz K a b).go i H ∧ ∃ Nx : Hp → Prop, (∀ H', Nx H' → ∃ m', m' < m ∧ W (i + 1) m' H') ∧ ∀ x H', (Itz K a b).yld i H x H' → g x (wipe σ vs) H' fun σ2 H2 => wipe σ2 vs = wipe σ vs ∧ tt σ2 H2 fun b H3 =>
        if b = true then te σ2 H3 fun y H4 => ∃ acc, H4 D = some (.lst acc) ∧ acc.length < sizeLine ∧ Nx (upd H4 D (.lst (acc ++ [y]))) else Nx H3) := by
  refine ⟨fun i m H => m = xs.length - i ∧ i ≤ xs.length ∧ Pv i H, ⟨xs.length, by simp, Nat.zero_le _, h0⟩, ?_⟩
  rintro i m H ⟨rfl, hi, p⟩
  have q := hl i H p
  by_cases hlt : i < xs.length
  · refine .inr ⟨⟨xs, ys, xs[i], ys[i], q.1, q.2, by simp [hlt], by simp [show i < ys.length by omega]⟩, Pv (i + 1), fun H' p' => ⟨xs.length - (i + 1), by omega, rfl, hlt, p'⟩, fun x H' y => ?_⟩
    obtain ⟨T, x', y', rfl, hT, rfl, z1, z2⟩ := y
    exact hs i x' y' T _ (z1 xs q.1) (z2 ys q.2) hT p
  · have e : i = xs.length := by omega
    subst e
    exact .inl ⟨⟨xs, ys, q.1, q.2, .inl (Nat.le_refl _)⟩, hd H p⟩
/-! ### powers, chosen -/
def chI (n : Int) (pss : List (List Int)) (m : Nat) : Nat → List Int
  | 0 => List.replicate m 0
  | i + 1 => List.zipWith (fun a b => a + ch n i * b) (chI n pss m i) (pss.getD i [])
theorem chI_len {n : Int} {pss : List (List Int)} {m : Nat} (h : ∀ p ∈ pss, p.length = m) : ∀ i, i ≤ pss.length → (chI n pss m i).length = m
  | 0, _ => List.length_replicate
  | i + 1, hi => by
    rw [chI, List.length_zipWith, chI_len h i (by omega), List.getD_eq_getElem?_getD, List.getElem?_eq_getElem (show i < pss.length by omega), Option.getD_some, h _ (List.getElem_mem _), Nat.min_self]
theorem zip_map (ws : List (List Int)) (f g : Ser) (c : Int) : List.zipWith (fun a b => a + c * b) (ws.map f) (ws.map g) = ws.map fun w => f w + c * g w := by
  induction ws with
  | nil => rfl
  | cons w r ih => rw [List.map_cons, List.map_cons, List.map_cons, List.zipWith_cons_cons, ih]
theorem chI_map {ws : List (List Int)} {f : Ser} {n : Int} {pss : List (List Int)} (h : ∀ i, i < pss.length → pss.getD i [] = ws.map (xpow f i)) : ∀ i, i ≤ pss.length → chI n pss ws.length i = ws.map (sumTo f n i)
  | 0, _ => by
    show List.replicate _ _ = ws.map fun _ => 0
    rw [List.map_const']
  | i + 1, hi => by rw [chI, chI_map h i (by omega), h i (by omega), zip_map]; rfl
theorem restW_map {l d : Nat} (f : Ser) (ok : GOk l d) : restW ((gw l d).map f) = (gw l d).map (xF f) := by
  obtain ⟨r, e⟩ := gw_first l d
  have nd := (gw_fin ok).1
  rw [e] at nd ⊢
  unfold restW
  rw [List.map_cons, List.map_cons, List.drop_one, List.tail_cons]
  congr 1
  refine List.map_congr_left fun w hw => ?_
  refine (if_neg fun z => ?_).symm
  subst z
  exact (List.nodup_cons.mp nd).1 hw
theorem pows_get {ws : List (List Int)} (C : Cl ws) (f : Ser) : ∀ (m j : Nat), (∀ i, i < (powsF ws (ws.map (xF f)) m (ws.map (xpow f j))).length → (powsF ws (ws.map (xF f)) m (ws.map (xpow f j))).getD i [] = ws.map (xpow f (j + i))) ∧
    ((∀ w ∈ ws, w.length < j + m) → ∀ w ∈ ws, ∀ k, j + (powsF ws (ws.map (xF f)) m (ws.map (xpow f j))).length ≤ k → xpow f k w = 0)
  | 0, j => ⟨fun i hi => absurd hi (Nat.not_lt_zero _), fun h w hw k hk => xpow_low f k w (by have := h w hw; rw [powsF] at hk; simp at hk; omega)⟩
  | m + 1, j => by
    by_cases c : (ws.map (xpow f j)).any (· != 0) = true
    · have e : powsF ws (ws.map (xF f)) (m + 1) (ws.map (xpow f j)) = ws.map (xpow f j) :: powsF ws (ws.map (xF f)) m (ws.map (xpow f (j + 1))) := by
        rw [powsF, if_pos c, joinW_map C]
        rfl
      obtain ⟨i1, i2⟩ := pows_get C f m (j + 1)
      rw [e]
      refine ⟨fun i hi => ?_, fun h w hw k hk => ?_⟩
      · cases i with
        | zero => rfl
        | succ i =>
          rw [List.getD_cons_succ, i1 i (by simpa using hi), show j + 1 + i = j + (i + 1) by omega]
      · rw [List.length_cons] at hk
        exact i2 (fun w hw => by have := h w hw; omega) w hw k (by omega)
    · have c' : (ws.map (xpow f j)).any (· != 0) = false := by simpa using c
      rw [powsF_no c']
      refine ⟨fun i hi => absurd hi (Nat.not_lt_zero _), fun h w hw k hk => ?_⟩
      have z : ∀ w ∈ ws, xpow f j w = 0 := fun w hw => by
        have := List.any_eq_false.mp c' (xpow f j w) (List.mem_map.mpr ⟨w, hw, rfl⟩)
        simpa using this
      have : ∀ i, ∀ w ∈ ws, xpow f (j + i) w = 0 := fun i => by
        induction i with
        | zero => exact z
        | succ i ih =>
          intro w hw
          show conv (xpow f (j + i)) (xF f) w = 0
          have e := conv_congr (f := xpow f (j + i)) (f' := fun _ => 0) (g := xF f) (g' := xF f) (w := w) (fun k => ih _ (C.tk w hw k)) (fun _ => rfl)
          rw [e, conv_zero_left]
      have := this (k - j) w hw
      rwa [show j + (k - j) = k by simp at hk; omega] at this
theorem powsW_get {l d : Nat} (ok : GOk l d) (f : Ser) : (∀ i, i < (powsW l d ((gw l d).map f)).length → (powsW l d ((gw l d).map f)).getD i [] = (gw l d).map (xpow f i)) ∧
    ∀ w ∈ gw l d, ∀ k, (powsW l d ((gw l d).map f)).length ≤ k → xpow f k w = 0 := by
  have C := gw_cl ok
  have e1 : xpow f 1 = xF f := one_conv _
  obtain ⟨i1, i2⟩ := pows_get C f (d + 1) 1
  rw [e1] at i1 i2
  unfold powsW
  rw [restW_map f ok]
  refine ⟨fun i hi => ?_, fun w hw k hk => ?_⟩
  · cases i with
    | zero => rw [List.getD_cons_zero, gw_empty ok]; rfl
    | succ i => rw [List.getD_cons_succ, i1 i (by simpa using hi), Nat.add_comm]
  · rw [List.length_cons] at hk
    exact i2 (fun w hw => by have := (gw_mem.mp hw).1; omega) w hw k (by omega)
theorem sumTo_more {f : Ser} {n : Int} {w : List Int} {j : Nat} (h : ∀ k, j ≤ k → xpow f k w = 0) : ∀ i, sumTo f n (j + i) w = sumTo f n j w
  | 0 => rfl
  | i + 1 => by
    show sumTo f n (j + i) w + ch n (j + i) * xpow f (j + i) w = _
    rw [h (j + i) (by omega), Int.mul_zero, Int.add_zero, sumTo_more h i]
theorem powsW_len (l d : Nat) (one : List Int) : 1 ≤ (powsW l d one).length ∧ (powsW l d one).length ≤ d + 2 := by
  unfold powsW
  rw [List.length_cons]
  have := powsF_len (gw l d) (restW one) (d + 1) (restW one)
  omega
theorem chI_pw7 {l d : Nat} (ok : GOk l d) (f : Ser) (n : Int) : chI n (powsW l d ((gw l d).map f)) (gw l d).length (powsW l d ((gw l d).map f)).length = (gw l d).map (pw7 f n) := by
  obtain ⟨h1, h2⟩ := powsW_get ok f
  rw [chI_map h1 _ (Nat.le_refl _)]
  refine List.map_congr_left fun w hw => ?_
  have lp := (powsW_len l d ((gw l d).map f)).2
  have d5 := ok.d5
  have := sumTo_more (n := n) (h2 w hw) (8 - (powsW l d ((gw l d).map f)).length)
  rw [show (powsW l d ((gw l d).map f)).length + (8 - (powsW l d ((gw l d).map f)).length) = 8 by omega] at this
  exact this.symm
theorem zip_at {n : Int} {i : Nat} {as bs : List Int} {j : Nat} (ha : j < as.length) (hb : j < bs.length) : (List.zipWith (fun a b => a + ch n i * b) as bs).take (j + 1) = (List.zipWith (fun a b => a + ch n i * b) as bs).take j ++ [as[j] + ch n i * bs[j]] := by
  have h : j < (List.zipWith (fun a b => a + ch n i * b) as bs).length := by rw [List.length_zipWith]; omega
  rw [List.take_succ_eq_append_getElem h, List.getElem_zipWith]
theorem Sz.bd {m : Nat} {i : Int} (h : Sz m i) : Bd m i := Nat.le_of_lt h
theorem LL.same {H H' : Hp} {r : Addr} {ns : List (List Int)} (x : LL H r ns) (s : Same H H') : LL H' r ns := let ⟨ps, h1, h2⟩ := x; ⟨ps, s _ _ h1, Paired.imp' (fun _ _ w => w.same s) h2⟩
/-- how great the powers are -/
theorem powsW_bds {l d k : Nat} (ok : GOk l d) {one : List Int} (h1 : one.length = (gw l d).length) (hb : Bds k one) : ∀ p ∈ powsW l d one, p.length = (gw l d).length ∧ Bds ((k + 11) * (d + 2)) p := by
  have C := gw_cl ok
  have l1 : 1 ≤ (gw l d).length := List.length_pos_iff.mpr (gw_ne l d)
  have main : ∀ (m j : Nat) (p : List Int), 1 ≤ j → j + m ≤ d + 2 → p.length = (gw l d).length → Bds ((k + 11) * j) p → ∀ q ∈ powsF (gw l d) (restW one) m p, q.length = (gw l d).length ∧ Bds ((k + 11) * (d + 2)) q := by
    intro m
    induction m with
    | zero => intro j p _ _ _ _ q hq; rw [powsF] at hq; cases hq
    | succ m ih =>
      intro j p hj hjm hp hbp q hq
      rw [powsF] at hq
      split at hq
      · rcases List.mem_cons.mp hq with rfl | hq
        · exact ⟨hp, hbp.mono (Nat.mul_le_mul_left _ (by omega))⟩
        · refine ih (j + 1) _ (by omega) (by omega) (joinW_len ..) ?_ q hq
          exact (Bds.join C hbp hb.rest).mono (by rw [Nat.mul_add]; omega)
      · cases hq
  intro p hp
  rcases List.mem_cons.mp hp with rfl | hp
  · exact ⟨emptyW_len l1, (Bds.empty _).mono (Nat.zero_le _)⟩
  · exact main (d + 1) 1 _ (by omega) (by omega) (by rw [restW_len (by omega), h1]) (hb.rest.mono (by omega)) p hp
end Pre

namespace L2
open PySem PySem.Spec PyProof.Rows Pre
section
variable {X : Cx}
/-! ### list.index of data -/
/-! ### list(range(n)) -/
end
end L2

namespace Pre
open PySem PySem.Spec PyProof.Rows L2 R9
/-! ### parts of turnwords, by a look at all ends -/
def cutAt (w : List Int) : Nat := (((List.range (w.length - 1)).map (· + 1)).find? fun k => tw (w.drop k)).getD 0
theorem gt_cut_all : ((List.range 4).all fun l => (List.range ([0, 5, 5, 4, 3].getD (l + 1) 0)).all fun d => (gt (l + 1) (d + 1)).all fun w => decide (w.length = 1) || (decide (1 ≤ cutAt w) && (gt (l + 1) (d + 1)).contains (w.take (cutAt w)) && (gt (l + 1) (d + 1)).contains (w.drop (cutAt w)) &&
    decide ((gt (l + 1) (d + 1)).idxOf (w.take (cutAt w)) < (gt (l + 1) (d + 1)).idxOf w) && decide ((gt (l + 1) (d + 1)).idxOf (w.drop (cutAt w)) < (gt (l + 1) (d + 1)).idxOf w) && HT.lexLt (w.take (cutAt w)) (w.drop (cutAt w)) && (List.range (cutAt w)).all fun k => k == 0 || !tw (w.drop k))) = true := by decide +kernel
theorem gt_cut {l d : Nat} (h : GOk l d) {w : List Int} (hw : w ∈ gt l d) (h1 : w.length ≠ 1) : 1 ≤ cutAt w ∧ w.take (cutAt w) ∈ gt l d ∧ w.drop (cutAt w) ∈ gt l d ∧ (gt l d).idxOf (w.take (cutAt w)) < (gt l d).idxOf w ∧ (gt l d).idxOf (w.drop (cutAt w)) < (gt l d).idxOf w ∧ Halved w (w.take (cutAt w)) (w.drop (cutAt w)) := by
  have h1' := h.l1; have h4 := h.l4; have d1 := h.d1; have dm := h.dm
  have t := List.all_eq_true.mp gt_cut_all (l - 1) (List.mem_range.mpr (by omega))
  have e : l - 1 + 1 = l := by omega
  rw [e] at t
  have t2 := List.all_eq_true.mp t (d - 1) (List.mem_range.mpr (by omega))
  rw [show d - 1 + 1 = d by omega] at t2
  have t3 := List.all_eq_true.mp t2 w hw
  rcases Bool.or_eq_true_iff.mp t3 with z | z
  · exact absurd (of_decide_eq_true z) h1
  · simp only [Bool.and_eq_true, decide_eq_true_eq, List.contains_iff_mem] at z
    obtain ⟨⟨⟨⟨⟨⟨z1, z2⟩, z3⟩, z4⟩, z5⟩, z6⟩, z7⟩ := z
    refine ⟨z1, z2, z3, z4, z5, ⟨(List.take_append_drop _ _).symm, (gt_mem.mp z2).2.2, (gt_mem.mp z3).2.2, z6, fun k k1 k2 => ?_⟩⟩
    rw [List.length_take] at k2
    have := List.all_eq_true.mp z7 k (List.mem_range.mpr (by omega))
    rcases Bool.or_eq_true_iff.mp this with y | y
    · have : k = 0 := by simpa using y
      omega
    · simpa using y
theorem halved_at {w u v : List Int} (h : Halved w u v) : u.length = cutAt w := by
  have pu := h.one.pos
  have pv := h.two.pos
  have lw : w.length = u.length + v.length := by rw [h.eq, List.length_append]
  have tv : tw (w.drop u.length) = true := by rw [h.eq, List.drop_left]; exact (tw_ly v).mpr h.two
  unfold cutAt
  have : ((List.range (w.length - 1)).map (· + 1)).find? (fun k => tw (w.drop k)) = some u.length := by
    rw [List.find?_eq_some_iff_getElem]
    refine ⟨tv, u.length - 1, by rw [List.length_map, List.length_range]; omega, by rw [List.getElem_map, List.getElem_range]; omega, fun j hj => ?_⟩
    rw [List.getElem_map, List.getElem_range]
    have := h.most (j + 1) (by omega) (by omega)
    rw [this]
    rfl
  rw [this]
  rfl
theorem halved_is {w u v : List Int} (h : Halved w u v) : u = w.take (cutAt w) ∧ v = w.drop (cutAt w) := by
  rw [← halved_at h]
  constructor
  · conv => rhs; rw [h.eq, List.take_left]
  · conv => rhs; rw [h.eq, List.drop_left]
theorem halved_two {w u v : List Int} (h : Halved w u v) : w.length ≠ 1 := by
  have pu := h.one.pos
  have pv := h.two.pos
  have lw : w.length = u.length + v.length := by rw [h.eq, List.length_append]
  omega
theorem Br.uniq {w b : List Int} (h : Br w b) : ∀ {b'}, Br w b' → b = b' := by
  induction h with
  | one x =>
    intro b' h'
    cases h' with
    | one _ => rfl
    | two h _ _ => exact absurd rfl (halved_two h)
  | @two w u v bu bv h hu hv ih1 ih2 =>
    intro b' h'
    cases h' with
    | one _ => exact absurd rfl (halved_two h)
    | @two _ u' v' bu' bv' h2 hu2 hv2 =>
      have e1 := halved_is h
      have e2 := halved_is h2
      have eu : u = u' := e1.1.trans e2.1.symm
      have ev : v = v' := e1.2.trans e2.2.symm
      subst eu ev
      rw [ih1 hu2, ih2 hv2]
theorem Br.small {w b : List Int} {l : Nat} (hl : Lets l w) (h : Br w b) : ∀ y ∈ b, l ≤ 4 → y.natAbs ≤ 4 := by
  induction h with
  | one x =>
    intro y hy h4
    rw [List.mem_singleton.mp hy]
    have := hl x (List.mem_singleton.mpr rfl)
    omega
  | @two w u v bu bv h hu hv ih1 ih2 =>
    intro y hy h4
    have a1 := ih1 (fun z hz => hl z (by rw [h.eq]; exact List.mem_append_left _ hz))
    have a2 := ih2 (fun z hz => hl z (by rw [h.eq]; exact List.mem_append_right _ hz))
    have bk : ∀ (c : List Int), (∀ y ∈ c, l ≤ 4 → y.natAbs ≤ 4) → ∀ y ∈ back c, y.natAbs ≤ 4 := fun c hc y hy => by
      unfold back at hy
      obtain ⟨z, hz, rfl⟩ := List.mem_map.mp (List.mem_reverse.mp hy)
      rw [Int.natAbs_neg]
      exact hc z hz h4
    unfold brack at hy
    rcases List.mem_append.mp hy with hy | hy
    · rcases List.mem_append.mp hy with hy | hy
      · rcases List.mem_append.mp hy with hy | hy
        · exact bk _ a1 y hy
        · exact bk _ a2 y hy
      · exact a1 y hy h4
    · exact a2 y hy h4
/-! ### a list of two as a text -/
def dO : Option (Nat × Nat) → PyData
  | none => .none
  | some p => .tuple [.int (p.1 : Nat), .int (p.2 : Nat)]
def d2 (o : Option (Nat × Nat)) (b : List Int) : PyData := .list [dO o, .tuple (b.map PyData.int)]
end Pre

namespace HT
open PySem PyProof.Rows
section
open PySem.SeqAt
open PySem.AutoSeq1 (wpAny_loadPart')
open PySem.MeetsSeq PySem.MeetsSeq2 PySem.MeetsSeq3
end
end HT
namespace L2
open PySem PySem.Spec PyProof.Rows Pre
end L2

namespace Pre
open PySem PySem.Spec PyProof.Rows L2 R9
/-! ### the words of a ground rise, and are as many as there are -/
end Pre

namespace Pre
open PySem PySem.Spec PyProof.Rows L2 R9
/-! ### how deep a word is -/
/-- nothing below so many letters, but the empty word -/
def Lo (i : Nat) (f : Ser) : Prop := f [] = 1 ∧ ∀ w : List Int, w.length < i → xF f w = 0
theorem conv_low_left (f g : Ser) {j : Nat} (hg : ∀ w : List Int, w.length < j → g w = 0) (w : List Int) (hw : w.length < j) : conv f g w = 0 :=
  conv_low (i := 0) (fun _ h => absurd h (Nat.not_lt_zero _)) hg w (by omega)
theorem conv_split (f g : Ser) (hf : f [] = 1) (hg : g [] = 1) (w : List Int) : conv f g w = oneF w + xF f w + xF g w + conv (xF f) (xF g) w := by
  have e1 := xF_one f hf
  have e2 := xF_one g hg
  have a : conv f g w = conv f oneF w + conv f (xF g) w := by
    have := conv_add_right f oneF (xF g) w
    rw [← e2] at this
    exact this
  have b : conv f (xF g) w = conv oneF (xF g) w + conv (xF f) (xF g) w := by
    have := conv_add_left oneF (xF f) (xF g) w
    rw [← e1] at this
    exact this
  rw [a, b, conv_one, one_conv]
  have c : f w = oneF w + xF f w := congrFun e1 w
  omega
theorem Lo.brack {a b : List Int} {i j : Nat} (na : ∀ x ∈ a, x ≠ 0) (nb : ∀ x ∈ b, x ≠ 0) (ha : Lo i (scF a)) (hb : Lo j (scF b)) : Lo (i + j) (scF (brack a b)) := by
  refine ⟨scF_at_nil _, fun w hw => ?_⟩
  by_cases c : w = []
  · exact if_pos c
  · have e0 : xF (scF (Pre.brack a b)) w = scF (Pre.brack a b) w := if_neg c
    rw [e0]
    have e1 : scF (Pre.brack a b) = conv (scF (back a)) (conv (scF (back b)) (conv (scF a) (scF b))) := by
      unfold Pre.brack
      rw [scF_app, scF_app, scF_app, conv_assoc, conv_assoc]
    have e2 : conv (scF a) (scF b) = fun v => conv (scF b) (scF a) v + (conv (xF (scF a)) (xF (scF b)) v + (-1) * conv (xF (scF b)) (xF (scF a)) v) := by
      funext v
      rw [conv_split _ _ ha.1 hb.1, conv_split _ _ hb.1 ha.1]
      omega
    have lowC : ∀ v : List Int, v.length < i + j → (fun v => conv (xF (scF a)) (xF (scF b)) v + (-1) * conv (xF (scF b)) (xF (scF a)) v) v = 0 := fun v hv => by
      show conv (xF (scF a)) (xF (scF b)) v + (-1) * conv (xF (scF b)) (xF (scF a)) v = 0
      rw [conv_low ha.2 hb.2 v hv, conv_low hb.2 ha.2 v (by omega)]
      rfl
    have e3 : conv (scF (back b)) (conv (scF a) (scF b)) = fun v => scF a v + conv (scF (back b)) (fun v => conv (xF (scF a)) (xF (scF b)) v + (-1) * conv (xF (scF b)) (xF (scF a)) v) v := by
      funext v
      rw [e2, conv_add_right]
      congr 1
      rw [← conv_assoc', ← scF_app, sc_back_l b nb, one_conv]
    have e4 : scF (Pre.brack a b) w = conv (scF (back a)) (scF a) w + conv (scF (back a)) (conv (scF (back b)) (fun v => conv (xF (scF a)) (xF (scF b)) v + (-1) * conv (xF (scF b)) (xF (scF a)) v)) w := by
      rw [e1, e3, conv_add_right]
    rw [e4, ← scF_app, sc_back_l a na, show oneF w = 0 from if_neg c, conv_low_left _ _ (fun v hv => conv_low_left _ _ lowC v hv) w hw]
    rfl
theorem Lo.one (u : List Int) : Lo 1 (scF u) := ⟨scF_at_nil u, fun w hw => xF_low _ w hw⟩
theorem Lo.mono {i j : Nat} {f : Ser} (h : Lo j f) (hi : i ≤ j) : Lo i f := ⟨h.1, fun w hw => h.2 w (by omega)⟩
theorem Lo.alike {i : Nat} {f : Ser} (h : Lo i f) {w : List Int} (hw : w.length < i) : f w = oneF w := by
  have e := congrFun (xF_one f h.1) w
  rw [e, h.2 w hw, Int.add_zero]
/-! ### the brackets of turnwords, reckoned -/
def brF : Nat → List Int → List Int
  | 0, w => w
  | n + 1, w => if w.length = 1 then w else brack (brF n (w.take (cutAt w))) (brF n (w.drop (cutAt w)))
theorem brF_br {l d : Nat} (ok : GOk l d) : ∀ (n : Nat) (w : List Int), w ∈ gt l d → w.length ≤ n → Br w (brF n w)
  | 0, w, hw, hl => by have := (gt_mem.mp hw).2.2.pos; omega
  | n + 1, w, hw, hl => by
    rw [brF]
    by_cases c : w.length = 1
    · rw [if_pos c]
      obtain ⟨x, rfl⟩ := List.length_eq_one_iff.mp c
      exact .one x
    · rw [if_neg c]
      obtain ⟨c1, ct, cd, _, _, hh⟩ := gt_cut ok hw c
      have p1 := hh.one.pos
      have p2 := hh.two.pos
      have lw : w.length = (w.take (cutAt w)).length + (w.drop (cutAt w)).length := by rw [List.length_take, List.length_drop]; omega
      exact .two hh (brF_br ok n _ ct (by omega)) (brF_br ok n _ cd (by omega))
theorem br_is {l d : Nat} (ok : GOk l d) {w b : List Int} (hw : w ∈ gt l d) (h : Br w b) : b = brF 5 w := h.uniq (brF_br ok 5 w hw (Nat.le_trans (gt_mem.mp hw).1 ok.d5))
end Pre

namespace L2
open PySem PySem.Spec PyProof.Rows Pre
/-! ### x in a list or tuple of data -/
end L2

namespace Pre
open PySem PySem.Spec PyProof.Rows L2 R9
/-! ### what a bracket tells of words of its own size -/
end Pre

namespace Pre
open PySem PySem.Spec PyProof.Rows L2 R9
/-! ### rows: products of powers of brackets -/
theorem xpow_lo {f : Ser} {i : Nat} (h : Lo i f) : ∀ (k : Nat) (w : List Int), w.length < k * i → xpow f k w = 0
  | 0, w, hw => by rw [Nat.zero_mul] at hw; exact absurd hw (Nat.not_lt_zero _)
  | k + 1, w, hw => conv_low (xpow_lo h k) h.2 w (by rw [Nat.succ_mul] at hw; exact hw)
theorem Lo.two {f g : Ser} {m : Nat} (hf : Lo m f) (hg : Lo m g) {w : List Int} (hm : 1 ≤ m) (hw : w.length ≤ m) (c : w ≠ []) : conv f g w = f w + g w := by
  rw [conv_split f g hf.1 hg.1, show oneF w = 0 from if_neg c, conv_low hf.2 hg.2 w (by omega), show xF f w = f w from if_neg c, show xF g w = g w from if_neg c]
  omega
theorem Lo.conv {f g : Ser} {m : Nat} (hm : 1 ≤ m) (hf : Lo m f) (hg : Lo m g) : Lo m (Pre.conv f g) := by
  refine ⟨nilOne_conv hf.1 hg.1, fun w hw => ?_⟩
  by_cases c : w = []
  · exact if_pos c
  · have e : xF (Pre.conv f g) w = Pre.conv f g w := if_neg c
    have a1 := hf.2 w hw
    have a2 := hg.2 w hw
    rw [show xF f w = f w from if_neg c] at a1
    rw [show xF g w = g w from if_neg c] at a2
    rw [e, Lo.two hf hg hm (by omega) c, a1, a2]
    rfl
/-- what stands behind another one in the order of places -/
def Bh (u v : List Int) : Prop := u.length < v.length ∨ (u.length = v.length ∧ HT.lexLt u v = true)
instance (u v : List Int) : Decidable (Bh u v) := by unfold Bh; infer_instance
end Pre

namespace Pre
open PySem PySem.Spec PyProof.Rows L2 R9
/-! ### promises of a ground's smaller answers -/
def spMPow (C : Addr) : Sp := fun vs H Q _ => ∃ (g : Addr) (i : Nat) (w : List Int) (l d : Nat), vs = [.ref g, .int (i : Nat)] ∧ Gr C H g l d ∧ (gt l d)[i]? = some w ∧ ∀ t, TT2 H t (powsW l d (scatW (gw l d) (brF 5 w))) → Q (.ref t) H
end Pre

namespace L2
open PySem PySem.Spec PyProof.Rows Pre
section
variable {prog : Program} {w : World} {A : Around} {E : Value → Shared → Prop} {s : Shared}
/-- what an iterator of one record does: it gives v, and only its own record changes, from P to R -/
def Gives (it : Addr) (P : Heap → Prop) (v : Value) (R : Heap → Prop) : Prop :=
  ∀ (prog : Program) (w : World) (A : Around) (E : Value → Shared → Prop) (s : Shared) (Q : Value → Shared → Prop), P s.heap → (∀ h', R h' → Heap.SameBut it s.heap h' → Q v { s with heap := h' }) → wpAny (model prog w) A (Builtin.SmallTypes.nextOf (.ref it)) Q E s
theorem gives_list {it l : Addr} {k : Nat} {xs : Array Value} {v : Value} (hv : xs[k]? = some v) : Gives it (fun h => h.IsListIter it l k ∧ h.IsList l xs) v (fun h => h.IsListIter it l (k + 1)) := fun _ _ _ _ _ _ p q => wpAny_nextOf_list_item p.1 p.2 hv q
theorem gives_tuple {it t : Addr} {k : Nat} {xs : Array Value} {v : Value} (hv : xs[k]? = some v) : Gives it (fun h => h.IsTupleIter it t k ∧ h.IsTuple t xs) v (fun h => h.IsTupleIter it t (k + 1)) := by
  intro prog w A E s Q p q
  obtain ⟨⟨o, ho, hc, hd⟩, ⟨ot, hot, _, nt, hdt⟩⟩ := p
  have ty : s.TypeIs (.ref it) "tuple_iterator" := ⟨o, ho, hc⟩
  unfold Builtin.SmallTypes.nextOf
  refine wpAny_bind (wpAny_callSpecial?_slot (name := Str.ofString "__next__") ty F.slot_tuple_iterator_next (wpAny_call_entry F.slot_tuple_iterator_next ty F.entry_tuple_iterator_next ?_ (F.args_tuple_iterator_next_1 _)))
  wp_walk using (wpAny_field ho hd (x := .ref t) rfl), (wpAny_field ho hd (x := .int k 0) rfl), (wpAny_seqItems hot hdt)
  rw [Int.toNat_natCast, hv]
  wp_walk using (wpAny_setField ho hd (by simp))
  refine ⟨v, rfl, wpAny_pure (q _ ⟨_, Heap.get?_update_self _ ho (Obj.isFreed_of_fields (Obj.data_mapFields hd _)), (Obj.cls_mapFields ..).trans hc, ?_⟩ (Heap.SameBut.update ..))⟩
  rw [Obj.data_mapFields hd]
  simp [rawInt]
end
end L2

namespace L2
open PySem PySem.Spec PyProof.Rows Pre
/-- P rests on these records alone -/
def Dep (S : List Addr) (P : Heap → Prop) : Prop := ∀ h h' : Heap, (∀ c ∈ S, ∀ o, h.get? c = some o → h'.get? c = some o) → P h → P h'
theorem Dep.but {S : List Addr} {P : Heap → Prop} (d : Dep S P) {b : Addr} {h h' : Heap} (e : Heap.SameBut b h h') (nb : b ∉ S) (p : P h) : P h' :=
  d h h' (fun c hc o q => e.extBut c o (fun z => nb (z ▸ hc)) q) p
theorem Dep.grow {S : List Addr} {P : Heap → Prop} (d : Dep S P) {h : Heap} (o : Obj) (p : P h) : P (h.push o) := d h _ (fun c _ o' q => Heap.get?_push_of_some o q) p
section
variable {prog : Program} {w : World} {A : Around} {E : Value → Shared → Prop} {s : Shared}
theorem zipG_item {z tI tO ia ib : Addr} {P1 R1 P2 R2 : Heap → Prop} {S1 S2 : List Addr} {x y a b : Value} {Q : Value → Shared → Prop}
    (hz : IsZip s.heap z tI tO .none) (hI : IsPair s.heap tI (.ref ia) (.ref ib)) (hO : IsPair s.heap tO a b) (g1 : Gives ia P1 x R1) (g2 : Gives ib P2 y R2) (p1 : P1 s.heap) (p2 : P2 s.heap)
    (dp1 : Dep S1 P1) (dp2 : Dep S2 P2) (dr1 : Dep S1 R1) (dr2 : Dep S2 R2) (zS1 : z ∉ S1) (zS2 : z ∉ S2) (oS1 : tO ∉ S1) (oS2 : tO ∉ S2) (aS2 : ia ∉ S2) (bS1 : ib ∉ S1) (nzO : tO ≠ z) (naO : tO ≠ ia) (nbO : tO ≠ ib) (naz : ia ≠ z) (nbz : ib ≠ z)
    (hQ : ∀ h', IsZip h' z tI tO (rawInt s.heap.objs.size) → IsPair h' tO x y → R1 h' → R2 h' → IsPair h' s.heap.objs.size x y → h'.objs.size = s.heap.objs.size + 1 → (∀ c o, c ≠ z → c ≠ tO → c ≠ ia → c ≠ ib → s.heap.get? c = some o → h'.get? c = some o) → Q (.ref s.heap.objs.size) { s with heap := h' }) :
    wpAny (model prog w) A (Builtin.«zip.__next__» ⟨[.ref z], []⟩) (fun fin s' => ∃ v, fin = .done (.ret v) ∧ Q v s') E s := by
  wp_walk using (wpAny_field hz rfl (x := .bool false) rfl), (wpAny_field hz rfl (x := .ref tI) rfl), (wpAny_seqItems hI rfl), (wpAny_field hz rfl (x := .none) rfl), (wpAny_field hz rfl (x := .ref tO) rfl), (wpAny_setField_rec hz (by simp))
  intro h1 hz1 e1
  have z1 : IsZip h1 z tI tO .ellipsis := hz1
  have o1 : IsPair h1 tO a b := e1.extBut _ _ nzO hO
  wp_walk
  refine wpAny_onRaise (show wpAny (model prog w) A (Builtin.SmallTypes.nextOf (Value.ref ia) >>= fun v => pure (some v)) _ _ _ from wpAny_bind (g1 prog w A _ _ _ (dp1.but e1 zS1 p1) fun h2 r2 e2 => ?_))
  have o2 : IsPair h2 tO a b := e2.extBut _ _ naO o1
  wp_walk using (wpAny_seqItems o2 rfl), (wpAny_updateSeq_pair o2)
  intro h3 ho3 e3
  have o3 : IsPair h3 tO x b := ho3
  wp_walk
  refine wpAny_onRaise (show wpAny (model prog w) A (Builtin.SmallTypes.nextOf (Value.ref ib) >>= fun v => pure (some v)) _ _ _ from wpAny_bind (g2 prog w A _ _ _ (dp2.but e3 oS2 (dp2.but e2 aS2 (dp2.but e1 zS2 p2))) fun h4 r4 e4 => ?_))
  have o4 : IsPair h4 tO x b := e4.extBut _ _ nbO o3
  wp_walk using (wpAny_seqItems o4 rfl), (wpAny_updateSeq_pair o4)
  intro h5 ho5 e5
  have o5 : IsPair h5 tO x y := ho5
  have z5 : IsZip h5 z tI tO .ellipsis := e5.extBut _ _ nzO.symm (e4.extBut _ _ nbz.symm (e3.extBut _ _ nzO.symm (e2.extBut _ _ naz.symm z1)))
  have n5 : h5.objs.size = s.heap.objs.size := by rw [e5.1, e4.1, e3.1, e2.1, e1.1]
  wp_walk using (wpAny_seqItems o5 rfl)
  refine ⟨_, rfl, ?_⟩
  generalize hT : (Obj.mk (Value.type "tuple") none (Data.seq #[x, y].toList.toArray 0) #[]) = T
  have zT : IsZip (h5.push T) z tI tO .ellipsis := Heap.get?_push_of_some _ z5
  have e6 : Heap.SameBut z (h5.push T) ((h5.push T).update z (Obj.mapFields fun f => f.setIfInBounds 0 (rawInt h5.objs.size))) := Heap.SameBut.update ..
  have z6 : IsZip ((h5.push T).update z (Obj.mapFields fun f => f.setIfInBounds 0 (rawInt h5.objs.size))) z tI tO (rawInt h5.objs.size) := Heap.get?_update_self _ zT rfl
  generalize (h5.push T).update z (Obj.mapFields fun f => f.setIfInBounds 0 (rawInt h5.objs.size)) = h6 at e6 z6 ⊢
  have e7 : Heap.SameBut z h6 (h6.update z (Obj.mapFields fun f => f.setIfInBounds 1 (Value.bool false))) := Heap.SameBut.update ..
  have z7 : IsZip (h6.update z (Obj.mapFields fun f => f.setIfInBounds 1 (Value.bool false))) z tI tO (rawInt h5.objs.size) := Heap.get?_update_self _ z6 rfl
  generalize h6.update z (Obj.mapFields fun f => f.setIfInBounds 1 (Value.bool false)) = h7 at e7 z7 ⊢
  have nzl : z ≠ h5.objs.size := Nat.ne_of_lt (Heap.lt_size z5)
  have up : ∀ c o, c ≠ z → h5.get? c = some o → h7.get? c = some o := fun c o n q => e7.extBut _ _ n (e6.extBut _ _ n (Heap.get?_push_of_some _ q))
  have pT : IsPair h7 h5.objs.size x y := e7.extBut _ _ nzl.symm (e6.extBut _ _ nzl.symm (by rw [← hT]; exact Heap.get?_push_size _ rfl))
  have n7 : h7.objs.size = h5.objs.size + 1 := by rw [e7.1, e6.1, Heap.size_push]
  rw [n5] at z7 pT n7 ⊢
  refine hQ h7 z7 (up _ _ nzO o5) ?_ ?_ pT n7 fun c o c1 c2 c3 c4 q => up c o c1 (e5.extBut _ _ c2 (e4.extBut _ _ c4 (e3.extBut _ _ c2 (e2.extBut _ _ c3 (e1.extBut _ _ c1 q)))))
  · exact dr1 h5 h7 (fun c hc o q => up c o (fun e => zS1 (e ▸ hc)) q) (dr1.but e5 oS1 (dr1.but e4 bS1 (dr1.but e3 oS1 r2)))
  · exact dr2 h5 h7 (fun c hc o q => up c o (fun e => zS2 (e ▸ hc)) q) (dr2.but e5 oS2 r4)
end
end L2

namespace L2
open PySem PySem.Spec PyProof.Rows Pre
/-- an iterator of one record that has come to its end -/
def Stops (it : Addr) (P : Heap → Prop) : Prop :=
  ∀ (prog : Program) (w : World) (A : Around) (E : Value → Shared → Prop) (s : Shared) (Q : Value → Shared → Prop), A.handled = none → P s.heap → (∀ h' e, Heap.ExtBut it s.heap h' → (∃ o, h'.get? e = some o ∧ o.cls = .type "StopIteration") → E (.ref e) { s with heap := h' }) → wpAny (model prog w) A (Builtin.SmallTypes.nextOf (.ref it)) Q E s
theorem stops_list {it l : Addr} {k : Nat} {xs : Array Value} (hv : xs[k]? = none) : Stops it (fun h => h.IsListIter it l k ∧ h.IsList l xs) := fun _ _ _ _ _ _ hh p q => wpAny_nextOf_list_end hh p.1 p.2 hv q
section
variable {prog : Program} {w : World} {A : Around} {E : Value → Shared → Prop} {s : Shared}
theorem zipG_end {z tI tO ia ib : Addr} {P1 : Heap → Prop} {S1 : List Addr} {a b : Value} {Q : PySem.Fin → Shared → Prop} (hh : A.handled = none)
    (hz : IsZip s.heap z tI tO .none) (hI : IsPair s.heap tI (.ref ia) (.ref ib)) (hO : IsPair s.heap tO a b) (g1 : Stops ia P1) (p1 : P1 s.heap) (dp1 : Dep S1 P1) (zS1 : z ∉ S1) (naz : ia ≠ z)
    (hE : ∀ h' e, (∀ c o, c ≠ z → c ≠ ia → s.heap.get? c = some o → h'.get? c = some o) → (∃ o, h'.get? e = some o ∧ o.cls = .type "StopIteration") → E (.ref e) { s with heap := h' }) :
    wpAny (model prog w) A (Builtin.«zip.__next__» ⟨[.ref z], []⟩) Q E s := by
  wp_walk using (wpAny_field hz rfl (x := .bool false) rfl), (wpAny_field hz rfl (x := .ref tI) rfl), (wpAny_seqItems hI rfl), (wpAny_field hz rfl (x := .none) rfl), (wpAny_field hz rfl (x := .ref tO) rfl), (wpAny_setField_rec hz (by simp))
  intro h1 hz1 e1
  have z1 : IsZip h1 z tI tO .ellipsis := hz1
  wp_walk
  refine wpAny_onRaise (show wpAny (model prog w) A (Builtin.SmallTypes.nextOf (Value.ref ia) >>= fun v => pure (some v)) _ _ _ from wpAny_bind (g1 prog w A _ _ _ hh (dp1.but e1 zS1 p1) fun h2 e x2 he => ?_))
  obtain ⟨oe, hoe, hce⟩ := he
  have z2 : IsZip h2 z tI tO .ellipsis := x2 _ _ naz.symm z1
  have nez : e ≠ z := fun q => by rw [q, z2] at hoe; cases hoe; simp at hce
  exact wpAny_setField_rec z2 (by simp) fun h3 _ e3 => hE h3 e (fun c o c1 c2 q => e3.extBut _ _ c1 (x2 _ _ c2 (e1.extBut _ _ c1 q))) ⟨oe, e3.extBut _ _ nez hoe, hce⟩
/-- what next(zip) does: the zip's own record is asked -/
theorem zipG_pyNext {z tI tO ia ib : Addr} {P1 R1 P2 R2 : Heap → Prop} {S1 S2 : List Addr} {x y a b : Value} {Q : Option Value → Shared → Prop}
    (hz : IsZip s.heap z tI tO .none) (hI : IsPair s.heap tI (.ref ia) (.ref ib)) (hO : IsPair s.heap tO a b) (g1 : Gives ia P1 x R1) (g2 : Gives ib P2 y R2) (p1 : P1 s.heap) (p2 : P2 s.heap)
    (dp1 : Dep S1 P1) (dp2 : Dep S2 P2) (dr1 : Dep S1 R1) (dr2 : Dep S2 R2) (zS1 : z ∉ S1) (zS2 : z ∉ S2) (oS1 : tO ∉ S1) (oS2 : tO ∉ S2) (aS2 : ia ∉ S2) (bS1 : ib ∉ S1) (nzO : tO ≠ z) (naO : tO ≠ ia) (nbO : tO ≠ ib) (naz : ia ≠ z) (nbz : ib ≠ z)
    (hQ : ∀ h', IsZip h' z tI tO (rawInt s.heap.objs.size) → IsPair h' tO x y → R1 h' → R2 h' → IsPair h' s.heap.objs.size x y → h'.objs.size = s.heap.objs.size + 1 → (∀ c o, c ≠ z → c ≠ tO → c ≠ ia → c ≠ ib → s.heap.get? c = some o → h'.get? c = some o) → Q (some (.ref s.heap.objs.size)) { s with heap := h' }) :
    wpAny (model prog w) A (pyNext (.ref z)) Q E s := by
  have ty : s.TypeIs (.ref z) "zip" := ⟨_, hz, rfl⟩
  unfold pyNext
  refine wpAny_bind (wpAny_attempt (wpAny_callSpecial?_slot (name := Str.ofString "__next__") ty F.slot_zip_next (wpAny_call_entry F.slot_zip_next ty F.entry_zip_next (zipG_item hz hI hO g1 g2 p1 p2 dp1 dp2 dr1 dr2 zS1 zS2 oS1 oS2 aS2 bS1 nzO naO nbO naz nbz ?_) (F.args_zip_next_1 _))))
  exact fun h' b1 b2 b3 b4 b5 b6 b7 => wpAny_pure (hQ h' b1 b2 b3 b4 b5 b6 b7)
theorem zipG_pyEnd {z tI tO ia ib : Addr} {P1 : Heap → Prop} {S1 : List Addr} {a b : Value} {Q : Option Value → Shared → Prop} (hh : A.handled = none)
    (hz : IsZip s.heap z tI tO .none) (hI : IsPair s.heap tI (.ref ia) (.ref ib)) (hO : IsPair s.heap tO a b) (g1 : Stops ia P1) (p1 : P1 s.heap) (dp1 : Dep S1 P1) (zS1 : z ∉ S1) (naz : ia ≠ z)
    (hQ : ∀ h', (∀ c o, c ≠ z → c ≠ ia → s.heap.get? c = some o → h'.get? c = some o) → Q none { s with heap := h' }) : wpAny (model prog w) A (pyNext (.ref z)) Q E s := by
  have ty : s.TypeIs (.ref z) "zip" := ⟨_, hz, rfl⟩
  unfold pyNext
  refine wpAny_bind (wpAny_attempt (wpAny_callSpecial?_slot (name := Str.ofString "__next__") ty F.slot_zip_next (wpAny_call_entry F.slot_zip_next ty F.entry_zip_next (zipG_end hh hz hI hO g1 p1 dp1 zS1 naz fun h' e k he => ?_) (F.args_zip_next_1 _))))
  obtain ⟨o, ho, hc⟩ := he
  exact wpAny_bind (wpAny_isInstance (T := "StopIteration") (b := true) ⟨o, ho, hc⟩ isSubtype_stop (wpAny_pure (hQ _ k)))
end
end L2

namespace L2
open PySem PySem.Spec PyProof.Rows Pre
theorem dep_listIt {it l : Addr} {k : Nat} {xs : Array Value} : Dep [it, l] (fun h => h.IsListIter it l k ∧ h.IsList l xs) := fun h h' q p => ⟨p.1.at fun o e => q it (by simp) o e, p.2.at fun o e => q l (by simp) o e⟩
theorem dep_listIt' {it l : Addr} {k : Nat} : Dep [it, l] (fun h => h.IsListIter it l k) := fun h h' q p => p.at fun o e => q it (by simp) o e
theorem dep_tupIt {it l : Addr} {k : Nat} {xs : Array Value} : Dep [it, l] (fun h => h.IsTupleIter it l k ∧ h.IsTuple l xs) := fun h h' q p => ⟨p.1.at fun o e => q it (by simp) o e, let ⟨o, e, r⟩ := p.2; ⟨o, q l (by simp) o e, r⟩⟩
theorem dep_tupIt' {it l : Addr} {k : Nat} : Dep [it, l] (fun h => h.IsTupleIter it l k) := fun h h' q p => p.at fun o e => q it (by simp) o e
/-- the list at a and the tuple at b, the items in new pairs; the list is no longer than the tuple -/
def Itzt (K : PySem.W.Frag) (a b : Addr) : It :=
  ⟨fun i H => ∃ (xs ys : List V) (x y : V), SqL K H a xs ∧ SqT K H b ys ∧ xs[i]? = some x ∧ ys[i]? = some y,
    fun i H v H' => ∃ T x y, v = .ref T ∧ H T = none ∧ H' = upd H T (.tup [x, y]) ∧ (∀ xs, SqL K H a xs → xs[i]? = some x) ∧ ∀ ys, SqT K H b ys → ys[i]? = some y,
    fun i H => ∃ xs : List V, SqL K H a xs ∧ xs.length ≤ i⟩
theorem turn_zipT {P : Program} {w : World} {K : PySem.W.Frag} {elts : List Expr} {kk : Nat} {tpos : Pos} {a b z TI TO i1 i2 : Addr} (D : ZipApart z TI TO i1 i2 a b) :
    Turn P w K (.Tuple elts kk tpos) (Itzt K a b) [z, TI, TO, i1, i2] z (fun i h => IsZip h z TI TO .none ∧ IsPair h TI (.ref i1) (.ref i2) ∧ (∃ x y, IsPair h TO x y) ∧ h.IsListIter i1 a i ∧ h.IsTupleIter i2 b i) where
  mem := by simp
  obj := fun i h st c hc => by
    obtain ⟨hz, hTI, ⟨x, y, hTO⟩, ⟨o1, e1, _, d1⟩, ⟨o2, e2, _, d2⟩⟩ := st
    have e' : c = z ∨ c = TI ∨ c = TO ∨ c = i1 ∨ c = i2 := by simpa using hc
    rcases e' with q | q | q | q | q
    · rw [q]; exact ⟨_, hz, fun v q => nomatch q⟩
    · rw [q]; exact ⟨_, hTI, fun v q => nomatch q⟩
    · rw [q]; exact ⟨_, hTO, fun v q => nomatch q⟩
    · rw [q]; exact ⟨o1, e1, fun v q => by rw [d1] at q; cases q⟩
    · rw [q]; exact ⟨o2, e2, fun v q => by rw [d2] at q; cases q⟩
  keep := fun i h h' st k => by
    obtain ⟨hz, hTI, ⟨x, y, hTO⟩, h1, h2⟩ := st
    exact ⟨k z (by simp) _ hz, k TI (by simp) _ hTI, ⟨x, y, k TO (by simp) _ hTO⟩, h1.at fun o q => k i1 (by simp) o q, h2.at fun o q => k i2 (by simp) o q⟩
  item := by
    intro X hP hw hK hc i pins s σ H E I hf st hg
    subst hP hw hK
    obtain ⟨hz, hTI, ⟨x0, y0, hTO⟩, h1, h2⟩ := st
    obtain ⟨xs, ys, x, y, hqx, hqy, hx, hy⟩ := hg
    obtain ⟨its, rv, p, _⟩ := I.list hqx
    obtain ⟨its2, rv2, p2, _⟩ := I.tuple hqy
    obtain ⟨u, hu, ru⟩ := rv.get hx
    obtain ⟨u2, hu2, ru2⟩ := rv2.get hy
    have hzl : z < s.heap.objs.size := Heap.lt_size hz
    have i1lt : i1 < s.heap.objs.size := by obtain ⟨_, e1, _⟩ := h1; exact Heap.lt_size e1
    have i2lt : i2 < s.heap.objs.size := by obtain ⟨_, e2, _⟩ := h2; exact Heap.lt_size e2
    refine zipG_pyNext (S1 := [i1, a]) (S2 := [i2, b]) hz hTI hTO (gives_list (l := a) (k := i) (xs := its.toArray) (v := u) (by simpa using hu)) (gives_tuple (t := b) (k := i) (xs := its2.toArray) (v := u2) (by simpa using hu2)) ⟨h1, p.isList⟩ ⟨h2, p2⟩
      dep_listIt dep_tupIt dep_listIt' dep_tupIt' (by simp [D.i1z.symm, D.l1z.symm]) (by simp [D.i2z.symm, D.l2z.symm]) (by simp [D.TOi1, D.l1TO.symm]) (by simp [D.TOi2, D.l2TO.symm]) (by simp [D.i12, D.l2i1.symm]) (by simp [D.i12.symm, D.l1i2.symm]) D.TOz D.TOi1 D.TOi2 D.i1z D.i2z fun h' z' TO' h1' h2' hT hsz hk => ?_
    refine ⟨_, rfl, wpAny_letOwnedTupleGo_zip (s := { s with heap := h' }) z' fun h'' z'' sb => ?_⟩
    have hT2 : h''.get? s.heap.objs.size = some { cls := .type "tuple", data := .seq #[u, u2] } := (sb.2 _ (Nat.ne_of_gt hzl)).trans hT
    have new : ObjOk X.prog X.w (upd H s.heap.objs.size (.tup [x, y])) h'' s.heap.objs.size (.tup [x, y]) :=
      ⟨by show 2 ≤ sizeLine; decide, [u, u2], .cons ru (.cons ru2 .nil), ⟨_, hT2, rfl, ⟨_, rfl⟩, rfl⟩⟩
    have I1 : Inv X pins σ (upd H s.heap.objs.size (.tup [x, y])) { s with heap := h'' } :=
      I.turnedNew (t' := s.toks) (ch := [z, TI, TO, i1, i2]) (fun c o hb q => (sb.2 c (fun q' => hb (by simp [q']))).trans (hk c o (fun q' => hb (by simp [q'])) (fun q' => hb (by simp [q'])) (fun q' => hb (by simp [q'])) (fun q' => hb (by simp [q'])) q)) hf (Nat.le_refl _) new
    refine ⟨.ref s.heap.objs.size, _, I1, rfl, ⟨_, x, y, rfl, I.hok.fresh (Nat.le_refl _), rfl, fun l hl => by rw [I.list_inj hl hqx]; exact hx, fun l hl => by rw [I.tuple_inj hl hqy]; exact hy⟩, ⟨z'', ?_, ⟨u, u2, ?_⟩, ?_, ?_⟩, fun c hcm => ?_⟩
    · exact (sb.2 _ D.TIz).trans (hk _ _ D.TIz D.TITO D.TIi1 D.TIi2 hTI)
    · exact (sb.2 _ D.TOz).trans TO'
    · exact h1'.at fun o q => (sb.2 _ D.i1z).trans q
    · exact h2'.at fun o q => (sb.2 _ D.i2z).trans q
    · have hlt : c < s.heap.objs.size := by
        have e' : c = z ∨ c = TI ∨ c = TO ∨ c = i1 ∨ c = i2 := by simpa using hcm
        rcases e' with q | q | q | q | q
        · rw [q]; exact hzl
        · rw [q]; exact Heap.lt_size hTI
        · rw [q]; exact Heap.lt_size hTO
        · rw [q]; exact i1lt
        · rw [q]; exact i2lt
      rw [upd_ne (Nat.ne_of_lt hlt)]
      exact (hf c hcm).1
  done := by
    intro X hP hw hK hc i pins s σ H E I hf st hg
    subst hP hw hK
    obtain ⟨hz, hTI, ⟨x0, y0, hTO⟩, h1, h2⟩ := st
    obtain ⟨xs, hqx, hend⟩ := hg
    obtain ⟨its, rv, p, _⟩ := I.list hqx
    have l1 := rv.length
    exact zipG_pyEnd (S1 := [i1, a]) (I.ok.hd hc) hz hTI hTO (stops_list (l := a) (k := i) (xs := its.toArray) (by simp; omega)) ⟨h1, p.isList⟩ dep_listIt (by simp [D.i1z.symm, D.l1z.symm]) D.i1z fun h' hk => ⟨rfl, I.turnedL (t' := s.toks) (ch := [z, TI, TO, i1, i2]) (fun c o hb q =>
      hk c o (fun q' => hb (by simp [q'])) (fun q' => hb (by simp [q'])) q) hf⟩
  self := fun A i s Q E st h => wpAny_pyIter_zip st.1 h
end L2

namespace L2
open PySem PySem.Spec PyProof.Rows Pre
/-- the records of a new zip of a list and a tuple, one behind another -/
def ztH (h : Heap) (la lb : Addr) : Heap :=
  ((((h.push { cls := .type "list_iterator", data := .fields #[.ref la, .int 0 0] }).push { cls := .type "tuple_iterator", data := .fields #[.ref lb, .int 0 0] }).push { cls := .type "tuple", data := .seq #[.ref h.objs.size, .ref (h.objs.size + 1)] }).push { cls := .type "tuple", data := .seq #[.none, .none] }).push { cls := .type "zip", data := .fields #[.none, .bool false, .bool false, .ref (h.objs.size + 2), .ref (h.objs.size + 3)] }
theorem zt_new (la lb : Addr) (xs ys : Array Value) : Meets (Builtin.«zip.__new__» ⟨[.type "zip", .ref la, .ref lb], []⟩) (fun _ R s => s.heap.IsList la xs ∧ s.heap.IsTuple lb ys ∧ R (.ok (.ret (.ref (s.heap.objs.size + 4)))) { s with heap := ztH s.heap la lb }) :=
  .of_wp fun prog w A R s h => by
    obtain ⟨hp, g, d, tk, os⟩ := s
    obtain ⟨m1, m2, h⟩ := h
    have su := sub_zip
    have k1 : Heap.IsList (Shared.heap ⟨hp, g, d, tk, os⟩) la xs := m1
    have k2 : Heap.IsTuple (Shared.heap ⟨hp.push { cls := .type "list_iterator", data := .fields #[.ref la, .int 0 0] }, g, d, tk, os⟩) lb ys := Heap.IsTuple.push m2 _
    wp_walk using wpAny_pyIter_list k1, wpAny_pyIter_tuple k2
    exact ⟨_, rfl, by simpa [ztH, Heap.size_push, Nat.add_assoc, Builtin.SmallTypes.ownedTupleFields] using h⟩
section
variable {prog : Program} {w : World} {A : Around} {E : Value → Shared → Prop} {s : Shared}
theorem call_zipT {la lb : Addr} {xs ys : Array Value} {Q : Value → Shared → Prop} (m1 : s.heap.IsList la xs) (m2 : s.heap.IsTuple lb ys)
    (h : ∀ h', IsZip h' (s.heap.objs.size + 4) (s.heap.objs.size + 2) (s.heap.objs.size + 3) .none → IsPair h' (s.heap.objs.size + 2) (.ref s.heap.objs.size) (.ref (s.heap.objs.size + 1)) → IsPair h' (s.heap.objs.size + 3) .none .none →
      h'.IsListIter s.heap.objs.size la 0 → h'.IsTupleIter (s.heap.objs.size + 1) lb 0 → (∀ c o, s.heap.get? c = some o → h'.get? c = some o) → Q (.ref (s.heap.objs.size + 4)) { s with heap := h' }) :
    wpAny (model prog w) A (call (.type "zip") [.ref la, .ref lb]) Q E s := by
  refine callType_new F.called_zip (by decide) (F.typeCall_zip_2 _ _) (F.newCall_zip_2 _ _) (fun obj => F.args_object_init_3 obj _ _) F.entry_zip_new (zt_new la lb xs ys) ⟨m1, m2, ?_⟩
  have at_ : ∀ (h0 : Heap) (o : Obj) (n : Nat), h0.objs.size = n → o.isFreed = false → (h0.push o).get? n = some o := fun h0 o n e f => by subst e; exact Heap.get?_push_size _ f
  have y4 : (ztH s.heap la lb).get? (s.heap.objs.size + 4) = some { cls := .type "zip", data := .fields #[.none, .bool false, .bool false, .ref (s.heap.objs.size + 2), .ref (s.heap.objs.size + 3)] } := at_ _ _ _ (by simp only [Heap.size_push]) rfl
  have y3 : (ztH s.heap la lb).get? (s.heap.objs.size + 3) = some { cls := .type "tuple", data := .seq #[.none, .none] } := Heap.get?_push_of_some _ (at_ _ _ _ (by simp only [Heap.size_push]) rfl)
  have y2 : (ztH s.heap la lb).get? (s.heap.objs.size + 2) = some { cls := .type "tuple", data := .seq #[.ref s.heap.objs.size, .ref (s.heap.objs.size + 1)] } := Heap.get?_push_of_some _ (Heap.get?_push_of_some _ (at_ _ _ _ (by simp only [Heap.size_push]) rfl))
  have y1 : (ztH s.heap la lb).get? (s.heap.objs.size + 1) = some { cls := .type "tuple_iterator", data := .fields #[.ref lb, .int 0 0] } := Heap.get?_push_of_some _ (Heap.get?_push_of_some _ (Heap.get?_push_of_some _ (at_ _ _ _ (by simp only [Heap.size_push]) rfl)))
  have y0 : (ztH s.heap la lb).get? s.heap.objs.size = some { cls := .type "list_iterator", data := .fields #[.ref la, .int 0 0] } := Heap.get?_push_of_some _ (Heap.get?_push_of_some _ (Heap.get?_push_of_some _ (Heap.get?_push_of_some _ (at_ _ _ _ rfl rfl))))
  exact ⟨⟨_, y4, rfl⟩, h _ y4 y2 y3 ⟨_, y0, rfl, rfl⟩ ⟨_, y1, rfl, rfl⟩ fun c o q => Heap.get?_push_of_some _ (Heap.get?_push_of_some _ (Heap.get?_push_of_some _ (Heap.get?_push_of_some _ (Heap.get?_push_of_some _ q))))⟩
end
def iZipT (K : PySem.W.Frag) (ta : TA) : TI := fun σ H R => ta σ H fun vs H1 => ∃ a b xs ys, vs = [.ref a, .ref b] ∧ SqL K H1 a xs ∧ SqT K H1 b ys ∧ R (Itzt K a b) H1
theorem pi_zipT {X : Cx} {e e2 : Expr} {ta : TA} {p pos tpos : Pos} {elts : List Expr} {kk : Nat} (hg : Gl X "zip") (hm : X.mg "zip" = none) (ha : PA X [e, e2] ta)
    (hs : starEach [e, e2] X.env = (false, eval e X.env) :: starEach [e2] X.env := by rfl) (hpl : (backTo pos (starEach [e2] X.env)).any (·.1) = false := by rfl) :
    PI X (.Tuple elts kk tpos) (.Call (.Name "zip" p) [e, e2] [] pos) (iZipT X.K ta) := by
  intro pins s σ H R I h
  refine Call_ (ld_blt I hg hm boot_zip5 (PyProof.Rows.callWith_type1 (thn (ha pos pins s σ H _ I h) fun us s1 ⟨vs, H1, I1, r1, q1⟩ => ?_) hs hpl))
  obtain ⟨a, b, xs, ys, ex, hqx, hqy, q⟩ := q1
  subst ex
  cases r1 with
  | cons r rr =>
    cases rr with
    | cons r' rr =>
      cases rr
      cases r
      cases r'
      obtain ⟨its, rv, p1, _⟩ := I1.list hqx
      obtain ⟨its2, rv2, p2, _⟩ := I1.tuple hqy
      have la : a < s1.heap.objs.size := p1.lt
      have lb : b < s1.heap.objs.size := by obtain ⟨_, e, _⟩ := p2; exact Heap.lt_size e
      refine call_zipT p1.isList p2 fun h' hz hTI hTO h1 h2 hk => wpAny_pyIter_zip hz ?_
      have I2 : Inv X pins σ H1 { s1 with heap := h' } := I1.kept (t' := s1.toks) hk
      refine ⟨s1.heap.objs.size + 4, [s1.heap.objs.size + 4, s1.heap.objs.size + 2, s1.heap.objs.size + 3, s1.heap.objs.size, s1.heap.objs.size + 1], _, _, H1, rfl, I2, turn_zipT (PySem.W.ktu_apart s1.heap.objs.size a b la lb), ⟨hz, hTI, ⟨_, _, hTO⟩, h1, h2⟩, fun c hcm => ?_, q⟩
      have e' : c = s1.heap.objs.size + 4 ∨ c = s1.heap.objs.size + 2 ∨ c = s1.heap.objs.size + 3 ∨ c = s1.heap.objs.size ∨ c = s1.heap.objs.size + 1 := by simpa using hcm
      have hle : s1.heap.objs.size ≤ c := by
        rcases e' with z | z | z | z | z
        · rw [z]; exact Nat.le_add_right _ _
        · rw [z]; exact Nat.le_add_right _ _
        · rw [z]; exact Nat.le_add_right _ _
        · rw [z]; exact Nat.le_refl _
        · rw [z]; exact Nat.le_add_right _ _
      exact I1.fpOk hle (I1.hok.fresh hle)
end L2
namespace Pre
open PySem PySem.Spec PyProof.Rows L2
theorem lc_zipT {K : PySem.W.Frag} {a b : Addr} {xs ys : List V} {g : TG} {tt : TT} {te : TE} {vs : List Nat} {σ : L2.St} {H1 : Hp} {D : Addr} {Qd : Hp → Prop} (Pv : Nat → Hp → Prop) (el : xs.length = ys.length) (h0 : Pv 0 (upd H1 D (.lst []))) (hl : ∀ i H, Pv i H → SqL K H a xs ∧ SqT K H b ys)
    (hs : ∀ i x y T H, xs[i]? = some x → ys[i]? = some y → H T = none → Pv i H → g (.ref T) (wipe σ vs) (upd H T (.tup [x, y])) fun σ2 H2 => wipe σ2 vs = wipe σ vs ∧ tt σ2 H2 fun b H3 =>
      if b = true then te σ2 H3 fun y H4 => ∃ acc, H4 D = some (.lst acc) ∧ acc.length < sizeLine ∧ Pv (i + 1) (upd H4 D (.lst (acc ++ [y]))) else Pv (i + 1) H3) (hd : ∀ H, Pv xs.length H → Qd H) :
    ∃ W : Nat → Nat → Hp → Prop, (∃ m, W 0 m (upd H1 D (.lst []))) ∧ ∀ i m H, W i m H →
      ((Itzt K a b).stop i H ∧ Qd H) ∨ ((Itzt K a b).go i H ∧ ∃ Nx : Hp → Prop, (∀ H', Nx H' → ∃ m', m' < m ∧ W (i + 1) m' H') ∧ ∀ x H', (Itzt K a b).yld i H x H' → g x (wipe σ vs) H' fun σ2 H2 => wipe σ2 vs = wipe σ vs ∧ tt σ2 H2 fun b H3 =>
        if b = true then te σ2 H3 fun y H4 => ∃ acc, H4 D = some (.lst acc) ∧ acc.length < sizeLine ∧ Nx (upd H4 D (.lst (acc ++ [y]))) else Nx H3) := by
  refine ⟨fun i m H => m = xs.length - i ∧ i ≤ xs.length ∧ Pv i H, ⟨xs.length, by simp, Nat.zero_le _, h0⟩, ?_⟩
  rintro i m H ⟨rfl, hi, p⟩
  have q := hl i H p
  by_cases hlt : i < xs.length
  · refine .inr ⟨⟨xs, ys, xs[i], ys[i], q.1, q.2, by simp [hlt], by simp [show i < ys.length by omega]⟩, Pv (i + 1), fun H' p' => ⟨xs.length - (i + 1), by omega, rfl, hlt, p'⟩, fun x H' y => ?_⟩
    obtain ⟨T, x', y', rfl, hT, rfl, z1, z2⟩ := y
    exact hs i x' y' T _ (z1 xs q.1) (z2 ys q.2) hT p
  · have e : i = xs.length := by omega
    subst e
    exact .inl ⟨⟨xs, q.1, Nat.le_refl _⟩, hd H p⟩
end Pre

namespace L2
open PySem PySem.Spec PyProof.Rows Pre
section
variable {prog : Program} {w : World} {A : Around} {E : Value → Shared → Prop} {s : Shared}
theorem stops_tuple {it t : Addr} {k : Nat} {xs : Array Value} (hv : xs[k]? = none) : Stops it (fun h => h.IsTupleIter it t k ∧ h.IsTuple t xs) := by
  intro prog w A E s Q hh p q
  obtain ⟨⟨o, ho, hc, hd⟩, ⟨ot, hot, _, nt, hdt⟩⟩ := p
  have ty : s.TypeIs (.ref it) "tuple_iterator" := ⟨o, ho, hc⟩
  unfold Builtin.SmallTypes.nextOf
  refine wpAny_bind (wpAny_callSpecial?_slot (name := Str.ofString "__next__") ty F.slot_tuple_iterator_next (wpAny_call_entry F.slot_tuple_iterator_next ty F.entry_tuple_iterator_next ?_ (F.args_tuple_iterator_next_1 _)))
  wp_walk using (wpAny_field ho hd (x := .ref t) rfl), (wpAny_field ho hd (x := .int k 0) rfl), (wpAny_seqItems hot hdt)
  rw [Int.toNat_natCast, hv]
  wp_walk using (wpAny_setField ho hd (by simp))
  have h1 : A.in1.handled = none := hh
  unfold raiseNew
  refine wpAny_bind (wpAny_handled (by rw [h1]; exact wpAny_bind (wpAny_pure (wpAny_throw (q _ _ (((Heap.SameBut.update ..).extBut.push _).push _) ⟨_, Heap.get?_push_size _ rfl, rfl⟩)))))
end
end L2

namespace L2
open PySem PySem.Spec PyProof.Rows Pre
open AutoSeq1 (wpAny_loadPart')
theorem draws_tuple {prog : Program} {w : World} {A : Around} (hh : A.handled = none) {it t : Addr} (hne : t ≠ it) (xs : Array Value) :
    Draws prog w A it [it, t] xs.size (fun i v => xs[i]? = some v) (fun i h => h.IsTupleIter it t i ∧ h.IsTuple t xs) where
  live := fun _ _ p => let ⟨o, e, _⟩ := p.1; ⟨o, e⟩
  frame := fun _ _ _ p k => dep_tupIt _ _ k p
  item := fun i s Q E hi p q => gives_tuple (xs := xs) (v := xs[i]) (by simp [hi]) prog w A E s Q p fun h' r sb => q _ h' s.toks (by simp [hi]) ⟨r, let ⟨o, e, z⟩ := p.2; ⟨o, sb.extBut _ _ hne e, z⟩⟩ sb
  done := fun s Q E p q => stops_tuple (xs := xs) (by simp) prog w A E s Q hh p q
/-- the records of a new enumerate of a tuple -/
def etH (h : Heap) (t : Addr) : Heap :=
  (h.push { cls := .type "tuple_iterator", data := .fields #[.ref t, .int 0 0] }).push { cls := .type "enumerate", data := .fields #[.none, .bool false, .ref h.objs.size, rawInt 0, .none, .none] }
theorem et_new (t : Addr) (xs : Array Value) (o : Obj) : Meets (Builtin.«enumerate.__new__» ⟨[.type "enumerate", .ref t], []⟩) (fun _ R s => s.heap.get? t = some o ∧ s.heap.IsTuple t xs ∧ R (.ok (.ret (.ref (s.heap.objs.size + 1)))) { s with heap := etH s.heap t }) :=
  .of_wp fun prog w A R s h => by
    obtain ⟨hp, g, d, tk, os⟩ := s
    obtain ⟨hl, m1, h⟩ := h
    have su := sub_enumerate
    have k1 : Heap.IsTuple (Shared.heap ⟨hp, g, d, tk, os⟩) t xs := m1
    wp_walk using wpAny_loadPart' hl
    refine wpAny_stack_any fun st => wpAny_pure ?_
    split
    · rename_i c _ _ _ _ _
      cases (c == Value.type "enumerate") <;>
      · wp_walk using wpAny_loadPart' hl, wpAny_pyIter_tuple k1
        exact ⟨_, rfl, by simpa [etH, Heap.size_push, Builtin.SmallTypes.ownedTupleFields] using h⟩
    · wp_walk using wpAny_loadPart' hl, wpAny_pyIter_tuple k1
      exact ⟨_, rfl, by simpa [etH, Heap.size_push, Builtin.SmallTypes.ownedTupleFields] using h⟩
section
variable {prog : Program} {w : World} {A : Around} {E : Value → Shared → Prop} {s : Shared}
theorem call_enumT {t : Addr} {xs : Array Value} {Q : Value → Shared → Prop} (m : s.heap.IsTuple t xs)
    (h : ∀ h', IsEnum h' (s.heap.objs.size + 1) s.heap.objs.size 0 .none → h'.IsTupleIter s.heap.objs.size t 0 → (∀ c o, s.heap.get? c = some o → h'.get? c = some o) → Q (.ref (s.heap.objs.size + 1)) { s with heap := h' }) :
    wpAny (model prog w) A (call (.type "enumerate") [.ref t]) Q E s := by
  obtain ⟨o, ho, _⟩ := id m
  refine callType_new F.called_enumerate (by decide) (F.typeCall_enumerate_1 _) (F.newCall_enumerate_1 _) (fun obj => F.args_object_init_2 obj _) F.entry_enumerate_new (et_new t xs o) ⟨ho, m, ?_⟩
  have at_ : ∀ (h0 : Heap) (o : Obj) (n : Nat), h0.objs.size = n → o.isFreed = false → (h0.push o).get? n = some o := fun h0 o n e f => by subst e; exact Heap.get?_push_size _ f
  have y1 : IsEnum (etH s.heap t) (s.heap.objs.size + 1) s.heap.objs.size 0 .none := at_ _ _ _ (by simp only [Heap.size_push]) rfl
  have y0 : (etH s.heap t).get? s.heap.objs.size = some { cls := .type "tuple_iterator", data := .fields #[.ref t, .int 0 0] } := Heap.get?_push_of_some _ (at_ _ _ _ rfl rfl)
  exact ⟨⟨_, y1, rfl⟩, h _ y1 ⟨_, y0, rfl, rfl⟩ fun c o q => Heap.get?_push_of_some _ (Heap.get?_push_of_some _ q)⟩
end
/-- the tuple at a, each item in a new pair with its number -/
def ItE (K : PySem.W.Frag) (a : Addr) : It :=
  ⟨fun i H => ∃ (xs : List V) (x : V), SqT K H a xs ∧ xs[i]? = some x, fun i H v H' => ∃ T x, v = .ref T ∧ H T = none ∧ H' = upd H T (.tup [.int (i : Nat), x]) ∧ ∀ xs, SqT K H a xs → xs[i]? = some x, fun i H => ∃ xs : List V, SqT K H a xs ∧ xs.length = i⟩
theorem turn_enumT {P : Program} {w : World} {K : PySem.W.Frag} {elts : List Expr} {kk : Nat} {tpos : Pos} (a e it : Addr) :
    Turn P w K (.Tuple elts kk tpos) (ItE K a) [e, it] e (fun i h => (∃ old, IsEnum h e it ((i : Nat) : Int) old) ∧ h.IsTupleIter it a i ∧ e ≠ it) where
  mem := by simp
  obj := fun i h st b hb => by
    obtain ⟨⟨old, he⟩, ⟨o, ho, hc, hd⟩, _⟩ := st
    have e' : b = e ∨ b = it := by simpa using hb
    rcases e' with rfl | rfl
    · exact ⟨_, he, fun v q => nomatch q⟩
    · exact ⟨o, ho, fun v q => by rw [hd] at q; cases q⟩
  keep := fun i h h' st k => let ⟨⟨old, he⟩, hi, hne⟩ := st; ⟨⟨old, k e (by simp) _ he⟩, hi.at fun o q => k it (by simp) o q, hne⟩
  item := by
    intro X hP hw hK hc i pins s σ H E I hf st hg
    subst hP hw hK
    obtain ⟨⟨old, he⟩, hit, hne⟩ := st
    obtain ⟨xs, x, hq, hx⟩ := hg
    obtain ⟨its, rv, p, hz⟩ := I.tuple hq
    obtain ⟨u, hu, ru⟩ := rv.get hx
    have hel : e < s.heap.objs.size := Heap.lt_size he
    have hil : it < s.heap.objs.size := by obtain ⟨_, q, _⟩ := hit; exact Heap.lt_size q
    have nae : a ≠ e := fun z => by
      obtain ⟨o, ho, hc, _⟩ := p
      rw [z, he] at ho; cases ho; simp at hc
    have nai : a ≠ it := fun z => by
      obtain ⟨o, ho, hc, _⟩ := p; obtain ⟨o', ho', hc', _⟩ := hit
      rw [z, ho'] at ho; cases ho; rw [hc'] at hc; simp at hc
    have hlt : i < its.toArray.size := by
      have := (List.getElem?_eq_some_iff.mp hu).1
      simpa using this
    refine wpAny_pyNext_enum_itemD (draws_tuple (A := X.A.in1) (I.ok.hd hc) nai its.toArray) he ⟨hit, p⟩ hlt hne (by simp [hne, nae.symm]) fun y h' tk hy ho hit' hT hsz hk => ?_
    obtain rfl : u = y := by
      have e1 : its[i]? = some y := by simpa using hy
      rw [hu] at e1; exact Option.some.inj e1
    refine ⟨_, rfl, wpAny_letOwnedTupleGo_enum (s := { s with heap := h', toks := tk + 1 }) ho fun h'' he' sb => ?_⟩
    have hT2 : h''.get? s.heap.objs.size = some { cls := .type "tuple", data := .seq #[.int i tk, u] } := (sb.2 _ (Nat.ne_of_gt hel)).trans hT
    have new : ObjOk X.prog X.w (upd H s.heap.objs.size (.tup [.int (i : Nat), x])) h'' s.heap.objs.size (.tup [.int (i : Nat), x]) :=
      ⟨by show 2 ≤ sizeLine; decide, [.int i tk, u], .cons ⟨_, rfl⟩ (.cons ru .nil), ⟨_, hT2, rfl, ⟨_, rfl⟩, rfl⟩⟩
    have I1 : Inv X pins σ (upd H s.heap.objs.size (.tup [.int (i : Nat), x])) { s with heap := h'', toks := tk + 1 } :=
      I.turnedNew (ch := [e, it]) (fun b ob hb q => (sb.2 b (fun z => hb (by simp [z]))).trans (hk b ob (fun z => hb (by simp [z])) (fun z => hb (by simp [z])) q)) hf (Nat.le_refl _) new
    refine ⟨.ref s.heap.objs.size, _, I1, rfl, ⟨_, x, rfl, I.hok.fresh (Nat.le_refl _), rfl, fun ys hy => by rw [I.tuple_inj hy hq]; exact hx⟩, ⟨⟨u, ?_⟩, hit'.1.at fun o q => (sb.2 it (Ne.symm hne)).trans q, hne⟩, fun b hb => ?_⟩
    · have e1 : ((i + 1 : Nat) : Int) = (i : Int) + 1 := by omega
      rw [e1]; exact he'
    · have hb' : b < s.heap.objs.size := by
        have e' : b = e ∨ b = it := by simpa using hb
        rcases e' with rfl | rfl
        · exact hel
        · exact hil
      rw [upd_ne (Nat.ne_of_lt hb')]
      exact (hf b hb).1
  done := by
    intro X hP hw hK hc i pins s σ H E I hf st hg
    subst hP hw hK
    obtain ⟨⟨old, he⟩, hit, hne⟩ := st
    obtain ⟨xs, hq, hx⟩ := hg
    obtain ⟨its, rv, p, hz⟩ := I.tuple hq
    obtain ⟨f0, f1, f2, f3, f4, f5⟩ := hf it (by simp)
    have hl := rv.length
    have nai : a ≠ it := fun z => by
      obtain ⟨o, ho, hc, _⟩ := p; obtain ⟨o', ho', hc', _⟩ := hit
      rw [z, ho'] at ho; cases ho; rw [hc'] at hc; simp at hc
    obtain rfl : its.toArray.size = i := by simp; omega
    exact wpAny_pyNext_enum_endD (draws_tuple (A := X.A.in1) (I.ok.hd hc) nai its.toArray) he ⟨hit, p⟩ fun h' eb => ⟨rfl, I.turned (t' := s.toks) (fun b o hb q => eb b o hb q) f0 f1 f3 f4 f5⟩
  self := fun A i s Q E st h => let ⟨⟨_, he⟩, _⟩ := st; wpAny_pyIter_enum he h
def iEnumT (K : PySem.W.Frag) (ta : TA) : TI := fun σ H R => ta σ H fun vs H1 => ∃ a xs, vs = [.ref a] ∧ SqT K H1 a xs ∧ R (ItE K a) H1
theorem pi_enumT {X : Cx} {e : Expr} {ta : TA} {p pos tpos : Pos} {elts : List Expr} {kk : Nat} (hg : Gl X "enumerate") (hm : X.mg "enumerate" = none) (ha : PA X [e] ta) (hs : starEach [e] X.env = [(false, eval e X.env)] := by rfl) :
    PI X (.Tuple elts kk tpos) (.Call (.Name "enumerate" p) [e] [] pos) (iEnumT X.K ta) := by
  intro pins s σ H R I h
  refine Call_ (ld_blt I hg hm boot_enumerate (PyProof.Rows.callWith_type1 (thn (ha pos pins s σ H _ I h) fun us s1 ⟨vs, H1, I1, r1, q1⟩ => ?_) hs rfl))
  obtain ⟨a, xs, ex, hq, q⟩ := q1
  subst ex
  cases r1 with
  | cons r rr =>
    cases rr
    cases r
    obtain ⟨its, rv, p', hz⟩ := I1.tuple hq
    refine call_enumT p' fun h' he hit hk => wpAny_pyIter_enum he ?_
    have I2 : Inv X pins σ H1 { s1 with heap := h' } := I1.kept (t' := s1.toks) hk
    refine ⟨s1.heap.objs.size + 1, [s1.heap.objs.size + 1, s1.heap.objs.size], _, _, H1, rfl, I2, turn_enumT a (s1.heap.objs.size + 1) s1.heap.objs.size, ⟨⟨.none, he⟩, hit, Nat.succ_ne_self _⟩, fun b hb => ?_, q⟩
    have e' : b = s1.heap.objs.size + 1 ∨ b = s1.heap.objs.size := by simpa using hb
    have hle : s1.heap.objs.size ≤ b := by
      rcases e' with rfl | rfl
      · exact Nat.le_add_right _ _
      · exact Nat.le_refl _
    exact I1.fpOk hle (I1.hok.fresh hle)
end L2

namespace Pre
open PySem PySem.Spec PyProof.Rows L2 R9
theorem for_enumT {K : PySem.W.Frag} {a : Addr} {xs : List V} {g : TG} {tb : TS} {D : Ends} {σ : L2.St} {H : Hp} (Pv : Nat → L2.St → Hp → Prop) (h0 : Pv 0 σ H) (hl : ∀ i σ H, i ≤ xs.length → Pv i σ H → SqT K H a xs)
    (hs : ∀ i x σ H T, xs[i]? = some x → Pv i σ H → H T = none → g (.ref T) σ (upd H T (.tup [.int (i : Nat), x])) fun σ2 H2 => tb { D with nx := Pv (i + 1), ct := Pv (i + 1), bk := D.nx } σ2 H2) (hd : ∀ σ H, Pv xs.length σ H → D.nx σ H) :
    ∃ W : Nat → Nat → L2.St → Hp → Prop, (∃ m, W 0 m σ H) ∧ ∀ i m σ H, W i m σ H →
      ((ItE K a).stop i H ∧ D.nx σ H) ∨ ((ItE K a).go i H ∧ ∃ N : L2.St → Hp → Prop, (∀ σ' H', N σ' H' → ∃ m', m' < m ∧ W (i + 1) m' σ' H') ∧ ∀ x H', (ItE K a).yld i H x H' → g x σ H' fun σ2 H2 => tb { D with nx := N, ct := N, bk := D.nx } σ2 H2) := by
  refine ⟨fun i m σ H => m = xs.length - i ∧ i ≤ xs.length ∧ Pv i σ H, ⟨xs.length, by simp, Nat.zero_le _, h0⟩, ?_⟩
  rintro i m σ H ⟨rfl, hi, p⟩
  have q := hl i σ H hi p
  by_cases hlt : i < xs.length
  · refine .inr ⟨⟨xs, xs[i], q, by simp [hlt]⟩, Pv (i + 1), fun σ' H' p' => ⟨xs.length - (i + 1), by omega, rfl, hlt, p'⟩, fun x H' y => ?_⟩
    obtain ⟨T, x', rfl, hT, rfl, y⟩ := y
    exact hs i x' σ _ T (y xs q) p hT
  · have e : i = xs.length := by omega
    subst e
    exact .inl ⟨⟨xs, q, rfl⟩, hd σ H p⟩
/-! ### powers that a ground keeps, chosen -/
theorem Bds.app {k : Nat} {xs ys : List Int} (h : Bds k xs) (g : Bds k ys) : Bds k (xs ++ ys) := fun x hx => by
  rcases List.mem_append.mp hx with z | z
  · exact h x z
  · exact g x z
theorem Bds.zip {k m j : Nat} {c : Int} (hc : Bd j c) (hm : j + m ≤ k) : ∀ {as bs : List Int}, Bds k as → Bds m bs → Bds (k + 1) (List.zipWith (fun a b => a + c * b) as bs)
  | [], _, _, _ => fun x hx => by simp at hx
  | _ :: _, [], _, _ => fun x hx => by simp at hx
  | a :: as, b :: bs, ha, hb => fun x hx => by
    rw [List.zipWith_cons_cons] at hx
    rcases List.mem_cons.mp hx with rfl | z
    · exact (ha a (List.mem_cons_self ..)).add ((hc.mul (hb b (List.mem_cons_self ..))).mono hm)
    · exact Bds.zip hc hm (fun x hx => ha x (List.mem_cons_of_mem _ hx)) (fun x hx => hb x (List.mem_cons_of_mem _ hx)) x z
theorem map_al {l d : Nat} (ok : GOk l d) {f g : Ser} (h : Al f g) : (gw l d).map f = (gw l d).map g := List.map_congr_left fun w hw => h w (by have := (gw_mem.mp hw).1; have := ok.d5; omega)
end Pre

namespace Pre
open PySem PySem.Spec PyProof.Rows L2 R9
/-! ### a row's word -/
theorem repW_len (u : List Int) (n : Int) : (repW u n).length = n.natAbs * u.length := by
  rw [repW_base, rep_len]
  split
  · rfl
  · rw [back_len]
theorem Br.pos {w b : List Int} (h : Br w b) : 1 ≤ b.length := by
  induction h with
  | one x => exact Nat.le_refl _
  | two h _ _ i1 i2 => rw [brack_len]; omega
end Pre

namespace Pre
open PySem PySem.Spec PyProof.Rows L2 R9
/-! ### products of a word's sums -/
/-! ### sums that are 0 at all turnwords are 0 -/
def vl (w : List Int) : Nat := w.foldl (fun n x => 10 * n + x.toNat) 1
/-! ### each word has a row -/
def AlG (l d : Nat) (f g : Ser) : Prop := ∀ w ∈ gw l d, f w = g w
theorem AlG.refl (l d : Nat) (f : Ser) : AlG l d f f := fun _ _ => rfl
theorem AlG.symm {l d : Nat} {f g : Ser} (h : AlG l d f g) : AlG l d g f := fun w hw => (h w hw).symm
theorem AlG.trans {l d : Nat} {f g k : Ser} (h : AlG l d f g) (j : AlG l d g k) : AlG l d f k := fun w hw => (h w hw).trans (j w hw)
theorem Al.g {l d : Nat} (ok : GOk l d) {f g : Ser} (h : Al f g) : AlG l d f g := fun w hw => h w (by have := (gw_mem.mp hw).1; have := ok.d5; omega)
theorem AlG.conv {l d : Nat} (ok : GOk l d) {f f' g g' : Ser} (h : AlG l d f f') (j : AlG l d g g') : AlG l d (Pre.conv f g) (Pre.conv f' g') := fun w hw =>
  conv_congr (fun k => h _ ((gw_cl ok).tk w hw k)) (fun k => j _ ((gw_cl ok).dr w hw k))
theorem AlG.map {l d : Nat} {f g : Ser} (h : AlG l d f g) : (gw l d).map f = (gw l d).map g := List.map_congr_left h
theorem AlG.of {l d : Nat} {f g : Ser} (h : (gw l d).map f = (gw l d).map g) : AlG l d f g := fun w hw => List.map_inj_left.mp h w hw
theorem AlG.gt {l d : Nat} {f g : Ser} (h : AlG l d f g) : ∀ w ∈ gt l d, f w = g w := fun w hw => h w (List.mem_filter.mp hw).1
end Pre

namespace Pre
open PySem PySem.Spec PyProof.Rows L2 R9
/-! ### how great sums are, by the sizes of their words -/
def WB (c M : Nat) (f : Ser) : Prop := ∀ w : List Int, (f w).natAbs ≤ c * M ^ w.length
theorem WB.mono {c c' M M' : Nat} {f : Ser} (h : WB c M f) (hc : c ≤ c') (hm : M ≤ M') : WB c' M' f := fun w => Nat.le_trans (h w) (Nat.mul_le_mul hc (Nat.pow_le_pow_left hm _))
theorem wb_conv {c' M N : Nat} {g : Ser} (hg : WB c' N g) : ∀ (w : List Int) (c : Nat) (f : Ser), WB c M f → (conv f g w).natAbs ≤ c * c' * (M + N) ^ w.length
  | [], c, f, hf => by
    rw [conv_nil, Int.natAbs_mul]
    have h1 := hf []
    have h2 := hg []
    rw [List.length_nil, Nat.pow_zero, Nat.mul_one] at h1 h2 ⊢
    exact Nat.mul_le_mul h1 h2
  | a :: w, c, f, hf => by
    rw [conv_cons]
    have ih := wb_conv hg w (c * M) (fun v => f (a :: v)) fun v => by
      have := hf (a :: v)
      rw [List.length_cons, Nat.pow_succ] at this
      rw [Nat.mul_assoc, Nat.mul_comm M]; exact this
    have h1 := hf []
    rw [List.length_nil, Nat.pow_zero, Nat.mul_one] at h1
    have h2 := hg (a :: w)
    have h3 : (f [] * g (a :: w)).natAbs ≤ c * (c' * N ^ (w.length + 1)) := by rw [Int.natAbs_mul]; exact Nat.mul_le_mul h1 h2
    have h4 : N ^ w.length ≤ (M + N) ^ w.length := Nat.pow_le_pow_left (Nat.le_add_left _ _) _
    have h5 : c * (c' * N ^ (w.length + 1)) ≤ c * c' * N * (M + N) ^ w.length := by
      rw [Nat.pow_succ]
      calc c * (c' * (N ^ w.length * N)) = c * c' * N * N ^ w.length := by ac_rfl
        _ ≤ _ := Nat.mul_le_mul_left _ h4
    have h6 : c * M * c' * (M + N) ^ w.length + c * c' * N * (M + N) ^ w.length = c * c' * (M + N) ^ (w.length + 1) := by
      rw [Nat.pow_succ]
      calc _ = c * c' * (M + N) ^ w.length * M + c * c' * (M + N) ^ w.length * N := by congr 1 <;> ac_rfl
        _ = c * c' * (M + N) ^ w.length * (M + N) := (Nat.mul_add _ _ _).symm
        _ = _ := by ac_rfl
    have h7 := Int.natAbs_add_le (f [] * g (a :: w)) (conv (fun v => f (a :: v)) g w)
    rw [List.length_cons]
    omega
theorem WB.conv {c c' M N : Nat} {f g : Ser} (hf : WB c M f) (hg : WB c' N g) : WB (c * c') (M + N) (Pre.conv f g) := fun w => wb_conv hg w c f hf
theorem WB.one : WB 1 0 oneF := fun w => by
  unfold oneF
  split
  · rename_i h; rw [h]; decide
  · exact Nat.zero_le _
theorem WB.elt (x : Int) : WB 1 1 (elt x) := fun w => by rw [Nat.one_pow]; exact elt_bd x w
theorem WB.sc : ∀ u : List Int, WB 1 u.length (scF u)
  | [] => WB.one
  | x :: u => by
    rw [scF_cons]
    have := (WB.elt x).conv (WB.sc u)
    rw [List.length_cons, Nat.add_comm]
    exact this
theorem WB.xF {M : Nat} {f : Ser} (h : WB 1 M f) : WB 1 M (xF f) := fun w => by
  unfold Pre.xF
  split
  · exact Nat.zero_le _
  · exact h w
theorem WB.xpow {M : Nat} {f : Ser} (h : WB 1 M f) : ∀ k, WB 1 (k * M) (xpow f k)
  | 0 => by rw [Nat.zero_mul]; exact WB.one
  | k + 1 => by
    have := (WB.xpow h k).conv h.xF
    rw [Nat.succ_mul]; exact this
theorem ch_le (n : Int) : ∀ k, k ≤ 8 → (ch n k).natAbs ≤ (n.natAbs + 7) ^ k
  | 0, _ => by rw [Nat.pow_zero]; exact Nat.le_refl 1
  | k + 1, hk => by
    have ih := ch_le n k (by omega)
    show (ch n k * (n - (k : Int)) / ((k : Int) + 1)).natAbs ≤ _
    refine Nat.le_trans (Int.natAbs_ediv_le_natAbs _ _) ?_
    rw [Int.natAbs_mul, Nat.pow_succ]
    exact Nat.mul_le_mul ih (by omega)
theorem pow7 (N : Nat) : ∀ i, 1 ≤ i → N ^ i + 7 ≤ (N + 7) ^ i
  | 1, _ => by rw [Nat.pow_one, Nat.pow_one]; exact Nat.le_refl _
  | i + 2, _ => by
    have ih := pow7 N (i + 1) (by omega)
    rw [Nat.pow_succ, Nat.pow_succ (n := N + 7)]
    have h1 : (N ^ (i + 1) + 7) * (N + 7) ≤ (N + 7) ^ (i + 1) * (N + 7) := Nat.mul_le_mul_right _ ih
    have h2 : (N ^ (i + 1) + 7) * (N + 7) = N ^ (i + 1) * N + N ^ (i + 1) * 7 + (7 * N + 49) := by rw [Nat.add_mul, Nat.mul_add, Nat.mul_add]
    omega
theorem sumTo_le {f : Ser} {n : Int} {w : List Int} {B : Nat} (h : ∀ k, k < 8 → (ch n k * xpow f k w).natAbs ≤ B) : ∀ j, j ≤ 8 → (sumTo f n j w).natAbs ≤ j * B
  | 0, _ => by rw [Nat.zero_mul]; exact Nat.le_refl 0
  | j + 1, hj => by
    have ih := sumTo_le h j (by omega)
    have h1 := h j (by omega)
    have h2 := Int.natAbs_add_le (sumTo f n j w) (ch n j * xpow f j w)
    show (sumTo f n j w + ch n j * xpow f j w).natAbs ≤ _
    rw [Nat.succ_mul]
    omega
theorem WB.pw7 {M N i : Nat} {f : Ser} {n : Int} (hi : 1 ≤ i) (lo : Lo i f) (h : WB 1 M f) (hn : n.natAbs ≤ N ^ i) : WB 1 (56 * M * (N + 7)) (pw7 f n) := fun w => by
  by_cases c : w = []
  · subst c
    rw [pw7_nil]; exact Nat.le_of_eq (by simp)
  have lw : 1 ≤ w.length := List.length_pos_iff.mpr c
  have t : ∀ k, k < 8 → (ch n k * Pre.xpow f k w).natAbs ≤ ((N + 7) * (7 * M)) ^ w.length := fun k hk => by
    by_cases z : w.length < k * i
    · rw [xpow_lo lo k w z, Int.mul_zero]; exact Nat.zero_le _
    · rw [Int.natAbs_mul, Nat.mul_pow]
      refine Nat.mul_le_mul ?_ ?_
      · calc (ch n k).natAbs ≤ (n.natAbs + 7) ^ k := ch_le n k (by omega)
          _ ≤ ((N + 7) ^ i) ^ k := Nat.pow_le_pow_left (Nat.le_trans (Nat.add_le_add_right hn 7) (pow7 N i hi)) k
          _ = (N + 7) ^ (i * k) := (Nat.pow_mul ..).symm
          _ ≤ (N + 7) ^ w.length := Nat.pow_le_pow_right (by omega) (by rw [Nat.mul_comm]; omega)
      · have := h.xpow k w
        rw [Nat.one_mul] at this
        exact Nat.le_trans this (Nat.pow_le_pow_left (Nat.mul_le_mul_right _ (by omega)) _)
  have s := sumTo_le t 8 (Nat.le_refl _)
  show (sumTo f n 8 w).natAbs ≤ _
  refine Nat.le_trans s ?_
  rw [Nat.one_mul, show 56 * M * (N + 7) = 8 * ((N + 7) * (7 * M)) by rw [show 56 = 8 * 7 from rfl]; ac_rfl, Nat.mul_pow 8]
  refine Nat.mul_le_mul_right _ ?_
  calc 8 = 8 ^ 1 := rfl
    _ ≤ 8 ^ w.length := Nat.pow_le_pow_right (by decide) lw
theorem two7 {b : Nat} (hb : 3 ≤ b) : 2 ^ b + 7 ≤ 2 ^ (b + 1) := by
  have : 2 ^ 3 ≤ 2 ^ b := Nat.pow_le_pow_right (by decide) hb
  rw [Nat.pow_succ]
  omega
theorem WB.bds {l d p b : Nat} (ok : GOk l d) {f : Ser} (h : WB (2 ^ p) (2 ^ b) f) : Bds (p + 5 * b) ((gw l d).map f) := fun x hx => by
  obtain ⟨w, hw, rfl⟩ := List.mem_map.mp hx
  have l5 : w.length ≤ 5 := Nat.le_trans (gw_mem.mp hw).1 ok.d5
  refine Nat.le_trans (h w) ?_
  rw [← Nat.pow_mul, ← Nat.pow_add]
  exact Nat.pow_le_pow_right (by decide) (Nat.add_le_add_left (by rw [Nat.mul_comm 5]; exact Nat.mul_le_mul_left _ l5) _)
theorem WB.bds1 {l d b : Nat} (ok : GOk l d) {f : Ser} (h : WB 1 (2 ^ b) f) : Bds (5 * b) ((gw l d).map f) := by
  have := WB.bds (p := 0) ok h
  rwa [Nat.zero_add] at this
/-! ### how great a row is -/
def RB (b : Nat) (r : List (List Int × Int)) : Prop := ∀ p ∈ r, p.2.natAbs ≤ 2 ^ (b * p.1.length)
theorem RB.mono {b c : Nat} {r : List (List Int × Int)} (h : RB b r) (k : b ≤ c) : RB c r := fun p hp => Nat.le_trans (h p hp) (Nat.pow_le_pow_right (by decide) (Nat.mul_le_mul_right _ k))
/-! ### row_by, step by step -/
/-! ### promises -/
/-- chosen, of any number -/
def spChB : Sp := fun vs H Q _ => ∃ (n k : Int) (m : Nat), vs = [.int n, .int k] ∧ Sz m n ∧ 10 ≤ m ∧ m ≤ 120000 ∧ 0 ≤ k ∧ k ≤ 7 ∧ Q (.int (ch n k.toNat)) H
/-- powers_chosen, of lists or tuples -/
def spPowB : Sp := fun vs H Q _ => ∃ (a : Addr) (n : Int) (pss : List (List Int)) (m k s : Nat), vs = [.ref a, .int n] ∧ (LL H a pss ∨ TT2 H a pss) ∧ Sz s n ∧ 10 ≤ s ∧ s ≤ 120000 ∧ 1 ≤ pss.length ∧ pss.length ≤ 8 ∧ (∀ p ∈ pss, p.length = m ∧ Bds k p) ∧ m ≤ 1000 ∧ k ≤ 1000000 ∧
  ∀ r H', H r = none → WL H' r (chI n pss m pss.length) → Same H H' → Q (.ref r) H'
end Pre

namespace Pre
open PySem PySem.Spec PyProof.Rows L2 R9
end Pre

namespace Pre
open PySem PySem.Spec PyProof.Rows L2 R9
/-! ### small rows drawn -/
end Pre

namespace Pre
open PySem PySem.Spec PyProof.Rows L2 R9
/-! ### rows as elements of a group -/
structure IsR (l d b : Nat) (ns : List Int) : Prop where
  len : ns.length = (gt l d).length
  rb : RB b ((gt l d).zip ns)
theorem IsR.mono {l d b c : Nat} {ns : List Int} (h : IsR l d b ns) (k : b ≤ c) : IsR l d c ns := ⟨h.len, h.rb.mono k⟩
theorem lo_one {f : Ser} (h : f [] = 1) : Lo 1 f := ⟨h, fun w hw => xF_low f w hw⟩
theorem wb_pw {b s : Nat} {f : Ser} {n : Int} (f1 : f [] = 1) (hf : WB 1 (2 ^ b) f) (hs : 3 ≤ s) (hn : n.natAbs ≤ 2 ^ s) : WB 1 (2 ^ (b + s + 7)) (pw7 f n) := by
  have := WB.pw7 (N := 2 ^ s) (Nat.le_refl 1) (lo_one f1) hf (n := n) (by rw [Nat.pow_one]; exact hn)
  refine this.mono (Nat.le_refl 1) ?_
  calc 56 * 2 ^ b * (2 ^ s + 7) ≤ 2 ^ 6 * 2 ^ b * 2 ^ (s + 1) := Nat.mul_le_mul (Nat.mul_le_mul_right _ (by decide)) (two7 hs)
    _ = 2 ^ (b + s + 7) := by rw [← Nat.pow_add, ← Nat.pow_add]; congr 1; omega
/-! the group -/
def inv (f : Ser) : Ser := pw7 f (-1)
def brk (x y : Ser) : Ser := conv (conv (inv x) (inv y)) (conv x y)
/-! ### promises -/
/-- sums_repeated, sums_backed of any sums -/
def spRepB (C : Addr) : Sp := fun vs H Q _ => ∃ (g a : Addr) (f : Ser) (n : Int) (l d k s : Nat), vs = [.ref g, .ref a, .int n] ∧ GrP C H g l d ∧ Wd H a ((gw l d).map f) ∧ Bds k ((gw l d).map f) ∧ k ≤ 100000 ∧ Sz s n ∧ 10 ≤ s ∧ s ≤ 120000 ∧
  ∀ r H', H r = none → WL H' r ((gw l d).map (pw7 f n)) → Same H H' → Q (.ref r) H'
def spBackB (C : Addr) : Sp := fun vs H Q _ => ∃ (g a : Addr) (f : Ser) (l d k : Nat), vs = [.ref g, .ref a] ∧ GrP C H g l d ∧ Wd H a ((gw l d).map f) ∧ Bds k ((gw l d).map f) ∧ k ≤ 100000 ∧
  ∀ r H', H r = none → WL H' r ((gw l d).map (inv f)) → Same H H' → Q (.ref r) H'
end Pre

namespace Pre
open PySem PySem.Spec PyProof.Rows L2 R9
/-! ### great rows drawn -/
end Pre

namespace Pre
open PySem PySem.Spec PyProof.Rows L2 R9
/-! ### the same data twice -/
/-- two lists in a list, or in a tuple -/
def two (ns ms : List Int) : List PyData := [.list (ns.map PyData.int), .list (ms.map PyData.int)]
/-! ### sums on a ground -/
/-! ### promises -/
end Pre

namespace Pre
open PySem PySem.Spec PyProof.Rows L2 R9
/-! ### rows of words -/
theorem sc_back {u : List Int} (nz : ∀ x ∈ u, x ≠ 0) : Al (inv (scF u)) (scF (back u)) := pw7_back u nz
/-! ### promises -/
end Pre

namespace L2
open PySem PySem.Spec PyProof.Rows Pre
section
variable {X : Cx}
end
end L2
namespace Pre
open PySem PySem.Spec PyProof.Rows L2 R9
/-! ### what goes together -/
theorem SameG.but {H H' : Hp} {a : Addr} {ns : List Int} (ha : WL H a ns) (h : ∀ e o, e ≠ a → H e = some o → H' e = some o) : SameG H H' := fun c u g e => by
  refine h c u (fun z => ?_) e
  subst z
  have ha' : H c = some (.lst (ns.map V.int)) := ha
  rw [ha'] at e
  cases e
  cases ns <;> exact g
/-! ### promises -/
end Pre

namespace R6
open PySem PySem.Spec PyProof.Rows L2
section
variable {prog : Program} {w : World} {A : Around} {E : Value → Shared → Prop} {s : Shared} {l : Addr} {d : Value} {Q : Value → Shared → Prop}
end
section
variable {X : Cx}
end
end R6

namespace Pre
open PySem PySem.Spec PyProof.Rows L2 R9
/-! ### how deep rows are -/
/-! ### the same on a lesser depth -/
end Pre
namespace Pre
open PySem PySem.Spec PyProof.Rows L2 R9
end Pre
namespace Pre
open PySem PySem.Spec PyProof.Rows L2 R9
end Pre

namespace Pre
open PySem PySem.Spec PyProof.Rows L2 R9
/-! ### brackets of places -/
/-! ### deepest rows are told by their sums, number by number -/
/-! ### promises -/
end Pre
namespace Pre
open PySem PySem.Spec PyProof.Rows L2 R9
end Pre
namespace Pre
end Pre

namespace L2
open PySem PySem.Spec PyProof.Rows Pre
section
variable {X : Cx}
/-! ### tuple.count of numbers -/
end
end L2

namespace Pre
open PySem PySem.Spec PyProof.Rows L2 R9
/-! ### the letters of a row -/
end Pre

namespace L2
open PySem PySem.Spec PyProof.Rows

/-- an exception at e, its traceback's newest entry at T, in whose flight field stands fl -/
def Fly (h : Heap) (e T : Addr) (cls : Value) (dx : Option Addr) (fl : Value) : Prop :=
  ∃ oe vs oT ts, h.get? e = some oe ∧ (oe.cls = cls ∧ oe.dict = dx) ∧ oe.data = .fields vs ∧ vs[1]? = some (.ref T) ∧ T ≠ e ∧ h.get? T = some oT ∧ oT.data = .fields ts ∧ ts[3]? = some fl
section
variable {M : Model} {A : Around} {E : Value → Shared → Prop} {s : Shared}
end
end L2

namespace L2
open PySem PySem.Spec PyProof.Rows

section
variable {P : Program} {w : World} {H H' : Hp} {h h' : Heap} {a : Addr} {o : HO} {fs ch : List Addr}
theorem ObjOk.ex (x : ObjOk P w H h a o) : ∃ u, h.get? a = some u := by
  cases o with
  | lst xs => obtain ⟨_, _, _, _, e⟩ := x; exact ⟨_, e⟩
  | tup xs => obtain ⟨_, _, _, o, e, _⟩ := x; exact ⟨_, e⟩
  | dK kvs => obtain ⟨_, _, _, _, o, _, _, e, _⟩ := x; exact ⟨_, e⟩
  | dT kvs => obtain ⟨_, _, _, _, o, _, _, e, _⟩ := x; exact ⟨_, e⟩
  | set S n => obtain ⟨o, _, _, _, e, _⟩ := x; exact ⟨_, e⟩
  | ins C dx fs => obtain ⟨_, _, _, e, _⟩ := x; exact ⟨_, e⟩
  | own y => obtain ⟨_, e⟩ := x; exact ⟨_, e⟩
  | xd fs => obtain ⟨_, ⟨_, _, _, e, _⟩, _⟩ := x; exact ⟨_, e⟩
  | rng lo hi => obtain ⟨_, _, _, e⟩ := x; exact ⟨_, e⟩
  | frz ob u => obtain ⟨e, _⟩ := x; exact ⟨_, e⟩
  | tbl ps => exact ⟨_, show h.get? a = some _ from x⟩
  | met f y => exact ⟨_, show h.get? a = some _ from x⟩
  | ext φ => obtain ⟨_, ⟨_, e⟩, _⟩ := x; exact ⟨_, e⟩
theorem HOk.none_of (x : HOk P w H h) (e : h.get? a = none) : H a = none := by
  cases q : H a with
  | none => rfl
  | some u => obtain ⟨v, z⟩ := (x a u q).ex; rw [e] at z; cases z
end

/-- how an exception lies behind a call: it and its traceback's newest entry are new and nobody tracks them; all else is as behind a call that returns -/
def CX1 (P : Program) (w : World) : CXT := fun outer H s E e s' =>
  ∃ a T cls dx H', e = .ref a ∧ s'.os = s.os ∧ AllBare s'.gens ∧ Un (frs outer) [] H H' s.heap s'.heap ∧ HOk P w H' s'.heap ∧ (s.heap.get? a = none ∧ s.heap.get? T = none) ∧ (H' a = none ∧ H' T = none) ∧
    Fly s'.heap a T cls dx .none ∧ E cls dx H'

section
variable {P : Program} {w : World} {K : PySem.W.Frag} {mg : Str → Option Value} {base : Heap} {N : List Str} {qual : Str} {scope : Scope} {f : Addr} {cd : Value} {A : Around} {outer : List Env} {s : Shared} {H : Hp} {E : XK}
end
end L2

namespace L2
open PySem PySem.Spec PyProof.Rows

section
variable {X : Cx}
end
end L2

namespace L2
open PySem PySem.Spec PyProof.Rows

/-- the context of a try's body: its pins are borne by every state, exceptions go to xe -/
abbrev Cx.tr (X : Cx) (pins : List (Addr × Obj)) (xe : Value → Shared → Prop) : Cx := { X with pn := X.pn ++ pins, xe := xe }
section
variable {X : Cx} {pins pins' : List (Addr × Obj)} {σ : St} {H : Hp} {s s' : Shared} {xe : Value → Shared → Prop}
theorem Cx.Ok.tr (ok : X.Ok) : (X.tr pins xe).Ok :=
  ⟨ok.mod, ok.kind, ok.glob, ok.blt, ok.above, ok.inj, ok.has, ok.cab, ok.hd, ok.frames, ok.stk, ok.exf, ok.bs, ok.bsz, ok.noex, ok.exfs, ok.funs, ok.frf⟩
theorem Inv.tr (I : Inv X pins σ H s) : Inv (X.tr pins xe) [] σ H s :=
  ⟨I.ok.tr, I.os, I.bare, I.base, I.loc, I.cell, I.free, I.freeC, fun p hp => I.pin p (by simpa using hp), I.hok, I.len⟩
end
/-- Passes, where the wish hangs on the names' values -/
def PassesS (CX : CXT) (X : Cx) (Es : St → XK) : Prop := ∀ (pins : List (Addr × Obj)) (σ : St) (H : Hp) (s : Shared) (e : Value) (s' : Shared), Inv X pins σ H s → CX X.stack H s (Es σ) e s' → X.xe e s'
theorem Passes.s {CX : CXT} {X : Cx} {E : XK} (h : Passes CX X E) : PassesS CX X fun _ => E := fun pins σ H s e s' I q => h pins σ H s e s' I q

section
variable {X : Cx} {CX : CXT} {k : Nat} {f C : Addr} {fd : FuncData} {ps : List Str} {sp : Sp} {dvs : List V} {ds : List Value} {Es : St → XK} {x m : Str} {p pos apos : Pos} {e o : Expr} {es : List Expr} {ta : TE} {t : TA}
end
end L2

namespace L2
open PySem PySem.Spec PyProof.Rows

section
variable {P : Program} {w : World} {st : List Env} {H H' : Hp} {s s1 : Shared} {h' : Heap} {E : XK} {a T T' : Addr} {cls : Value} {dx : Option Addr} {ch : List Addr}
end
section
variable {X : Cx} {pins : List (Addr × Obj)} {Es : St → XK} {e : Value} {s1 : Shared} {M : Model} {A : Around} {E : Value → Shared → Prop} {Q : Unit → Shared → Prop}
end
end L2

namespace L2
open PySem PySem.Spec PyProof.Rows
section
variable {X : Cx} {CX : CXT} {k : Nat} {f C : Addr} {fd : FuncData} {ps : List Str} {sp : Sp} {dvs : List V} {ds : List Value} {Es : St → XK} {x m : Str} {p pos apos : Pos} {e o : Expr} {es : List Expr} {ta : TE} {t : TA}
end
section
variable {P : Program} {w : World} {K : PySem.W.Frag} {mg : Str → Option Value} {base : Heap}
/-- a def that raises nothing, where others may raise -/
theorem FnOk.up {k : Nat} {f : Addr} {fd : FuncData} {ps : List Str} {sp : Sp} (F : FnOk P w K mg base CX0 k f fd ps sp) : FnOk P w K mg base (CX1 P w) k f fd ps sp :=
  ⟨F.len, fun A outer s H args us vs Q E hr e0 hb hv hs => codeAny_mono (F.run A outer s H args us vs Q E hr e0 hb hv hs) fun r s' q => by
    cases r with
    | error e => exact False.elim q
    | ok fl => cases fl <;> exact q⟩
end
end L2

namespace L2
open PySem PySem.Spec PyProof.Rows
section
variable {X : Cx} {pins : List (Addr × Obj)} {σ : St} {H : Hp} {s : Shared}
end
section
variable {X : Cx} {pins : List (Addr × Obj)} {σ : St} {H : Hp} {s : Shared} {e : Value}
end
end L2

namespace L2
open PySem PySem.Spec PyProof.Rows
section
variable {X : Cx}
end
end L2

namespace L2
open PySem PySem.Spec PyProof.Rows
section
variable {X : Cx}
end
end L2

namespace L2
open PySem PySem.Spec PyProof.Rows PySem.W
section
variable {prog : Program} {w : World} {A : Around} {E : Value → Shared → Prop} {h : Heap} {g : Array GenState} {d : Drawn} {t : Nat} {os : OsState} {a C : Addr} {o : Obj} {K : PySem.W.Frag}
end
section
variable {X : Cx}
end
end L2

namespace L2
open PySem PySem.Spec PyProof.Rows Pre
/-! ### x not in a list or tuple of data -/
section
variable {P : Program} {w : World} {K : PySem.W.Frag} {mg : Str → Option Value} {base : Heap}
/-- either promise -/
def spOr (a b : Sp) : Sp := fun vs H Q E => a vs H Q E ∨ b vs H Q E
theorem FnOk.or {CX : CXT} {k : Nat} {f : Addr} {fd : FuncData} {ps : List Str} {a b : Sp} (F : FnOk P w K mg base CX k f fd ps a) (G : FnOk P w K mg base CX k f fd ps b) : FnOk P w K mg base CX k f fd ps (spOr a b) :=
  ⟨fun vs H Q E h => h.elim (F.len vs H Q E) (G.len vs H Q E), fun A outer s H args us vs Q E hr e0 hb hv hs => hs.elim (F.run A outer s H args us vs Q E hr e0 hb hv) (G.run A outer s H args us vs Q E hr e0 hb hv)⟩
end
/-! ### calls of defs that may raise -/
section
variable {X : Cx} {C : Addr} {x m : Str} {ps : List Str} {r : Nat} {sp : Sp} {p apos pos : Pos} {o e : Expr} {es : List Expr} {t : TA} {ta : TE} {Es : St → XK}
end
/-! ### the promises of a Ground where it is refused -/
end L2

namespace Pre
open PySem PySem.Spec PyProof.Rows L2 R9
end Pre

namespace Pre
open PySem PySem.Spec PyProof.Rows L2 R9
/-! ### texts of nested data -/
end Pre

namespace L2
open PySem PySem.Spec PyProof.Rows
/-! ### lists and tuples alike, their iterators -/
/-! ### the second one ends -/
section
variable {prog : Program} {w : World} {A : Around} {E : Value → Shared → Prop} {s : Shared}
end
/-! ### zip of two of either kind -/
/-! ### a new zip -/
section
variable {prog : Program} {w : World} {A : Around} {E : Value → Shared → Prop} {s : Shared}
end
end L2

namespace L2
open PySem PySem.Spec PyProof.Rows
section
variable {prog : Program} {w : World} {A : Around} {E : Value → Shared → Prop} {s : Shared}
end
end L2

namespace L2
open PySem PySem.Spec PyProof.Rows
section
variable {prog : Program} {w : World} {A : Around} {E : Value → Shared → Prop} {s : Shared} {ka kb : Bool} {a b z tI tO ia ib : Addr} {xs ys : Array Value} {i : Nat}
end
section
variable {prog : Program} {w : World} {A : Around} {E : Value → Shared → Prop} {ka kb : Bool} {a b z tI tO ia ib : Addr} {xs ys : Array Value} {R : Result → Shared → Prop}
end
end L2

namespace L2
open PySem PySem.Spec PyProof.Rows Pre
/-! ### many new objects at once -/
def updL (H : Hp) : List (Addr × HO) → Hp
  | [] => H
  | (a, o) :: r => upd (updL H r) a o
section
variable {X : Cx} {pins : List (Addr × Obj)} {σ : St} {H Hn : Hp} {s : Shared} {h' : Heap}
theorem Inv.many {t' : Nat} (I : Inv X pins σ H s) (k : ∀ b u, s.heap.get? b = some u → h'.get? b = some u) (same : Same H Hn) (new : ∀ b o, Hn b = some o → H b = some o ∨ (s.heap.objs.size ≤ b ∧ ObjOk X.prog X.w Hn h' b o)) :
    Inv X pins σ Hn { s with heap := h', toks := t' } := by
  refine I.un ⟨fun b u q _ _ _ => k b u q, fun b u q _ _ _ => ⟨u.slots, k b u q⟩, fun b u q n _ => ?_, fun b u q _ => ⟨u, k b u q⟩, fun b xs q => same _ _ q, fun b u xs q => same _ _ q, fun b ps q => ⟨#[], by rw [same _ _ q]; simp⟩⟩ fun b o e => ?_
  · cases e : Hn b with
    | none => rfl
    | some o =>
      rcases new b o e with z | ⟨z, _⟩
      · rw [n] at z; cases z
      · exact absurd (Heap.lt_size q) (Nat.not_lt.mpr z)
  · rcases new b o e with z | ⟨_, z⟩
    · exact (I.hok b o z).stay (fun c v _ q => k c v q) (fun c q => same _ _ q) fun c xs q => same _ _ q
    · exact z
end
/-! ### list(zip(..)) -/
section
variable {prog : Program} {w : World} {A : Around} {E : Value → Shared → Prop} {s : Shared} {ka kb : Bool} {a b z tI tO ia ib : Addr} {xs ys : Array Value}
end
section
variable {X : Cx}
end
end L2

namespace Pre
open PySem PySem.Spec PyProof.Rows L2 R9
/-! ### the place of a number in a list -/
/-! ### two neighbours put into a bracket -/
/-! ### how long it gets where the shortest ones are taken first -/
/-! ### the words ahead of a turnword have no sum in its bracket -/
/-! ### slices of lists of words, lists of words one behind the other -/
/-! ### promises -/
end Pre

namespace Pre
open PySem PySem.Spec PyProof.Rows L2 R9
/-! ### walks over two of either kind -/
/-! ### promises -/
end Pre

namespace L2
open PySem PySem.Spec PyProof.Rows
section
variable {prog : Program} {w : World} {A : Around} {E : Value → Shared → Prop}
end
section
variable {X : Cx}
end
end L2
namespace Pre
open PySem PySem.Spec PyProof.Rows L2 R9
/-! ### sums by their words -/
end Pre

namespace Pre
open PySem PySem.Spec PyProof.Rows L2 R9
end Pre

namespace L2
open PySem PySem.Spec PyProof.Rows
/-! ### a zip of three lists -/
section
variable {prog : Program} {w : World} {A : Around} {E : Value → Shared → Prop} {s : Shared}
end
end L2

namespace L2
open PySem PySem.Spec PyProof.Rows
section
variable {prog : Program} {w : World} {A : Around} {E : Value → Shared → Prop} {s : Shared}
end
/-! ### a new zip of three -/
section
variable {prog : Program} {w : World} {A : Around} {E : Value → Shared → Prop} {s : Shared}
end
end L2

namespace Pre
open PySem PySem.Spec PyProof.Rows L2 R9
/-! ### the first word at which two words' sums are unlike is a turnword -/
/-! ### rows that are unlike are so first where the sums are -/
end Pre

namespace Pre
open PySem PySem.Spec PyProof.Rows L2 R9
/-! ### promises -/
end Pre

namespace Pre
open PySem PySem.Spec PyProof.Rows L2 R9
end Pre

namespace Pre
open PySem PySem.Spec PyProof.Rows L2 R9
/-! ### a deep word put in changes no sums (k86) -/
end Pre

namespace Pre
open PySem PySem.Spec PyProof.Rows L2 R9
/-! ### tighter bounds of rows: what a step loses hangs on the word's size; steps of one size add -/
end Pre

namespace Pre
open PySem PySem.Spec PyProof.Rows L2 R9
/-! ### a tight bound of the inverse: its sums are at most 2 ^ (size - 1) times as great -/
/-! ### brackets of rows, of any shape -/
/-! ### promises of k86 -/
end Pre
namespace Pre
open PySem PySem.Spec PyProof.Rows L2 R9
end Pre
namespace Pre
open PySem PySem.Spec PyProof.Rows L2 R9
end Pre

namespace Pre
open PySem PySem.Spec PyProof.Rows L2 R9
/-! ### letters put in -/
end Pre

namespace Pre
open PySem PySem.Spec PyProof.Rows L2 R9
end Pre
namespace Pre
open PySem PySem.Spec PyProof.Rows L2 R9
end Pre
namespace Pre
open PySem PySem.Spec PyProof.Rows L2 R9
theorem GrP.n {C : Addr} {H H' : Hp} {g : Addr} {l d : Nat} (x : GrP C H g l d) (s : SameN H H') (e : ∀ o, H g = some o → H' g = some o) : GrP C H' g l d :=
  ⟨x.ok, let ⟨dx, pl, tu, nu, pa, en, fs, h1, h2, h3, h4, h5, h6, h7, h8, h9, a1, a2, a3, a4, a5⟩ := x.ex
    ⟨dx, pl, tu, nu, pa, en, fs, e _ h1, h2, h3, h4, h5, h6, h7, h8, h9, a1.n s, a2.n s, s.dT a3, a4.t s.t, a5.n s⟩⟩
theorem Gr.n {C : Addr} {H H' : Hp} {g : Addr} {l d : Nat} (x : Gr C H g l d) (s : SameN H H') (e : ∀ o, H g = some o → H' g = some o) : Gr C H' g l d :=
  ⟨x.p.n s e, let ⟨dx, st, pw, fs, h1, h2, h3, h4, h5⟩ := x.ex; ⟨dx, st, pw, fs, e _ h1, h2, h3, h4.t s.t, h5.n s⟩⟩
end Pre
namespace Pre
open PySem PySem.Spec PyProof.Rows L2 R9
end Pre

namespace Pre
open PySem PySem.Spec PyProof.Rows L2 R9
/-! ### promises of the laws of Put -/
end Pre
namespace Pre
open PySem PySem.Spec PyProof.Rows L2 R9
end Pre
namespace Pre
open PySem PySem.Spec PyProof.Rows L2 R9
end Pre
namespace Pre
open PySem PySem.Spec PyProof.Rows L2 R9
end Pre
namespace Pre
open PySem PySem.Spec PyProof.Rows L2 R9
end Pre

namespace Pre
open PySem PySem.Spec PyProof.Rows L2 R9
/-! ### putting in words: what it tells hangs on the sums alone -/
end Pre

namespace Pre
open PySem PySem.Spec PyProof.Rows L2 R9
/-! ### put_row keeps all that is done with rows -/
end Pre

namespace Pre
open PySem PySem.Spec PyProof.Rows L2 R9
end Pre

namespace Pre
open PySem PySem.Spec PyProof.Rows L2 R9
/-! ### k62 -/
end Pre
namespace Pre
open PySem PySem.Spec PyProof.Rows L2 R9
end Pre
namespace Pre
open PySem PySem.Spec PyProof.Rows L2 R9
end Pre

namespace Pre
open PySem PySem.Spec PyProof.Rows L2 R9
/-! ### k85 -/
end Pre
namespace Pre
open PySem PySem.Spec PyProof.Rows L2 R9
end Pre

namespace Pre
open PySem PySem.Spec PyProof.Rows L2 R9
end Pre
namespace Pre
open PySem PySem.Spec PyProof.Rows L2 R9
end Pre

namespace Pre
open PySem PySem.Spec PyProof.Rows L2 R9
section
variable {X : Cx}
end
/-! ### one Put behind another -/
end Pre

namespace Pre
open PySem PySem.Spec PyProof.Rows L2 R9
section
variable {H H' : Hp} {t : Addr} {w1 w2 w3 w4 : List Int} {n : Int} {is js : List (List Int)}
end
end Pre

/-! ### t[::-1] -/
namespace R3
open PySem PySem.Spec PyProof.Rows L2 HT
section
variable {prog : Program} {w : World} {A : Around} {E : Value → Shared → Prop} {s : Shared}
end
section
variable {X : Cx} {e st : Expr} {te ts : TE} {pos p2 : Pos}
end
end R3
namespace Pre
open PySem PySem.Spec PyProof.Rows L2 R9
end Pre

namespace Pre
open PySem PySem.Spec PyProof.Rows L2 R9
end Pre
namespace Pre
open PySem PySem.Spec PyProof.Rows L2 R9
end Pre
namespace Pre
open PySem PySem.Spec PyProof.Rows L2 R9
end Pre
namespace Pre
open PySem PySem.Spec PyProof.Rows L2 R9
end Pre

/-! ### a list's [::-1] -/
namespace R3
open PySem PySem.Spec PyProof.Rows L2 HT
section
variable {X : Cx} {e st : Expr} {te ts : TE} {pos p2 : Pos}
end
end R3

namespace Pre
open PySem PySem.Spec PyProof.Rows L2 R9
end Pre

namespace Pre
open PySem PySem.Spec PyProof.Rows L2 R9
end Pre

namespace Pre
open PySem PySem.Spec PyProof.Rows L2 R9
end Pre

namespace Pre
open PySem PySem.Spec PyProof.Rows L2 R9
end Pre
namespace Pre
open PySem PySem.Spec PyProof.Rows L2 R9
end Pre

/-! ### sorted(tuple of ints) -/
namespace R3
open PySem PySem.Spec PyProof.Rows L2 HT
section
variable {prog : Program} {w : World} {A : Around} {E : Value → Shared → Prop} {s : Shared}
end
end R3

namespace Pre
open PySem PySem.Spec PyProof.Rows L2 R9
/-! ### the sums of a row of letters alone -/
theorem xpow_elt {k : Int} (hk : 0 < k) : ∀ (j : Nat) (w : List Int), xpow (elt k) j w = if w = List.replicate j k then 1 else 0
  | 0, w => rfl
  | j + 1, w => by
    show conv (xpow (elt k) j) (xF (elt k)) w = _
    by_cases e : w = []
    · subst e
      rw [conv_nil, show xF (elt k) [] = 0 from if_pos rfl, Int.mul_zero, if_neg (by rw [List.replicate_succ]; simp)]
    · obtain ⟨v, a, rfl⟩ : ∃ v a, w = v ++ [a] := ⟨w.dropLast, w.getLast e, (List.dropLast_concat_getLast e).symm⟩
      have ef : (fun u => xF (elt k) (u ++ [a])) = fun u => (if a = k then 1 else 0) * oneF u := funext fun u => by
        show (if u ++ [a] = [] then 0 else elt k (u ++ [a])) = _
        rw [if_neg (by simp), elt_snoc_pos hk]
      rw [conv_snoc, show xF (elt k) [] = 0 from if_pos rfl, Int.mul_zero, Int.add_zero, ef, conv_mul_right, conv_one, xpow_elt hk j v, List.replicate_succ']
      by_cases ea : a = k
      · subst ea
        rw [if_pos rfl, Int.one_mul]
        by_cases ev : v = List.replicate j a
        · rw [if_pos ev, if_pos (by rw [ev])]
        · rw [if_neg ev, if_neg fun z => ev (List.append_inj' z rfl).1]
      · rw [if_neg ea, Int.zero_mul, if_neg fun z => ea (by have := (List.append_inj' z rfl).2; simpa using this)]
theorem sumTo_elt {k : Int} (hk : 0 < k) (n : Int) : ∀ (j : Nat) (w : List Int), sumTo (elt k) n j w = if w = List.replicate w.length k ∧ w.length < j then ch n w.length else 0
  | 0, w => by rw [if_neg fun z => Nat.not_lt_zero _ z.2]; rfl
  | j + 1, w => by
    show sumTo (elt k) n j w + ch n j * xpow (elt k) j w = _
    rw [sumTo_elt hk n j w, xpow_elt hk j w]
    by_cases e : w = List.replicate w.length k
    · by_cases ej : w.length = j
      · rw [if_neg (fun z => by omega), if_pos (by rw [← ej]; exact e), if_pos ⟨e, by omega⟩, ej]; omega
      · rw [if_neg (c := w = List.replicate j k) (fun z => ej (by rw [z, List.length_replicate]))]
        by_cases el : w.length < j
        · rw [if_pos ⟨e, el⟩, if_pos ⟨e, by omega⟩]; omega
        · rw [if_neg (fun z => el z.2), if_neg (fun z => by omega)]; omega
    · rw [if_neg (fun z => e z.1), if_neg (fun z => e (by conv => rhs; rw [z, List.length_replicate]
                                                          exact z)), if_neg (fun z => e z.1)]; omega
theorem pw7_elt {k : Int} (hk : 0 < k) (n : Int) {w : List Int} (hw : w.length ≤ 7) : pw7 (elt k) n w = if ∀ x ∈ w, x = k then ch n w.length else 0 := by
  unfold pw7
  rw [sumTo_elt hk]
  by_cases e : ∀ x ∈ w, x = k
  · rw [if_pos e, if_pos ⟨List.eq_replicate_of_mem e, by omega⟩]
  · rw [if_neg e, if_neg fun z => e fun x hx => by rw [z.1] at hx; exact List.eq_of_mem_replicate hx]
/-! ### the sums of one deep place -/
end Pre

namespace Pre
open PySem PySem.Spec PyProof.Rows L2 R9
/-! ### sums by their words, one of them put anew -/
end Pre

namespace L2
open PySem PySem.Spec PyProof.Rows PySem.W
section
variable {X : Cx}
end
end L2

namespace Pre
open PySem PySem.Spec PyProof.Rows L2 R9
/-! ### rows of small grounds: sharper bounds -/
/-! ### what is put in twice -/
/-! ### texts of rows -/
/-! ### promises -/
end Pre

namespace Pre
open PySem PySem.Spec PyProof.Rows L2 R9
/-! ### a list of instances is no ground's own list -/
end Pre

namespace Pre
open PySem PySem.Spec PyProof.Rows L2 R9
/-! ### rows handed in as lists or tuples -/
end Pre

namespace Pre
open PySem PySem.Spec PyProof.Rows L2 R9
/-! ### roots: what is deepest goes with all, and adds up -/
end Pre

namespace L2
open PySem PySem.Spec PyProof.Rows
section
variable {X : Cx}
end
end L2
namespace Pre
open PySem PySem.Spec PyProof.Rows L2 R9
end Pre

namespace Pre
open PySem PySem.Spec PyProof.Rows L2 R9
end Pre

namespace Pre
open PySem PySem.Spec PyProof.Rows L2 R9
theorem sameG_int {H H' : Hp} {a : Addr} {w : List Int} (h : WL H a w) (s : SameB a H H') : SameG H H' := fun c o g e => by
  by_cases n : c = a
  · subst n
    rw [show H c = _ from h] at e
    cases e
    cases w with
    | nil => exact absurd g id
    | cons x r => exact absurd g id
  · exact s _ _ n e
end Pre

namespace Pre
open PySem PySem.Spec PyProof.Rows L2 R9
/-! ### the numbers that a root would have, place by place -/
theorem getD_of {xs : List Int} {j : Nat} {x : Int} (h : xs[j]? = some x) : xs.getD j 0 = x := by rw [List.getD_eq_getElem?_getD, h]; rfl
/-! bounds -/
end Pre

namespace Pre
open PySem PySem.Spec PyProof.Rows L2 R9
end Pre

namespace Pre
open PySem PySem.Spec PyProof.Rows L2 R9
/-! ### roots that are none -/
end Pre

namespace Pre
open PySem PySem.Spec PyProof.Rows L2 R9
/-! ### primes, greatest common divisors -/
def Pr (q : Nat) : Prop := 2 ≤ q ∧ ∀ k, k ∣ q → k = 1 ∨ k = q
theorem Pr.dvd_mul {q a b : Nat} (h : Pr q) (d : q ∣ a * b) : q ∣ a ∨ q ∣ b := by
  rcases h.2 (Nat.gcd q a) (Nat.gcd_dvd_left ..) with e | e
  · exact .inr (Nat.Coprime.dvd_of_dvd_mul_left (show Nat.Coprime q a from e) d)
  · refine .inl ?_
    have := Nat.gcd_dvd_right q a
    rwa [e] at this
def prodN : List Nat → Nat
  | [] => 1
  | p :: ps => p * prodN ps
theorem Pr.mem {q : Nat} (h : Pr q) : ∀ {ps : List Nat}, (∀ p ∈ ps, Pr p) → q ∣ prodN ps → q ∈ ps
  | [], _, d => by
    have := Nat.le_of_dvd (by decide) (show q ∣ 1 from d)
    have := h.1
    omega
  | p :: ps, hp, d => by
    rcases h.dvd_mul d with e | e
    · rcases (hp p (List.mem_cons_self ..)).2 q e with z | z
      · have := h.1; omega
      · rw [z]; exact List.mem_cons_self ..
    · exact List.mem_cons_of_mem _ (h.mem (fun x hx => hp x (List.mem_cons_of_mem _ hx)) e)
end Pre

namespace Pre
open PySem PySem.Spec PyProof.Rows L2 R9
/-! ### greatest roots -/
end Pre

namespace Pre
open PySem PySem.Spec PyProof.Rows L2 R9
end Pre

namespace Pre
open PySem PySem.Spec PyProof.Rows L2 R9
/-! ### roots go together -/
end Pre

namespace Pre
open PySem PySem.Spec PyProof.Rows L2 R9
end Pre

namespace Pre
open PySem PySem.Spec PyProof.Rows L2 R9
/-! ### what goes with a row -/
end Pre

namespace Pre
open PySem PySem.Spec PyProof.Rows L2 R9
theorem gw_less {l d e : Nat} {w : List Int} (h : w ∈ gw l e) (he : e ≤ d) : w ∈ gw l d := gw_mem.mpr ⟨Nat.le_trans (gw_mem.mp h).1 he, (gw_mem.mp h).2⟩
theorem AlG.less {l d e : Nat} {f g : Ser} (h : AlG l d f g) (he : e ≤ d) : AlG l e f g := fun w hw => h w (gw_less hw he)
end Pre

namespace Pre
open PySem PySem.Spec PyProof.Rows L2 R9
end Pre

namespace L2
open PySem PySem.Spec PyProof.Rows
section
variable {X : Cx}
theorem noPylong_left {x y : Int} (h : x.natAbs.log2 < 13000) : Builtin.divisionGoesByPylong x y = false := by
  show (decide ((if y == 0 then 0 else y.natAbs.log2 / 30 + 1) > 300) && decide ((if x == 0 then 0 else x.natAbs.log2 / 30 + 1) > (if y == 0 then 0 else y.natAbs.log2 / 30 + 1) + 150)) = false
  have key : (if x == 0 then 0 else x.natAbs.log2 / 30 + 1) ≤ 434 := by
    by_cases hx : (x == 0) = true
    · rw [if_pos hx]; exact Nat.zero_le _
    · rw [if_neg hx]; omega
  generalize (if x == 0 then 0 else x.natAbs.log2 / 30 + 1) = a at key ⊢
  generalize (if y == 0 then 0 else y.natAbs.log2 / 30 + 1) = c
  by_cases hc : c > 300
  · rw [decide_eq_false (show ¬ a > c + 150 by omega), Bool.and_false]
  · rw [decide_eq_false hc]; rfl
/-- // of a number that is not too great, by any other than 0 -/
theorem op_fdivS : OpR X (binaryOp .FloorDiv) (rI (fun i j => j ≠ 0 ∧ i.natAbs < 2 ^ 12999) fun i j => .int (i.fdiv j)) := opI fun i j _ _ _ _ _ hc q => floordiv_int hc.1 q (.inl (noPylong_left (by
  by_cases h : i.natAbs = 0
  · rw [h]; decide +kernel
  · have := (Nat.log2_lt h).mpr hc.2; omega)))
end
end L2
namespace Pre
open PySem PySem.Spec PyProof.Rows L2 R9
end Pre

namespace Pre
open PySem PySem.Spec PyProof.Rows L2 R9
end Pre

namespace Pre
open PySem PySem.Spec PyProof.Rows L2 R9
end Pre

namespace Pre
open PySem PySem.Spec PyProof.Rows L2 R9
end Pre

namespace R9
open PySem PySem.Spec PyProof.Rows L2 HT
section
variable {X : Cx}
theorem iter_anyT {prog : Program} {w : World} {A : Around} {E : Value → Shared → Prop} {s : Shared} {l : Addr} {items : Array Value} {Q : Value → Shared → Prop} (hl : IsTup s.heap l items)
    (h : ∀ s₂ : Shared, s₂ = { s with heap := s.heap.push { cls := .type "tuple_iterator", data := .fields #[.ref l, .int 0 0] } } →
      (s₂.heap.IsTupleIter s.heap.objs.size l 0 ∧ s₂.heap.IsTuple l items) → l ≠ s.heap.objs.size → Q (.ref s.heap.objs.size) s₂) : wpAny (model prog w) A (pyIter (.ref l)) Q E s := by
  have hlt : l < s.heap.objs.size := by obtain ⟨_, e, _⟩ := hl; exact Heap.lt_size e
  obtain ⟨o, e, c, d⟩ := id hl
  exact iter_tuple hl (h _ rfl ⟨⟨_, Heap.get?_push_size _ rfl, rfl, rfl⟩, ⟨o, Heap.get?_push_of_some _ e, c, d⟩⟩ (Nat.ne_of_lt hlt))
end
end R9
namespace Pre
open PySem PySem.Spec PyProof.Rows L2 R9
end Pre

namespace Pre
open PySem PySem.Spec PyProof.Rows L2 R9
theorem WT.chg {H H' : Hp} {c hd : Addr} {v w : List Int} (h : WT H c v) (hh : WL H hd w) (s : SameB hd H H') : WT H' c v := s _ _ (fun z => by rw [z] at h; have h2 := hh.symm.trans h; cases h2) h
theorem Bx.chg {H H' : Hp} {b hd : Addr} {m : Nat} (h : Bx H b m) (n : b ≠ hd) (s : SameB hd H H') : Bx H' b m := by
  obtain ⟨x1, x2, x3, hbb, r⟩ := h
  exact ⟨x1, x2, x3, s _ _ n hbb, r⟩
end Pre

namespace Pre
open PySem PySem.Spec PyProof.Rows L2 R9
/-! ### the same companions -/
end Pre

namespace Pre
open PySem PySem.Spec PyProof.Rows L2 R9
end Pre

namespace Pre
open PySem PySem.Spec PyProof.Rows L2 R9
/-! ### turned rows -/
end Pre

namespace Pre
open PySem PySem.Spec PyProof.Rows L2 R9
end Pre

namespace Pre
open PySem PySem.Spec PyProof.Rows L2 R9
end Pre

namespace Pre
open PySem PySem.Spec PyProof.Rows L2 R9
end Pre

namespace R9
open PySem PySem.Spec PyProof.Rows L2 HT
theorem entry_set_eq' : entryFor table "set.__eq__" = some Builtin.«frozenset.__eq__» :=
  entryFor_alias (id' := "frozenset.__eq__") (by kernel_rfl) rfl (by decide +kernel) (by kernel_rfl)
theorem sub_set_frozen : isSubtype (.type "set") (.type "frozenset") = pure false := by rw [isSubtype_type]; kernel_rfl
section
variable {prog : Program} {w : World} {A : Around} {E : Value → Shared → Prop} {s : Shared}
theorem quiet_scan {v : Value} (h : v.scannable = true) : Builtin.Frozenset.quietEq v = pure true := by
  cases v <;> first | rfl | (simp [Value.scannable] at h)
theorem sub_sets {id : String} {a b : Addr} {S1 S2 : Int → Bool} {n m : Nat} {Q : Bool → Shared → Prop} (h1 : s.heap.SetOf (intKind prog w) a S1 n) (h2 : s.heap.SetOf (intKind prog w) b S2 m)
    (h : ∀ r : Bool, (r = true ↔ n ≤ m ∧ ∀ k, S1 k = true → S2 k = true) → Q r s) : wpAny (model prog w) A (Builtin.Frozenset.subsetOf id a b) Q E s := by
  have h2' := h2
  obtain ⟨o1, es1, ep1, tb1, ho1, hx1, hd1, he1, hm1, hb1, hf1, hn1⟩ := h1
  obtain ⟨o2, es2, ep2, tb2, ho2, hx2, hd2, he2, hm2, hb2, hf2, hn2⟩ := h2
  unfold Builtin.Frozenset.subsetOf Builtin.Frozenset.sizeOf
  refine wpAny_bind (wpAny_bind (wpAny_setEntries_of ho1 hd1 hf1 (wpAny_pure ?_)))
  refine wpAny_bind (wpAny_bind (wpAny_setEntries_of ho2 hd2 hf2 (wpAny_pure ?_)))
  by_cases c : es1.size > es2.size
  · rw [if_pos c]
    exact wpAny_pure (h false ⟨fun z => Bool.noConfusion z, fun z => by omega⟩)
  rw [if_neg c]
  unfold setEpoch
  refine wpAny_bind (wpAny_bind (wpAny_setState_of ho1 hd1 hf1 (wpAny_pure ?_)))
  unfold Builtin.Frozenset.walkUnseen
  refine wpAny_bind (wpAny_bind (wpAny_setEntries_of ho1 hd1 hf1 (wpAny_bind (wpAny_setEntries_of ho2 hd2 hf2 (wpAny_bind ?_)))))
  refine wpAny_mono (wpAny_forIn_list _ (fun (rest : List (Int × Value)) bb s' => bb = (none, ()) ∧ s' = s ∧ ∀ e ∈ rest, e.2.scannable = true) (fun bb s' => bb = (none, ()) ∧ s' = s) ?_ ?_ _ _ ⟨rfl, rfl, fun e he => ?_⟩) ?_ fun _ _ q => q
  · rintro ⟨hh, x⟩ rest bb s' ⟨q1, q2, hs⟩
    rw [q2]
    dsimp only
    rw [quiet_scan (hs _ (List.mem_cons_self ..))]
    exact wpAny_bind (wpAny_pure (wpAny_pure ⟨rfl, rfl, fun e he => hs e (List.mem_cons_of_mem _ he)⟩))
  · rintro bb s' ⟨q1, q2, _⟩
    exact ⟨q1, q2⟩
  · rcases List.mem_append.mp he with z | z
    · exact (he1 e z).2
    · exact (he2 e z).2
  · rintro bb s' ⟨q1, q2⟩
    rw [q1, q2]
    dsimp only
    refine wpAny_pure (wpAny_bind ?_)
    refine wpAny_mono (wpAny_forIn_list _ (fun (rest : List (Int × Value)) bb s' => bb = (none, ()) ∧ s' = s ∧ ∃ pre, es1.toList = pre ++ rest ∧ ∀ e ∈ pre, ∀ k, (intKind prog w).is k e.2 = true → S2 k = true)
      (fun bb s' => s' = s ∧ ((bb = (none, ()) ∧ ∀ e ∈ es1.toList, ∀ k, (intKind prog w).is k e.2 = true → S2 k = true) ∨ (bb = (some false, ()) ∧ ∃ e ∈ es1.toList, ∃ k, (intKind prog w).is k e.2 = true ∧ S2 k = false))) ?_ ?_ _ _ ⟨rfl, rfl, [], rfl, fun e he => by simp at he⟩) ?_ fun _ _ q => q
    · rintro ⟨hh, x⟩ rest bb s' ⟨q1, q2, pre, e1, hp⟩
      rw [q2]
      dsimp only
      obtain ⟨⟨k, kx, kh⟩, ks⟩ := he1 (hh, x) (by rw [e1]; exact List.mem_append_right _ (List.mem_cons_self ..))
      dsimp only at kx kh ks
      rw [kh]
      refine wpAny_bind (wpAny_holding (wpAny_setFind_of kx ks h2' fun r hr => ?_))
      cases hr2 : S2 k with
      | false =>
        rw [hr2] at hr
        rw [if_pos (by cases r with | none => rfl | some _ => cases hr)]
        refine wpAny_pure ⟨rfl, .inr ⟨rfl, (hh, x), by rw [e1]; exact List.mem_append_right _ (List.mem_cons_self ..), k, kx, hr2⟩⟩
      | true =>
        rw [hr2] at hr
        rw [if_neg (by cases r with | none => cases hr | some _ => simp)]
        unfold Builtin.Frozenset.unchanged setEpoch
        refine wpAny_bind (wpAny_bind (wpAny_bind (wpAny_setState_of ho1 hd1 hf1 (wpAny_pure ?_))))
        rw [if_neg (by simp)]
        refine wpAny_pure (wpAny_pure ⟨rfl, rfl, pre ++ [(hh, x)], by rw [e1]; simp, fun e he k' hk' => ?_⟩)
        rcases List.mem_append.mp he with z | z
        · exact hp e z k' hk'
        · rw [List.mem_singleton.mp z] at hk'
          rw [(intKind prog w).inj x k' k hk' kx]; exact hr2
    · rintro bb s' ⟨q1, q2, pre, e1, hp⟩
      refine ⟨q2, .inl ⟨q1, fun e he k hk => ?_⟩⟩
      rw [List.append_nil] at e1
      exact hp e (e1 ▸ he) k hk
    · rintro bb s' ⟨q2, ⟨q1, all⟩ | ⟨q1, e, he, k, hk, no⟩⟩
      · rw [q1, q2]
        refine wpAny_pure (h true ⟨fun _ => ⟨by omega, fun k hk => ?_⟩, fun _ => rfl⟩)
        obtain ⟨e, he, hk'⟩ := (hm1 k).mp hk
        exact all e he k hk'
      · rw [q1, q2]
        refine wpAny_pure (h false ⟨fun z => Bool.noConfusion z, fun z => ?_⟩)
        have := z.2 k ((hm1 k).mpr ⟨e, he, hk⟩)
        rw [no] at this; cases this
theorem eq_sets {a b : Addr} {S1 S2 : Int → Bool} {n m : Nat} {Q : Value → Shared → Prop} (h1 : s.heap.SetOf (intKind prog w) a S1 n) (h2 : s.heap.SetOf (intKind prog w) b S2 m) (hu : A.units < cLine)
    (h : ∀ r : Bool, (r = true ↔ n = m ∧ ∀ k, S1 k = true → S2 k = true) → Q (.bool r) s) : wpAny (model prog w) A (compareOp .Eq (.ref a) (.ref b)) Q E s := by
  show wpAny _ _ (richCompare .Eq (.ref a) (.ref b)) Q E s
  refine wpAny_richCompare_same_room h1.typeIs h2.typeIs F.slot_set_eq ?_ hu
  refine wpAny_call_entry F.slot_set_eq h1.typeIs entry_set_eq' ?_ (F.args_set_eq_2 _ _)
  unfold Builtin.«frozenset.__eq__»
  refine wpAny_bind ?_
  dsimp only
  have t1 := h1.typeIs
  have t2 := h2.typeIs
  have k1 := sub_set_self
  have k2 := sub_set_frozen
  generalize hSub : Builtin.Frozenset.subsetOf = SUB
  unfold Builtin.Frozenset.slot1 Builtin.Frozenset.isAnySet Builtin.Frozenset.addrOf Builtin.Frozenset.sizeOf
  generalize hSE : setEntries = SE
  wp_walk
  subst hSE
  obtain ⟨o1, es1, ep1, tb1, ho1, hx1, hd1, he1, hm1, hb1, hf1, hn1⟩ := h1
  obtain ⟨o2, es2, ep2, tb2, ho2, hx2, hd2, he2, hm2, hb2, hf2, hn2⟩ := h2
  refine wpAny_setEntries_of ho1 hd1 hf1 ?_
  refine wpAny_pure ?_
  refine wpAny_bind (wpAny_bind (wpAny_setEntries_of ho2 hd2 hf2 (wpAny_pure ?_)))
  refine wpAny_bind ?_
  by_cases c : es1.size = es2.size
  · rw [if_neg (by simp [c])]
    have fin := fun (r : Bool) (hr : r = true ↔ n = m ∧ ∀ (k : Int), S1 k = true → S2 k = true) => (wpAny_pure ⟨_, rfl, fun z => Value.noConfusion z, h r hr⟩ : wpAny (model prog w) A.in1 (ret (Value.bool r)) (fun fin s' => ∃ v, fin = Fin.done (Flow.ret v) ∧ v ≠ Value.notImplemented ∧ Q v s') E s)
    generalize hq : Builtin.Frozenset.quietEq = QE
    generalize hI : (fun __do_lift : Bool => ret (Value.bool __do_lift)) = RT at *
    wp_walk
    subst hSub
    refine sub_sets ⟨o1, es1, ep1, tb1, ho1, hx1, hd1, he1, hm1, hb1, hf1, hn1⟩ ⟨o2, es2, ep2, tb2, ho2, hx2, hd2, he2, hm2, hb2, hf2, hn2⟩ fun r hr => fin r ⟨fun z => ⟨by omega, (hr.mp z).2⟩, fun z => hr.mpr ⟨by omega, z.2⟩⟩
  · rw [if_pos (by simp [c])]
    refine wpAny_pure ?_
    exact wpAny_pure ⟨_, rfl, fun z => Value.noConfusion z, h false ⟨fun z => Bool.noConfusion z, fun z => absurd (hn1.trans (z.1.trans hn2.symm)) c⟩⟩
end
end R9

namespace R9
open PySem PySem.Spec PyProof.Rows L2 HT
theorem sub_tup_set : isSubtype (.type "tuple") (.type "set") = pure false := by rw [isSubtype_type]; kernel_rfl
theorem sub_tup_frozen : isSubtype (.type "tuple") (.type "frozenset") = pure false := by rw [isSubtype_type]; kernel_rfl
/-- the letters of a word, each once, as far as seen -/
def SeenOf (ns : List Int) (N : Nat) : List Int := firstMet (fun i => ns.getD i 0) N
def emptySet (led : Bool) : Obj := { cls := .type "set", dict := none, data := .set #[] 0 (.fresh 0 0 led) }
section
variable {prog : Program} {w : World} {A : Around} {E : Value → Shared → Prop} {s : Shared}
/-- set(tuple of ints) -/
theorem call_setT {l : Addr} {items : Array Value} {ns : List Int} {Q : Value → Shared → Prop} (noExc : A.handled = none) (tup : IsTup s.heap l items) (isI : IntsAre items.toList ns) (few : items.size + 1 < scanBound)
    (k : ∀ (hp : Heap) (tk : Nat), hp.SetOf (intKind prog w) s.heap.objs.size (fun z => (SeenOf ns items.size).any (· == z)) (SeenOf ns items.size).length → (∀ c u, c < s.heap.objs.size → s.heap.get? c = some u → hp.get? c = some u) →
      Q (.ref s.heap.objs.size) { s with heap := hp, toks := tk }) : wpAny (model prog w) A (call (.type "set") [.ref l]) Q E s := by
  have ⟨c0, tl0, mro0⟩ := F.called_set.mro
  have made0 := F.called_set.made
  have sub0 := F.called_set.sub
  refine wpAny_call (codeAny_of_tree ?_)
  show wpAny _ _ (callAny (.type "set") _) _ _ _
  refine wpAny_pure ⟨Code.quiet_builtin _ (by decide +kernel), codeAny_builtin F.entry_type_call ?_⟩
  rw [Around.under_plain (weight_type_call_type "set" [.ref l] []) rfl]
  have nt := F.called_set.notType
  have cc := F.called_set.canCreate
  have tc := F.typeCall_set_1 (.ref l)
  repeat (any_goals (first | assumption | wp_step))
  refine codeAny_mono (code_set_new_1 (.ref l) (E := E) (Q₁ := fun ob st => ∃ led : Bool, ob = .ref s.heap.objs.size ∧ st = { s with heap := s.heap.push (emptySet led) }) fun led => ⟨led, rfl, rfl⟩) fun r1 st1 got => ?_
  cases r1 with
  | error x => exact got
  | ok fl =>
    cases fl with
    | ret ob =>
      obtain ⟨led, rfl, rfl⟩ := got
      have atS : (s.heap.push (emptySet led)).get? s.heap.objs.size = some (emptySet led) := Heap.get?_push_size _ rfl
      have tyS : Shared.TypeIs { s with heap := s.heap.push (emptySet led) } (.ref s.heap.objs.size) "set" := ⟨_, atS, rfl⟩
      have look0 := F.called_set.init.lookup
      have bind0 := F.called_set.init.bind (.ref s.heap.objs.size)
      repeat (any_goals (first | assumption | wp_step))
      refine codeAny_mono (codeAny_call_builtin (R := wants (fun v st => v = .none ∧ ∃ hp tk, st = { s with heap := hp, toks := tk } ∧ hp.SetOf (intKind prog w) s.heap.objs.size (fun z => (SeenOf ns items.size).any (· == z)) (SeenOf ns items.size).length ∧
          (∀ c u, c < s.heap.objs.size → s.heap.get? c = some u → hp.get? c = some u)) E) F.called_set.init.plain F.entry_set_init (check_set_init_1 tyS ?_)) fun r2 st2 got2 => ?_
      · have tup' := tup
        obtain ⟨ol, hol, hcl, nl, hdl⟩ := tup'
        obtain ⟨ocls, odict, odata, oslots⟩ := ol
        simp only at hcl hdl
        subst hcl; subst hdl
        have hol' : (s.heap.push (emptySet led)).get? l = some { cls := .type "tuple", dict := odict, data := .seq items nl, slots := oslots } := Heap.get?_push_of_some _ hol
        have f1 := sub_tup_set
        have f2 := sub_tup_frozen
        have f3 : (Value.type "tuple" == Value.type "dict") = false := by decide
        have tup1 : IsTup (s.heap.push (emptySet led)) l items := ⟨_, hol', rfl, nl, rfl⟩
        unfold Builtin.«set.__init__» noKeywords Builtin.Frozenset.updateFrom
        generalize hPI : pyIter = PI
        wp_walk
        subst hPI
        have lS : l < s.heap.objs.size := Heap.lt_size hol
        have sz1 : (s.heap.push (emptySet led)).objs.size = s.heap.objs.size + 1 := Heap.size_push ..
        refine iter_anyT tup1 fun st3 e3 it ne3 => ?_
        subst e3
        refine wpAny_bind (wpAny_runValue ?_)
        have free : s.heap.objs.size ∉ [(s.heap.push (emptySet led)).objs.size, l] := by
          rw [sz1]; simp only [List.mem_cons, List.not_mem_nil, or_false, not_or]
          exact ⟨Nat.ne_of_lt (Nat.lt_succ_self _), Nat.ne_of_gt lS⟩
        refine codeAny_set_update_loopS ((Walks.tuple (A := A.in1.in1.in1) (by simp [noExc]) _ l ne3 items).toS) s.heap.objs.size free (fun i => ns.getD i 0) (fun i v e => IntsAre.int_at isI i v (by rw [Array.getElem?_toList]; exact e)) few (items.size - 0) 0 _ (by omega) (Nat.zero_le _) it ?first ?rest
        case first =>
          exact SetOf_congr ((setObjOf_fresh (knd := intKind prog w) led).setOf (Heap.get?_push_of_some _ atS) (by unfold scanBound; omega)) (fun _ => rfl) rfl
        case rest =>
          intro st4 mv fin4
          obtain ⟨hp4, g4, d4, tk4, os4⟩ := st4
          have q1 : g4 = s.gens := mv.gens
          have q2 : d4 = s.drawn := mv.drawn
          have q3 : os4 = s.os := mv.os
          subst q1; subst q2; subst q3
          show wpAny _ _ _ _ _ _
          refine wpAny_pure ?_
          show wpAny _ _ (ret Value.none) _ _ _
          refine wpAny_pure ⟨rfl, hp4, tk4, rfl, fin4, fun c u lt e => ?_⟩
          exact mv.heap c u (by rw [sz1]; simp only [List.mem_cons, List.not_mem_nil, or_false, not_or]; exact ⟨Nat.ne_of_lt lt, Nat.ne_of_lt (Nat.lt_succ_of_lt lt)⟩) (Heap.get?_push_of_some _ (Heap.get?_push_of_some _ e))
      · cases r2 with
        | error x => exact got2
        | ok fl2 =>
          cases fl2 with
          | ret v =>
            obtain ⟨rfl, hp, tk, rfl, a1, a2⟩ := got2
            repeat (any_goals (first | assumption | wp_step))
            exact k _ _ a1 a2
          | _ => exact got2.elim
    | _ => exact got.elim
end
end R9

namespace L2
open PySem PySem.Spec PyProof.Rows HT R9
section
variable {X : Cx}
/-- set(e) == set(f), of tuples of ints -/
def tSetEq (K : PySem.W.Frag) (ta tb : TA) : TE := fun σ H Q => ta σ H fun vs H1 => ∃ (a : Addr) (ns : List Int), vs = [.ref a] ∧ SqT K H1 a (ns.map V.int) ∧ ns.length ≤ 1000 ∧ tb σ H1 fun ws H2 => ∃ (b : Addr) (ms : List Int), ws = [.ref b] ∧ SqT K H2 b (ms.map V.int) ∧ ms.length ≤ 1000 ∧
  ∀ r : Bool, (r = true ↔ (SeenOf ns ns.length).length = (SeenOf ms ms.length).length ∧ ∀ k : Int, (SeenOf ns ns.length).any (· == k) = true → (SeenOf ms ms.length).any (· == k) = true) → Q (.bl r) H2
theorem pt_setEq {K : PySem.W.Frag} (eK : X.K = K) {ea eb : Expr} {p1 p2 q1 q2 pos : Pos} {ta tb : TA} (hc : X.calm = true) (hu : X.A.units + 64 < cLine) (hg : Gl X "set") (hm : X.mg "set" = none) (ha : PA X [ea] ta) (hb : PA X [eb] tb)
    (he1 : starEach [ea] X.env = (false, eval ea X.env) :: starEach [] X.env := by rfl) (hpl1 : (backTo q1 (starEach [] X.env)).any (·.1) = false := by rfl)
    (he2 : starEach [eb] X.env = (false, eval eb X.env) :: starEach [] X.env := by rfl) (hpl2 : (backTo q2 (starEach [] X.env)).any (·.1) = false := by rfl)
    (hk : behindInMarks .Eq (.Call (.Name "set" p2) [eb] [] q2) = false := by rfl) :
    PT X (.Compare (.Call (.Name "set" p1) [ea] [] q1) [.Eq] [.Call (.Name "set" p2) [eb] [] q2] pos) (tB (tSetEq K ta tb)) := by
  subst eK
  intro pins s σ H Q I h
  have hb0 : scanBound = 4096 := rfl
  refine wpAny_isTrue_Compare1 (wpAny_Call_Name_kw (ld_blt I hg hm (u := .type "set") (by decide +kernel) ?_)) hk
  refine PyProof.Rows.callWith_type1 (thn (ha q1 pins s σ H _ I h) fun us s1 ⟨vs, H1, I1, r1, a, ns, e1, sq1, l1, h1⟩ => ?_) he1 hpl1
  subst e1
  obtain ⟨its1, rv1, tup1, _⟩ := I1.tuple sq1
  rw [Vals.ref1 r1]
  have ii1 := rv1.ints
  have z1 : its1.toArray.size = ns.length := by rw [List.size_toArray]; exact (IntsAre.length ii1)
  refine call_setT (I1.ok.hd hc) tup1 (by simpa using ii1) (by omega) fun hp1 tk1 so1 kp1 => ?_
  rw [z1] at so1
  have I1' : Inv X pins σ H1 { s1 with heap := hp1, toks := tk1 } := I1.kept fun c u e => kp1 c u (Heap.lt_size e) e
  obtain ⟨o1, es1, ep1, tb1, ho1, rest1⟩ := so1
  have pinned : Inv X ((s1.heap.objs.size, o1) :: pins) σ H1 { s1 with heap := hp1, toks := tk1 } := { I1' with
    pin := fun p hp => by
      rcases List.mem_append.mp hp with z | z
      · exact I1'.pin p (List.mem_append_left _ z)
      · rcases List.mem_cons.mp z with z | z
        · subst z
          refine ⟨ho1, I1.hok.fresh (Nat.le_refl _), Nat.ne_of_gt I1.lt, I1.nofs (Nat.le_refl _), fun v e => ?_⟩
          have := rest1.2.1
          rw [this] at e; cases e
        · exact I1'.pin p (List.mem_append_right _ z) }
  refine wpAny_Call_Name_kw (ld_blt pinned hg hm (u := .type "set") (by decide +kernel) ?_)
  refine PyProof.Rows.callWith_type1 (thn (hb q2 _ _ σ H1 _ pinned h1) fun us2 s2 ⟨ws, H2, I2, r2, b, ms, e2, sq2, l2, h2⟩ => ?_) he2 hpl2
  subst e2
  obtain ⟨its2, rv2, tup2, _⟩ := I2.tuple sq2
  rw [Vals.ref1 r2]
  have ii2 := rv2.ints
  have z2 : its2.toArray.size = ms.length := by rw [List.size_toArray]; exact (IntsAre.length ii2)
  refine call_setT (I2.ok.hd hc) tup2 (by simpa using ii2) (by omega) fun hp2 tk2 so2 kp2 => ?_
  rw [z2] at so2
  have at1 : hp2.get? s1.heap.objs.size = some o1 := by
    have e := (I2.pin _ (List.mem_append_right _ (List.mem_cons_self ..))).1
    exact kp2 _ _ (Heap.lt_size e) e
  have I2' : Inv X pins σ H2 { s2 with heap := hp2, toks := tk2 } := { I2.kept (t' := tk2) (h' := hp2) fun c u e => kp2 c u (Heap.lt_size e) e with
    pin := fun p hp => by
      refine (I2.kept (t' := tk2) (h' := hp2) fun c u e => kp2 c u (Heap.lt_size e) e).pin p ?_
      rcases List.mem_append.mp hp with z | z
      · exact List.mem_append_left _ z
      · exact List.mem_append_right _ (List.mem_cons_of_mem _ z) }
  refine eq_sets (s := { s2 with heap := hp2, toks := tk2 }) ⟨o1, es1, ep1, tb1, at1, rest1⟩ so2 (by omega) fun r hr => ?_
  obtain ⟨c, ec, qc⟩ := h2 r hr
  cases ec
  exact wpAny_truthy_bool ⟨H2, I2', qc⟩
end
end L2

namespace Pre
open PySem PySem.Spec PyProof.Rows L2 R9
theorem seen_iff (ns : List Int) (k : Int) : (SeenOf ns ns.length).any (· == k) = true ↔ k ∈ ns := by
  unfold SeenOf
  rw [firstMet_any]
  have e : (List.range ns.length).map (fun i => ns.getD i 0) = ns := by
    refine List.ext_getElem (by rw [List.length_map, List.length_range]) fun i h1 h2 => ?_
    rw [List.getElem_map, List.getElem_range, getD_of (List.getElem?_eq_getElem h2)]
  rw [e, List.any_eq_true]
  constructor
  · rintro ⟨x, hx, ex⟩
    rw [← eq_of_beq ex]; exact hx
  · intro h
    exact ⟨k, h, beq_self_eq_true k⟩
theorem seen_rep {w ms : List Int} {c : Int} (em : ms = List.replicate w.length c) : ((SeenOf w w.length).length = (SeenOf ms ms.length).length ∧ ∀ k : Int, (SeenOf w w.length).any (· == k) = true → (SeenOf ms ms.length).any (· == k) = true) ↔ ∀ x ∈ w, x = c := by
  constructor
  · rintro ⟨_, h⟩ x hx
    have := (seen_iff ms x).mp (h x ((seen_iff w x).mpr hx))
    rw [em] at this
    exact List.eq_of_mem_replicate this
  · intro h
    have : w = ms := by rw [em]; exact List.eq_replicate_of_mem h
    rw [← this]
    exact ⟨rfl, fun _ z => z⟩
theorem pw_bdsS {l d : Nat} (ok : GOk l d) {f : Ser} {b s : Nat} (f1 : f [] = 1) (hf : WB 1 (2 ^ b) f) (hs : 3 ≤ s) {n : Int} (hn : n.natAbs ≤ 2 ^ s) : Bds (5 * (b + s + 7)) ((gw l d).map (pw7 f n)) := WB.bds1 ok (wb_pw f1 hf hs hn)
def spLet20 (C : Addr) : Sp := fun vs H Q _ => ∃ (g r : Addr) (x n : Int) (l d : Nat), vs = [.ref g, .ref r, .int x, .int n] ∧ Gr C H g l d ∧ Ws H r (gw l d) ∧ 1 ≤ x ∧ x ≤ l ∧ Sz 200 n ∧ ∀ H', Same H H' → Q (.bl true) H'
def spRight20 : Sp := fun vs H Q _ => ∃ (b : Addr) (m : Nat), vs = [.ref b] ∧ Bx H b m ∧ m ≤ 100 ∧ ∀ H', SameB b H H' → Q (.bl true) H'
end Pre

namespace Pre
open PySem PySem.Spec PyProof.Rows L2 R9
structure I20 (C b s kp g tw : Addr) (l d : Nat) (wd : List Int) (m : Nat) (H0 H : Hp) : Prop where
  gr : Gr C H g l d
  hw : WT H tw wd
  hs : WL H s ((gw l d).map (scF wd))
  hk : WL H kp ((gw l d).map (scF wd))
  bx : Bx H b m
  sb : SameB b H0 H
  ns : s ≠ b
  nk : kp ≠ b
theorem I20.same {C b s kp g tw : Addr} {l d : Nat} {wd : List Int} {m : Nat} {H0 H H' : Hp} (I : I20 C b s kp g tw l d wd m H0 H) (z : Same H H') : I20 C b s kp g tw l d wd m H0 H' :=
  ⟨I.gr.same z, I.hw.same z, z _ _ I.hs, z _ _ I.hk, I.bx.same z, I.sb.same z, I.ns, I.nk⟩
theorem I20.box {C b s kp g tw : Addr} {l d : Nat} {wd : List Int} {m m' : Nat} {H0 H H' : Hp} (I : I20 C b s kp g tw l d wd m H0 H) (z : SameB b H H') (hb : Bx H' b m') : I20 C b s kp g tw l d wd m' H0 H' :=
  ⟨I.gr.g (.box I.bx z), I.hw.sameB I.bx z, z _ _ I.ns I.hs, z _ _ I.nk I.hk, hb, I.sb.trans z, I.ns, I.nk⟩
theorem I20.mono {C b s kp g tw : Addr} {l d : Nat} {wd : List Int} {m m' : Nat} {H0 H : Hp} (I : I20 C b s kp g tw l d wd m H0 H) (h : m ≤ m') : I20 C b s kp g tw l d wd m' H0 H :=
  ⟨I.gr, I.hw, I.hs, I.hk, I.bx.mono h, I.sb, I.ns, I.nk⟩
/-- a list of its own changed in place -/
theorem I20.chg {C b s kp g tw hd : Addr} {l d : Nat} {wd w : List Int} {m : Nat} {H0 H H' : Hp} (I : I20 C b s kp g tw l d wd m H0 H) (hL : WL H hd w) (z : SameB hd H H') (n1 : s ≠ hd) (n2 : kp ≠ hd) (n3 : b ≠ hd) (z0 : SameB b H0 H') : I20 C b s kp g tw l d wd m H0 H' :=
  ⟨I.gr.g (sameG_int hL z), I.hw.chg hL z, z _ _ n1 I.hs, z _ _ n2 I.hk, I.bx.chg n3 z, z0, I.ns, I.nk⟩
theorem num_lt {n : Int} (h : (if n < 0 then -n else n) < (10 : Int) ^ (29 : Int).toNat) : n.natAbs ≤ 2 ^ 98 := by
  have e1 : (10 : Int) ^ (29 : Int).toNat = 100000000000000000000000000000 := by decide
  have p98 : (2 : Nat) ^ 98 = 316912650057057350374175801344 := by decide
  rw [e1] at h
  rw [p98]
  split at h <;> omega
theorem num_div {n : Int} (h : Sz 200 n) : (n.fdiv ((10 : Int) ^ (31 : Int).toNat)).natAbs ≤ 2 ^ 98 := by
  have e2 : (10 : Int) ^ (31 : Int).toNat = 10000000000000000000000000000000 := by decide
  have h' : n.natAbs < 2 ^ 200 := h
  have p200 : (2 : Nat) ^ 200 = 1606938044258990275541962092341162602522202993782792835301376 := by decide
  have p98 : (2 : Nat) ^ 98 = 316912650057057350374175801344 := by decide
  rw [p200] at h'
  rw [e2, p98, Int.fdiv_eq_ediv_of_nonneg _ (by decide)]
  have a1 : n / 10000000000000000000000000000000 < 316912650057057350374175801344 := Int.ediv_lt_of_lt_mul (by decide) (by omega)
  have a2 : -316912650057057350374175801344 ≤ n / 10000000000000000000000000000000 := Int.le_ediv_of_mul_le (by decide) (by omega)
  omega
end Pre

namespace Toy
open PySem PySem.Spec PyProof.Rows L2 Pre
def top (i : Nat) : Stmt := PySem.Challenge.pw_bracketwords_k20_sums_of_repeated_words.main.body.getD i (.Pass ⟨0, 0, 0, 0⟩)
section
variable {P : Program} {w : World} {K : PySem.W.Frag} {mg : Str → Option Value} {base : Heap}
abbrev s_plain_words : Stmt := top 20
theorem sc_plain_words : FnScope ["letters", "size", "found", "taken", "word", "letter"] ["letters", "size"] (defScope s_plain_words) := ⟨rfl, rfl, rfl, by decide +kernel, rfl, by decide +kernel, by decide +kernel⟩
theorem ok_plain_words {f : Addr} {fd : FuncData} (F : Fun K "plain_words" "plain_words" s_plain_words f fd) (T : Txt mg)   : FnOk P w K mg base CX0 1 f fd ["letters", "size"] spPW := by
  refine F.ok sc_plain_words (fun vs H Q E h => ?_) (fun cdv A outer s H vs Q E hr h => ?_)
  · obtain ⟨l, n, rfl, _⟩ := h
    rfl
  obtain ⟨l, n, rfl, hl, hn, q⟩ := h
  refine ⟨_, (pss_cons (ps_set (i := 2) sc_plain_words.nd rfl (Or.inl rfl) (pe_lstN (pa_cons (pe_tupN pa_nil) pa_nil)))
      (pss_cons (ps_for PassesOwn.never rfl (pi_range1 (by rfl) T.b_range (pa_cons (pv 1) pa_nil)) (pg_name (i := 3) sc_plain_words.nd rfl (Or.inl rfl)) (pss_one (ps_setLc2 (i := 2) (own := [("word", 4), ("letter", 5)]) (vs1 := [5]) (by rfl) sc_plain_words.nd rfl rfl (sw_true rfl rfl rfl (by decide +kernel)) (pi_list (pv 2)) (blkOk_by (own := [("word", 4), ("letter", 5)]) (N := ["letters", "size", "found", "taken", "word", "letter"]) (sc := defScope s_plain_words) (by decide +kernel)) (by decide) (fun _ _ _ _ _ => (pg_name (i := 4) sc_plain_words.nd rfl (Or.inl rfl))) (fun _ _ _ _ _ => pts_nil) (fun _ _ _ _ _ => (pi_range2 (by rfl) T.b_range (pa_cons pe_int (pa_cons (pe_op op_add (pv 0) pe_int) pa_nil)))) (fun _ _ _ _ _ => (pg_name (i := 5) sc_plain_words.nd rfl (Or.inl rfl))) (fun _ _ _ _ _ => pts_nil) (fun _ _ _ _ _ => (pe_op (r := R1.rCatA K) R1.op_catA (pv 4) (pe_tupN (pa_cons (pv 5) pa_nil)))))))
      (pss_one (ps_ret (pv 2))))), ?_⟩
  refine ⟨(by show 0 ≤ sizeLine; decide), fun t0 H1 f1 e1 s1 => ⟨(by show 1 ≤ sizeLine; decide), fun r0 H2 f2 e2 s2 => ?_⟩⟩
  refine ⟨_, rfl, (n : Int), rfl, by omega, by omega, ?_⟩
  refine for_range (lo := 0) (n := ((n : Nat) : Int).toNat) (fun i σ H3 => ∃ (r : Addr) (u3 u4 u5 : Option V), σ = [some (.int l), some (.int n), some (.ref r), u3, u4, u5] ∧ H r = none ∧ Ws H3 r (pw l i) ∧ Same H H3) ⟨r0, none, none, none, rfl, s1.free f2, ⟨[t0], e2, .cons (WT.same (ns := []) e1 s2) .nil⟩, s1.trans s2⟩ ?_ ?_
  · rintro i σ H3 hi ⟨r, u3, u4, u5, rfl, fr, ⟨ps0, hr, hps0⟩, s3⟩
    refine ⟨_, rfl, r, rfl, ⟨_, SqL.of hr⟩, fun D hD => ?_⟩
    have nDr : D ≠ r := (ne_of_none hr hD).symm
    have hz : (pw l i).length ≤ 1024 := by rw [pw_len]; exact pow_le hl (by omega)
    refine lcG_list (K := K) (a := r) (xs := ps0.map V.ref) (fun j H4 => Same H3 H4 ∧ ∃ ps : List Addr, H4 D = some (.lst (ps.map V.ref)) ∧ WsAt H4 ps (pwN l ((pw l i).take j))) ⟨same_new hD _, [], upd_same, .nil⟩ (fun j H4 _ p => SqL.of (p.1 _ _ hr)) ?_ ?_
    · rintro j x H4 hx ⟨s4, ps, hD4, hps⟩
      obtain ⟨p, hp, rfl⟩ := at_ref hx
      obtain ⟨ws, hws, hw⟩ := hps0.get hp
      obtain ⟨hj, ews⟩ := List.getElem?_eq_some_iff.mp hws
      have hw1 := pw_word (List.mem_of_getElem? hws)
      refine ⟨rfl, _, rfl, _, _, rfl, rfl, (1 : Int), ((l : Int) + 1), rfl, ⟨by omega, by omega, by omega, by omega⟩, ?_⟩
      refine in_range (lo := 1) (n := ((l : Int) + 1 - 1).toNat) (fun k H5 => Same H3 H5 ∧ ∃ ps : List Addr, H5 D = some (.lst (ps.map V.ref)) ∧ WsAt H5 ps (pwN l ((pw l i).take j) ++ ext1 k ws)) ⟨s4, ps, hD4, by rw [show ext1 0 ws = [] from rfl, List.append_nil]; exact hps⟩ ?_ ?_
      · rintro k H5 hk ⟨s5, ps5, hD5, hps5⟩
        refine ⟨rfl, _, rfl, _, rfl, (by show 1 ≤ sizeLine; decide), fun t1 H6 _ e6 s6 => ?_⟩
        refine cat_rd ((hw.same s5).same s6) (show WT H6 t1 [1 + (k : Int)] from e6) (by rw [hw1.1]; show i + 1 ≤ 10000; omega) fun t2 H7 h7 s7 => ?_
        have s67 := s6.trans s7
        have hD7 := s67 _ _ hD5
        have hlen : ps5.length < sizeLine := by
          rw [hps5.len, List.length_append, pwN_len, ext1_len, List.length_take]
          refine Nat.lt_of_le_of_lt (show _ ≤ 10000 from ?_) (by decide)
          have : min j (pw l i).length * l ≤ 1024 * 4 := Nat.mul_le_mul (by omega) hl
          omega
        refine ⟨_, hD7, by rw [List.length_map]; exact hlen, same_upd hD (s5.trans s67), ps5 ++ [t2], by rw [upd_same, List.map_append]; rfl, ?_⟩
        rw [ext1_take, ← List.append_assoc]
        exact WsAt.app ((hps5.same s67).updL hD7) (.cons (h7.updL hD7) .nil)
      · rintro H5 ⟨s5, ps5, hD5, hps5⟩
        refine ⟨s5, ps5, hD5, ?_⟩
        rw [pwN_take l (pw l i) j hj, ews]
        rw [show ((l : Int) + 1 - 1).toNat = l by omega] at hps5
        exact hps5
    · rintro H4 ⟨s4, ps, hD4, hps⟩
      rw [List.length_map, hps0.len, List.take_length] at hps
      exact ⟨D, _, _, _, rfl, s3.free hD, ⟨ps, hD4, hps⟩, s3.trans s4⟩
  · rintro σ H3 ⟨r, u3, u4, u5, rfl, fr, hws, s3⟩
    exact ⟨_, rfl, q r H3 fr hws s3⟩
abbrev s_words_up_to : Stmt := top 29
theorem sc_words_up_to : FnScope ["letters", "depth", "found", "size"] ["letters", "depth"] (defScope s_words_up_to) := ⟨rfl, rfl, rfl, by decide +kernel, rfl, by decide +kernel, by decide +kernel⟩
theorem ok_words_up_to {f : Addr} {fd : FuncData} (F : Fun K "words_up_to" "words_up_to" s_words_up_to f fd) (T : Txt mg)  (C_plain_words : Cal P w K mg base "plain_words" ["letters", "size"] 1 spPW) : FnOk P w K mg base CX0 2 f fd ["letters", "depth"] spWordsUp := by
  refine F.ok sc_words_up_to (fun vs H Q E h => ?_) (fun cdv A outer s H vs Q E hr h => ?_)
  · obtain ⟨l, d, rfl, _⟩ := h
    rfl
  obtain ⟨l, d, rfl, ok, q⟩ := h
  refine ⟨_, (pss_cons (ps_set (i := 2) sc_words_up_to.nd rfl (Or.inl rfl) (pe_lstN pa_nil))
      (pss_cons (ps_for PassesOwn.never rfl (pi_range1 (by rfl) T.b_range (pa_cons (pe_op op_add (pv 1) pe_int) pa_nil)) (pg_name (i := 3) sc_words_up_to.nd rfl (Or.inl rfl)) (pss_one (ps_expr (pe_bm PySem.F.plainAttrs_list PySem.F.slot_list_extend PySem.F.type_list_extend mt_extend (pv 2) (pa_cons (C_plain_words.pe (hr.mono (by decide)) (by rfl) (pa_cons (pv 0) (pa_cons (pv 3) pa_nil))) pa_nil)))))
      (pss_one (ps_ret (pv 2))))), ?_⟩
  refine ⟨(by show 0 ≤ sizeLine; decide), fun fo H1 f1 e1 s1 => ?_⟩
  have d5 := ok.d5
  have l4 := ok.l4
  refine ⟨_, rfl, _, _, rfl, rfl, ((d : Nat) : Int) + 1, rfl, by omega, by omega, ?_⟩
  have nn : (((d : Nat) : Int) + 1).toNat = d + 1 := by omega
  refine for_range (lo := 0) (n := (((d : Nat) : Int) + 1).toNat) (fun i σ H3 => ∃ (u3 : Option V) (ps : List Addr), σ = [some (.int l), some (.int d), some (.ref fo), u3] ∧ H3 fo = some (.lst (ps.map V.ref)) ∧ WsAt H3 ps ((List.range i).flatMap (pw l)) ∧ Same H H3) ⟨none, [], rfl, e1, .nil, s1⟩ ?_ ?_
  · rintro i σ H3 hi ⟨u3, ps, rfl, h3, hps, s3⟩
    rw [nn] at hi
    refine ⟨_, rfl, .inl ⟨rfl, _, SqL.of h3⟩, _, rfl, _, rfl, l, i, ?_, l4, by omega, fun r H4 fr ⟨qs, h4, hqs⟩ s4 => ?_⟩
    · show [V.int ↑l, V.int (0 + ↑i)] = _
      rw [Int.zero_add]
    have h4f := s4 _ _ h3
    have nz : fo ≠ r := ne_of_none h3 fr
    have hz : (ps.map V.ref).length + (qs.map V.ref).length ≤ sizeLine := by
      rw [List.length_map, List.length_map, hps.len, hqs.len, pw_len]
      have a1 := fm_len (l := l) l4 i (by omega)
      have a2 := pow_le (l := l) (n := i) l4 (by omega)
      exact Nat.le_trans (show _ ≤ 10000 by omega) (by decide)
    refine ⟨fo, r, _, _, rfl, rfl, h4f, h4, hz, ?_⟩
    refine ⟨_, ps ++ qs, rfl, by rw [upd_same, List.map_append], ?_, same_upd f1 (s3.trans s4)⟩
    rw [List.range_succ, List.flatMap_append]
    simp only [List.flatMap_cons, List.flatMap_nil, List.append_nil]
    exact WsAt.app ((hps.same s4).updL h4f) (hqs.updL h4f)
  · rintro σ H3 ⟨u3, ps, rfl, h3, hps, s3⟩
    rw [nn] at hps
    exact ⟨_, rfl, q fo H3 f1 ⟨ps, h3, hps⟩ s3⟩
abbrev s_joined : Stmt := top 17
theorem sc_joined : FnScope ["one", "other"] ["one", "other"] (defScope s_joined) := ⟨rfl, rfl, rfl, by decide +kernel, rfl, by decide +kernel, by decide +kernel⟩
theorem ok_joined {f : Addr} {fd : FuncData} (F : Fun K "joined" "joined" s_joined f fd) (T : Txt mg)   : FnOk P w K mg base CX0 1 f fd ["one", "other"] spJoined := by
  refine F.ok sc_joined (fun vs H Q E h => ?_) (fun cdv A outer s H vs Q E hr h => ?_)
  · obtain ⟨a, d, ns, ms, rfl, _⟩ := h
    rfl
  obtain ⟨a, d, ns, ms, rfl, ha, hd, hn, hm, q⟩ := h
  refine ⟨_, (pss_one (ps_ret (pe_op (r := R1.rCatA K) R1.op_catA (pe_callTy (r := rTupleOf K) (T := "tuple") c_tuple (by rfl) T.b_tuple (by decide +kernel) (pa_cons (pv 0) pa_nil)) (pe_callTy (r := rTupleOf K) (T := "tuple") c_tuple (by rfl) T.b_tuple (by decide +kernel) (pa_cons (pv 1) pa_nil))))), ?_⟩
  have fin : ∀ (p r : Addr) (H2 : Hp), WT H2 p ns → WT H2 r ms → Same H H2 → (R1.rCatA K) (.ref p) (.ref r) H2 Q := by
    intro p r H2 hp hr' hs
    refine ⟨p, r, _, _, rfl, rfl, SqT.of hp, SqT.of hr', ?_, fun e => ?_, fun e e2 => ?_, fun e e2 t ht => ?_⟩
    · rw [List.length_map, List.length_map]; exact small (by omega)
    · have e' : ns = [] := List.map_eq_nil_iff.mp e
      exact q r H2 (by rw [e', List.nil_append]; exact hr') hs
    · have e' : ms = [] := List.map_eq_nil_iff.mp e2
      exact q p H2 (by rw [e', List.append_nil]; exact hp) hs
    · refine q t _ ?_ (hs.trans (same_new ht _))
      show upd H2 t _ t = _
      rw [upd_same, List.map_append]
  have snd : ∀ (p : Addr) (H1 : Hp), WT H1 p ns → Same H H1 → Wd H1 d ms → ∃ r ys, [V.ref d] = [V.ref r] ∧ ((SqL K H1 r ys ∧ ∀ l, H1 l = none → (R1.rCatA K) (.ref p) (.ref l) (upd H1 l (.tup ys)) Q) ∨ (SqT K H1 r ys ∧ (R1.rCatA K) (.ref p) (.ref r) H1 Q)) := by
    intro p H1 hp hs hd1
    rcases hd1 with hd1 | hd1
    · exact ⟨d, _, rfl, .inr ⟨SqT.of hd1, fin p d H1 hp hd1 hs⟩⟩
    · exact ⟨d, _, rfl, .inl ⟨SqL.of hd1, fun l hl => fin p l _ (hp.same (same_new hl _)) upd_same (hs.trans (same_new hl _))⟩⟩
  rcases ha with ha | ha
  · exact ⟨_, rfl, a, _, rfl, .inr ⟨SqT.of ha, ⟨_, rfl, snd a H ha (Same.refl H) hd⟩⟩⟩
  · exact ⟨_, rfl, a, _, rfl, .inl ⟨SqL.of ha, fun l hl => ⟨_, rfl, snd l _ upd_same (same_new hl _) (hd.same (same_new hl _))⟩⟩⟩
abbrev s_turns : Stmt := top 22
theorem sc_turns : FnScope ["word", "at"] ["word"] (defScope s_turns) := ⟨rfl, rfl, rfl, by decide +kernel, rfl, by decide +kernel, by decide +kernel⟩
theorem ok_turns {f : Addr} {fd : FuncData} (F : Fun K "turns" "turns" s_turns f fd) (T : Txt mg)  (C_joined : Cal P w K mg base "joined" ["one", "other"] 1 spJoined) : FnOk P w K mg base CX0 2 f fd ["word"] spTurnsS := by
  refine F.ok sc_turns (fun vs H Q E h => ?_) (fun cdv A outer s H vs Q E hr h => ?_)
  · obtain ⟨a, ns, rfl, _⟩ := h
    rfl
  obtain ⟨a, ns, rfl, ha, hn, q⟩ := h
  refine ⟨_, (pss_one (ps_ret (pe_lc (own := [("at", 1)]) (by rfl) sc_turns.nd (pi_range1 (by rfl) T.b_range (pa_cons (pe_callB (r := rLen K) (id := "len") c_len (by rfl) T.b_len (by decide +kernel) (pa_cons (pv 0) pa_nil)) pa_nil)) (blkOk_by (own := [("at", 1)]) (N := ["word", "at"]) (sc := defScope s_turns) (by decide +kernel)) (fun _ _ _ _ _ => (pg_name (i := 1) sc_turns.nd rfl (Or.inl rfl))) (fun _ _ _ _ _ => pts_nil) (fun _ _ _ _ _ => (C_joined.pe (hr.mono (by decide)) (by rfl) (pa_cons (pe_slice (r := R3.rSlS K) R3.sl_seq (pv 0) (po_some (pv 1)) po_none) (pa_cons (pe_slice (r := R3.rSlS K) R3.sl_seq (pv 0) po_none (po_some (pv 1))) pa_nil))))))), ?_⟩
  refine ⟨_, rfl, ?_⟩
  dsimp only [tNil]
  refine len_rd ha ⟨_, rfl, by omega, by omega, fun D hD => ?_⟩
  refine lc_range (lo := 0) (n := ((ns.length : Nat) : Int).toNat) (fun i H2 => Same H H2 ∧ ∃ ps : List Addr, H2 D = some (.lst (ps.map V.ref)) ∧ WsAt H2 ps ((List.range i).map (turnAt ns))) ⟨same_new hD _, [], upd_same, .nil⟩ ?_ ?_
  · rintro i H2 hi ⟨s2, ps, hD2, hps⟩
    refine ⟨rfl, _, rfl, _, rfl, _, rfl, ?_⟩
    dsimp only [tNoPart]
    refine slS_rd (ha.same s2) fun c1 H3 h3 s3 => ?_
    refine ⟨_, rfl, _, rfl, _, rfl, ?_⟩
    refine slS_rd (ha.same (s2.trans s3)) fun c2 H4 h4 s4 => ?_
    rw [Int.zero_add, cutI_from] at h3
    rw [Int.zero_add, cutI_to] at h4
    refine ⟨c1, c2, _, _, rfl, h3.same s4, h4, by rw [List.length_drop]; omega, by rw [List.length_take]; omega, fun t H5 h5 s5 => ?_⟩
    have s25 := s3.trans (s4.trans s5)
    refine ⟨_, s25 _ _ hD2, ?_, same_upd hD (s2.trans s25), ps ++ [t], ?_, ?_⟩
    · rw [List.length_map, hps.len, List.length_map, List.length_range]; exact Nat.lt_of_le_of_lt (show i ≤ 1000 by omega) (by decide)
    · rw [upd_same, List.map_append]; rfl
    · rw [turns_take]
      exact WsAt.app ((hps.same s25).updL (s25 _ _ hD2)) (.cons (WT.updL h5 (s25 _ _ hD2)) .nil)
  · rintro H2 ⟨s2, ps, hD2, hps⟩
    exact q D H2 hD ⟨ps, hD2, hps⟩ s2
abbrev s_is_turnword : Stmt := top 23
theorem sc_is_turnword : FnScope ["word", "plain", "turn"] ["word"] (defScope s_is_turnword) := ⟨rfl, rfl, rfl, by decide +kernel, rfl, by decide +kernel, by decide +kernel⟩
theorem ok_is_turnword {f : Addr} {fd : FuncData} (F : Fun K "is_turnword" "is_turnword" s_is_turnword f fd) (T : Txt mg)  (C_turns : Cal P w K mg base "turns" ["word"] 2 spTurnsS) : FnOk P w K mg base CX0 3 f fd ["word"] spTwS := by
  refine F.ok sc_is_turnword (fun vs H Q E h => ?_) (fun cdv A outer s H vs Q E hr h => ?_)
  · obtain ⟨a, ns, rfl, _⟩ := h
    rfl
  obtain ⟨a, ns, rfl, ha0, hn, q⟩ := h
  refine ⟨_, (pss_cons (ps_set (i := 1) sc_is_turnword.nd rfl (Or.inr rfl) (pe_callTy (r := rTupleOf K) (T := "tuple") c_tuple (by rfl) T.b_tuple (by decide +kernel) (pa_cons (pv 0) pa_nil)))
      (pss_one (ps_ret (pe_and (pe_cmpR op_gt (pe_callB (r := rLen K) (id := "len") c_len (by rfl) T.b_len (by decide +kernel) (pa_cons (pv 1) pa_nil)) pe_int (nomark _)) (pe_one (pe_callB (r := rAll K) (id := "all") (cr_all rfl) (by rfl) T.b_all (by decide +kernel) (pa_cons (pe_lc (own := [("turn", 2)]) (by rfl) sc_is_turnword.nd (pi_list (pe_slice (r := rSlL K) sl_list (C_turns.pe (hr.mono (by decide)) (by rfl) (pa_cons (pv 1) pa_nil)) (po_some pe_int) po_none)) (blkOk_by (own := [("turn", 2)]) (N := ["word", "plain", "turn"]) (sc := defScope s_is_turnword) (by decide +kernel)) (fun _ _ _ _ _ => (pg_name (i := 2) sc_is_turnword.nd rfl (Or.inl rfl))) (fun _ _ _ _ _ => pts_nil) (fun _ _ _ _ _ => (pe_cmpR (r := rLtT K) (op_ltT hr.units0) (pv 1) (pv 2) (nomark _)))) pa_nil))))))), ?_⟩
  refine ⟨_, rfl, ?_⟩
  dsimp only [tNil]
  refine tup_rd ha0 fun pl H1 ha s1 => ?_
  refine ⟨_, rfl, ?_⟩
  dsimp only [tNil]
  refine len_rd (.inl ha) ⟨_, _, rfl, rfl, _, rfl, ?_⟩
  refine ite2 (fun z => ?_) (fun z => ?_)
  · have hne : ns ≠ [] := by
      have z' : (0 : Int) < (ns.length : Nat) := of_decide_eq_true z
      intro e
      rw [e] at z'
      exact absurd z' (by decide)
    refine ⟨_, rfl, pl, ns, rfl, .inl ha, hn, fun r H2 _ ⟨ps, hr2, hps⟩ s2 => ?_⟩
    dsimp only [tNoPart]
    refine ⟨_, rfl, r, _, rfl, SqL.of hr2, fun r2 hr3 => ?_⟩
    have s3 := same_new hr3 (.lst (cutV (ps.map V.ref) (some 1) none))
    have e3 : upd H2 r2 (.lst (cutV (ps.map V.ref) (some 1) none)) r2 = some (.lst ((ps.drop 1).map V.ref)) := by rw [upd_same]; exact congrArg (fun z => some (HO.lst z)) (cutV_from ps 1)
    generalize upd H2 r2 (.lst (cutV (ps.map V.ref) (some 1) none)) = H3 at s3 e3
    have hps3 := (hps.same s3).drop 1
    refine ⟨r2, rfl, ⟨_, SqL.of e3⟩, fun D hD => ?_⟩
    refine lc_list (K := K) (a := r2) (xs := (ps.drop 1).map V.ref) (fun i H4 => Same H3 H4 ∧ H4 D = some (.lst (((((turnsOf ns).drop 1).take i).map (HT.lexLt ns)).map V.bl))) ⟨same_new hD _, upd_same⟩ (fun i H4 _ p => SqL.of (p.1 _ _ e3)) ?_ ?_
    · rintro i x H4 hx ⟨s4, hD4⟩
      obtain ⟨p, hp, rfl⟩ := at_ref hx
      obtain ⟨ws, hws, hw⟩ := hps3.get hp
      obtain ⟨hi, ews⟩ := List.getElem?_eq_some_iff.mp hws
      have hi2 : i < 1000 := by rw [List.length_drop] at hi; unfold turnsOf at hi; rw [List.length_map, List.length_range] at hi; omega
      refine ⟨rfl, _, rfl, _, rfl, lt_rd (ha.same (s2.trans (s3.trans s4))) (hw.same s4) ⟨_, hD4, ?_, same_upd hD s4, ?_⟩⟩
      · rw [List.length_map, List.length_map, List.length_take]; exact Nat.lt_of_le_of_lt (show min i _ ≤ 1000 by omega) (by decide)
      · rw [upd_same, List.take_succ_eq_append_getElem hi, List.map_append, List.map_append, ews]; rfl
    · rintro H4 ⟨s4, hD4⟩
      rw [List.length_map, hps3.len, List.take_length] at hD4
      refine ⟨D, _, rfl, SqL.of hD4, ?_⟩
      have e : tw ns = ((((turnsOf ns).drop 1).map (HT.lexLt ns)).all id) := by
        unfold tw
        rw [List.all_map]
        cases ns with
        | nil => exact absurd rfl hne
        | cons _ _ => rfl
      rw [← e]
      exact q H4 (s1.trans (s2.trans (s3.trans s4)))
  · have hne : ns = [] := by
      have z' : ¬ (0 : Int) < (ns.length : Nat) := of_decide_eq_false (Bool.eq_false_iff.mpr z)
      exact List.length_eq_zero_iff.mp (by omega)
    subst hne
    exact q H1 s1
abbrev s_all_partings : Stmt := top 30
theorem sc_all_partings : FnScope ["words", "numbers", "number", "word", "at"] ["words"] (defScope s_all_partings) := ⟨rfl, rfl, rfl, by decide +kernel, rfl, by decide +kernel, by decide +kernel⟩
theorem ok_all_partings {f : Addr} {fd : FuncData} (F : Fun K "all_partings" "all_partings" s_all_partings f fd) (T : Txt mg)   : FnOk P w K mg base CX0 1 f fd ["words"] spPartings := by
  refine F.ok sc_all_partings (fun vs H Q E h => ?_) (fun cdv A outer s H vs Q E hr h => ?_)
  · obtain ⟨a, ws, rfl, _⟩ := h
    rfl
  obtain ⟨a, ws, rfl, ha, C, q⟩ := h
  refine ⟨_, (pss_cons (ps_set (i := 1) sc_all_partings.nd rfl (Or.inr rfl) (pe_dc (o0 := .dT []) (g := gTup K 2 (gCons (gName 2) (gCons (gName 3) gNil))) (own := [("number", 2), ("word", 3)]) (.inr rfl) (hu_of hr) (by rfl) sc_all_partings.nd (pi_enum (by rfl) T.b_enumerate (pa_cons (pv 0) pa_nil)) (blkOk_by (own := [("number", 2), ("word", 3)]) (N := ["words", "numbers", "number", "word", "at"]) (sc := defScope s_all_partings) (by decide +kernel)) (fun _ _ _ _ _ => (pg_tup (by rfl) (pgs_cons (pg_name (i := 2) sc_all_partings.nd rfl (Or.inl rfl)) (pgs_cons (pg_name (i := 3) sc_all_partings.nd rfl (Or.inl rfl)) pgs_nil)))) (fun _ _ _ _ _ => pts_nil) (fun _ _ _ _ _ => (pv 3)) (fun _ _ _ _ _ => (pv 2))))
      (pss_one (ps_ret (pe_callTy (r := rTupleOf K) (T := "tuple") c_tuple (by rfl) T.b_tuple (by decide +kernel) (pa_cons (pe_lc (own := [("word", 3)]) (by rfl) sc_all_partings.nd (pi_list (pv 0)) (blkOk_by (own := [("word", 3)]) (N := ["words", "numbers", "number", "word", "at"]) (sc := defScope s_all_partings) (by decide +kernel)) (fun _ _ _ _ _ => (pg_name (i := 3) sc_all_partings.nd rfl (Or.inr rfl))) (fun _ _ _ _ _ => pts_nil) (fun _ _ _ _ _ => (pe_callTy (r := rTupleOf K) (T := "tuple") c_tuple (by rfl) T.b_tuple (by decide +kernel) (pa_cons (pe_lc (own := [("at", 4)]) (by rfl) sc_all_partings.nd (pi_range1 (by rfl) T.b_range (pa_cons (pe_op op_add (pe_callB (r := rLen K) (id := "len") c_len (by rfl) T.b_len (by decide +kernel) (pa_cons (pv 3) pa_nil)) pe_int) pa_nil)) (blkOk_by (own := [("at", 4)]) (N := ["words", "numbers", "number", "word", "at"]) (by rfl)) (fun _ _ _ _ _ => (pg_name (i := 4) sc_all_partings.nd rfl (Or.inl rfl))) (fun _ _ _ _ _ => pts_nil) (fun _ _ _ _ _ => (pe_tupN (pa_cons (pe_dget (hu_of hr) (pv 1) (pe_slice (r := R3.rSlA K) R3.sl_tupA (pv 3) po_none (po_some (pv 4))) (fun _ _ => rfl)) (pa_cons (pe_dget (hu_of hr) (pv 1) (pe_slice (r := R3.rSlA K) R3.sl_tupA (pv 3) (po_some (pv 4)) po_none) (fun _ _ => rfl)) pa_nil))))) pa_nil)))) pa_nil))))), ?_⟩
  obtain ⟨ps, hra, hps⟩ := ha
  refine ⟨_, rfl, a, _, rfl, SqL.of hra, fun D hD => ?_⟩
  refine R9.dc_enum (K := K) (a := a) (xs := ps.map V.ref) (fun i H2 => Same H H2 ∧ H2 D = some (.dT (numT (ws.take i)))) ⟨same_new hD _, upd_same⟩ (fun i H2 p => SqL.of (p.1 _ _ hra)) ?_ ?_
  · rintro i x T H2 hx hT ⟨s2, hD2⟩
    obtain ⟨p, hp, rfl⟩ := at_ref hx
    obtain ⟨w, hw, hpw⟩ := hps.get hp
    obtain ⟨hi, ew⟩ := List.getElem?_eq_some_iff.mp hw
    subst ew
    have sT := same_new hT (.tup [.int (i : Nat), .ref p])
    refine ⟨T, _, rfl, SqT.of upd_same, rfl, _, _, rfl, _, _, rfl, rfl, rfl, _, rfl, _, rfl, _, num_step C.nd (Nat.le_trans C.len (by decide)) hi (sT _ _ hD2) ((hpw.same s2).same sT), same_upd hD (s2.trans sT), upd_same⟩
  rintro H2 ⟨s2, hD2⟩
  rw [List.length_map, hps.len, List.take_length] at hD2
  have hra2 := s2 _ _ hra
  refine ⟨_, rfl, a, rfl, ⟨_, SqL.of hra2⟩, fun D2 hD2n => ?_⟩
  refine lc_list (K := K) (a := a) (xs := ps.map V.ref) (fun j H3 => Same H2 H3 ∧ ∃ qs : List Addr, H3 D2 = some (.lst (qs.map V.ref)) ∧ Paired (Prs H3) qs ((prt ws).take j)) ⟨same_new hD2n _, [], upd_same, .nil⟩ (fun j H3 _ p => SqL.of (p.1 _ _ hra2)) ?_ ?_
  · rintro j x H3 hx ⟨s3, qs, hq3, hqs⟩
    obtain ⟨p, hp, rfl⟩ := at_ref hx
    obtain ⟨w, hw, hpw⟩ := hps.get hp
    obtain ⟨hj, ew⟩ := List.getElem?_eq_some_iff.mp hw
    have hwm := List.mem_of_getElem? hw
    have hw10 := C.siz w hwm
    have hw3 := hpw.same (s2.trans s3)
    refine ⟨rfl, _, rfl, ?_⟩
    dsimp only [tNil]
    refine len_rd (.inl hw3) ⟨_, _, rfl, rfl, ((w.length : Nat) : Int) + 1, rfl, by omega, by omega, fun D3 hD3n => ?_⟩
    have nn : (((w.length : Nat) : Int) + 1).toNat = w.length + 1 := by omega
    refine lc_range (lo := 0) (n := (((w.length : Nat) : Int) + 1).toNat) (fun k H4 => Same H3 H4 ∧ ∃ rs : List Addr, H4 D3 = some (.lst (rs.map V.ref)) ∧ Paired (PrAt H4) rs ((prtW ws w).take k)) ⟨same_new hD3n _, [], upd_same, .nil⟩ ?_ ?_
    · rintro k H4 hk ⟨s4, rs, hr4, hrs⟩
      rw [nn] at hk
      refine ⟨rfl, _, rfl, _, rfl, _, rfl, _, rfl, ?_⟩
      dsimp only [tNoPart]
      refine slT_rd (hw3.same s4) fun c1 H5 h5 s5 => ?_
      rw [Int.zero_add, cutI_to] at h5
      refine ⟨D, _, rfl, num_get ((s3.trans (s4.trans s5)) _ _ hD2) h5 (C.tk w hwm k), ?_⟩
      refine ⟨_, rfl, _, rfl, _, rfl, _, rfl, ?_⟩
      dsimp only [tNoPart]
      refine slT_rd (hw3.same (s4.trans s5)) fun c2 H6 h6 s6 => ?_
      rw [Int.zero_add, cutI_from] at h6
      refine ⟨D, _, rfl, num_get ((s3.trans (s4.trans (s5.trans s6))) _ _ hD2) h6 (C.dr w hwm k), ?_⟩
      refine ⟨(by show 2 ≤ sizeLine; decide), fun t H7 _ e7 s7 => ?_⟩
      have s47 := s5.trans (s6.trans s7)
      have hr7 := s47 _ _ hr4
      have ln : (prtW ws w).length = w.length + 1 := by unfold prtW; rw [List.length_map, List.length_range]
      have hk2 : k < (prtW ws w).length := by omega
      have lrs := Paired.length hrs
      rw [List.length_take, ln] at lrs
      refine ⟨_, hr7, by rw [List.length_map]; exact Nat.lt_of_le_of_lt (show rs.length ≤ 1000 by omega) (by decide), same_upd hD3n (s4.trans s47), rs ++ [t], by rw [upd_same, List.map_append]; rfl, ?_⟩
      rw [List.take_succ_eq_append_getElem hk2]
      refine paired_app (Paired.imp' (fun _ _ z => (z.t (.of s47)).t (.updL hr7)) hrs) (PrAt.t ?_ (.updL hr7))
      have ek : (prtW ws w)[k] = (ws.idxOf (w.take k), ws.idxOf (w.drop k)) := prtW_at ws w hk2
      rw [ek]
      exact e7
    · rintro H4 ⟨s4, rs, hr4, hrs⟩
      have ln : (prtW ws w).length = w.length + 1 := by unfold prtW; rw [List.length_map, List.length_range]
      rw [nn, ← ln, List.take_length] at hrs
      refine ⟨D3, _, rfl, .inl ⟨SqL.of hr4, fun t ht => ?_⟩⟩
      have s5 := same_new ht (.tup (rs.map V.ref))
      have hq5 := (s4.trans s5) _ _ hq3
      have lqs := Paired.length hqs
      have lprt : (prt ws).length = ws.length := by unfold prt; rw [List.length_map]
      rw [List.length_take, lprt] at lqs
      have hl := C.len
      refine ⟨_, hq5, by rw [List.length_map]; exact Nat.lt_of_le_of_lt (show qs.length ≤ 1000 by omega) (by decide), same_upd hD2n (s3.trans (s4.trans s5)), qs ++ [t], by rw [upd_same, List.map_append]; rfl, ?_⟩
      have hj2 : j < (prt ws).length := by omega
      rw [List.take_succ_eq_append_getElem hj2]
      refine paired_app (Paired.imp' (fun _ _ z => (z.t (.of (s4.trans s5))).t (.updL hq5)) hqs) (Prs.t ?_ (.updL hq5))
      have ej : (prt ws)[j] = prtW ws w := prt_at hw hj2
      rw [ej]
      exact ⟨rs, upd_same, Paired.imp' (fun _ _ z => z.t (.of s5)) hrs⟩
  · rintro H3 ⟨s3, qs, hq3, hqs⟩
    have lprt : (prt ws).length = ws.length := by unfold prt; rw [List.length_map]
    rw [List.length_map, hps.len, ← lprt, List.take_length] at hqs
    refine ⟨D2, _, rfl, .inl ⟨SqL.of hq3, fun t ht => ?_⟩⟩
    have s4 := same_new ht (.tup (qs.map V.ref))
    exact q t _ ⟨qs, upd_same, Paired.imp' (fun _ _ z => z.t (.of s4)) hqs⟩ (s2.trans (s3.trans s4))
abbrev s_all_endings : Stmt := top 31
theorem sc_all_endings : FnScope ["words", "numbers", "letters", "number", "word", "letter"] ["words"] (defScope s_all_endings) := ⟨rfl, rfl, rfl, by decide +kernel, rfl, by decide +kernel, by decide +kernel⟩
theorem ok_all_endings {f : Addr} {fd : FuncData} (F : Fun K "all_endings" "all_endings" s_all_endings f fd) (T : Txt mg)   : FnOk P w K mg base CX0 1 f fd ["words"] spEndings := by
  refine F.ok sc_all_endings (fun vs H Q E h => ?_) (fun cdv A outer s H vs Q E hr h => ?_)
  · obtain ⟨a, ws, rfl, _⟩ := h
    rfl
  obtain ⟨a, ws, rfl, ha, C, q⟩ := h
  refine ⟨_, (pss_cons (ps_set (i := 1) sc_all_endings.nd rfl (Or.inr rfl) (pe_dc (o0 := .dT []) (g := gTup K 2 (gCons (gName 3) (gCons (gName 4) gNil))) (own := [("number", 3), ("word", 4)]) (.inr rfl) (hu_of hr) (by rfl) sc_all_endings.nd (pi_enum (by rfl) T.b_enumerate (pa_cons (pv 0) pa_nil)) (blkOk_by (own := [("number", 3), ("word", 4)]) (N := ["words", "numbers", "letters", "number", "word", "letter"]) (sc := defScope s_all_endings) (by decide +kernel)) (fun _ _ _ _ _ => (pg_tup (by rfl) (pgs_cons (pg_name (i := 3) sc_all_endings.nd rfl (Or.inl rfl)) (pgs_cons (pg_name (i := 4) sc_all_endings.nd rfl (Or.inl rfl)) pgs_nil)))) (fun _ _ _ _ _ => pts_nil) (fun _ _ _ _ _ => (pv 4)) (fun _ _ _ _ _ => (pv 3))))
      (pss_cons (ps_setLc (i := 2) (own := [("word", 4)]) (by rfl) sc_all_endings.nd rfl rfl (sw_true rfl rfl rfl (by decide +kernel)) (pi_list (pv 0)) (blkOk_by (own := [("word", 4)]) (N := ["words", "numbers", "letters", "number", "word", "letter"]) (sc := defScope s_all_endings) (by decide +kernel)) (fun _ _ _ _ _ => (pg_name (i := 4) sc_all_endings.nd rfl (Or.inl rfl))) (fun _ _ _ _ _ => (pts_one (pt_cmpR op_eq (pe_callB (r := rLen K) (id := "len") c_len (by rfl) T.b_len (by decide +kernel) (pa_cons (pv 4) pa_nil)) pe_int (nomark _)))) (fun _ _ _ _ _ => (pe_ix (r := rIxT K) ix_tup (pv 4) pe_int (fun _ _ => rfl))))
      (pss_one (ps_ret (pe_dc (o0 := .dK []) (own := [("letter", 5)]) (.inl rfl) (hu_of hr) (by rfl) sc_all_endings.nd (pi_list (pv 2)) (blkOk_by (own := [("letter", 5)]) (N := ["words", "numbers", "letters", "number", "word", "letter"]) (sc := defScope s_all_endings) (by decide +kernel)) (fun _ _ _ _ _ => (pg_name (i := 5) sc_all_endings.nd rfl (Or.inr rfl))) (fun _ _ _ _ _ => pts_nil) (fun _ _ _ _ _ => (pv 5)) (fun _ _ _ _ _ => (pe_callTy (r := rTupleOf K) (T := "tuple") c_tuple (by rfl) T.b_tuple (by decide +kernel) (pa_cons (pe_lc (own := [("word", 4)]) (by rfl) sc_all_endings.nd (piL (K := K) rfl (pv 0)) (blkOk_by (own := [("word", 4)]) (N := ["words", "numbers", "letters", "number", "word", "letter"]) (by rfl)) (fun _ _ _ _ _ => (pg_name (i := 4) sc_all_endings.nd rfl (Or.inl rfl))) (fun _ _ _ _ _ => (pts_one (pt_cmpR (r := rEqD K) (op_eqD hr.units) (pe_slice (r := R3.rSlA K) R3.sl_tupA (pv 4) (po_some (pe_un un_neg pe_int)) po_none) (pe_tupN (pa_cons (pv 5) pa_nil)) (nomark _)))) (fun _ _ _ _ _ => (pe_tupN (pa_cons (pe_dget (hu_of hr) (pv 1) (pv 4) (fun _ _ => rfl)) (pa_cons (pe_dget (hu_of hr) (pv 1) (pe_slice (r := R3.rSlA K) R3.sl_tupA (pv 4) po_none (po_some (pe_un un_neg pe_int))) (fun _ _ => rfl)) pa_nil))))) pa_nil)))))))), ?_⟩
  obtain ⟨ps, hra, hps⟩ := ha
  have pl := hps.len
  have hl := C.len
  refine ⟨_, rfl, a, _, rfl, SqL.of hra, fun D hD => ?_⟩
  refine R9.dc_enum (K := K) (a := a) (xs := ps.map V.ref) (fun i H2 => Same H H2 ∧ H2 D = some (.dT (numT (ws.take i)))) ⟨same_new hD _, upd_same⟩ (fun i H2 p => SqL.of (p.1 _ _ hra)) ?_ ?_
  · rintro i x T H2 hx hT ⟨s2, hD2⟩
    obtain ⟨p, hp, rfl⟩ := at_ref hx
    obtain ⟨w, hw, hpw⟩ := hps.get hp
    obtain ⟨hi, ew⟩ := List.getElem?_eq_some_iff.mp hw
    subst ew
    have sT := same_new hT (.tup [.int (i : Nat), .ref p])
    refine ⟨T, _, rfl, SqT.of upd_same, rfl, _, _, rfl, _, _, rfl, rfl, rfl, _, rfl, _, rfl, _, num_step C.nd (Nat.le_trans C.len (by decide)) hi (sT _ _ hD2) ((hpw.same s2).same sT), same_upd hD (s2.trans sT), upd_same⟩
  rintro H2 ⟨s2, hD2⟩
  rw [List.length_map, pl, List.take_length] at hD2
  have hra2 := s2 _ _ hra
  -- the letters
  refine ⟨_, rfl, a, rfl, ⟨_, SqL.of hra2⟩, fun L hL => ?_⟩
  refine lc_list (K := K) (a := a) (xs := ps.map V.ref) (fun i H3 => Same H2 H3 ∧ H3 L = some (.lst ((ltrs (ws.take i)).map V.int))) ⟨same_new hL _, upd_same⟩ (fun i H3 _ p => SqL.of (p.1 _ _ hra2)) ?_ ?_
  · rintro i x H3 hx ⟨s3, hL3⟩
    obtain ⟨p, hp, rfl⟩ := at_ref hx
    obtain ⟨w, hw, hpw⟩ := hps.get hp
    obtain ⟨hi, ew⟩ := List.getElem?_eq_some_iff.mp hw
    have hw3 := hpw.same (s2.trans s3)
    refine ⟨rfl, _, rfl, ?_⟩
    dsimp only [tNil]
    refine len_rd (.inl hw3) ⟨rfl, _, rfl, ?_⟩
    have lt := ltrs_take hi
    rw [ew] at lt
    refine ite2 (fun z => ?_) (fun z => ?_)
    · have z1 : w.length = 1 := by
        have := of_decide_eq_true z
        injection this with this
        omega
      obtain ⟨y, rfl⟩ := List.length_eq_one_iff.mp z1
      rw [if_pos z1] at lt
      refine ⟨_, rfl, p, _, 0, .int y, rfl, rfl, SqT.of hw3, by rfl, _, hL3, ?_, same_upd hL s3, ?_⟩
      · rw [List.length_map]
        have := ltrs_len (ws.take i)
        rw [List.length_take] at this
        exact Nat.lt_of_le_of_lt (show _ ≤ 1000 by omega) (by decide)
      · rw [upd_same, lt, List.map_append]; rfl
    · have z1 : w.length ≠ 1 := by
        intro e
        have := of_decide_eq_false (Bool.eq_false_iff.mpr z)
        apply this
        rw [e]; rfl
      rw [if_neg z1, List.append_nil] at lt
      exact ⟨s3, by rw [lt]; exact hL3⟩
  rintro H3 ⟨s3, hL3⟩
  rw [List.length_map, pl, List.take_length] at hL3
  have hra3 := s3 _ _ hra2
  have hD3 := s3 _ _ hD2
  have lle := ltrs_len ws
  -- their endings
  refine ⟨_, rfl, L, rfl, ⟨_, SqL.of hL3⟩, fun E3 hE3 => ?_⟩
  refine R9.dc_list (K := K) (a := L) (xs := (ltrs ws).map V.int) (fun i H4 => Same H3 H4 ∧ EndD H4 E3 ws ((ltrs ws).take i)) ⟨same_new hE3 _, [], upd_same, Nat.zero_le _, fun x hx => absurd hx (by simp), fun _ _ => rfl⟩ (fun i H4 p => SqL.of (p.1 _ _ hL3)) ?_ ?_
  · rintro i x H4 hx ⟨s4, hE4⟩
    obtain ⟨hi, rfl⟩ := at_int hx
    generalize hy : (ltrs ws)[i] = y
    have hra4 := s4 _ _ hra3
    refine ⟨rfl, _, rfl, _, rfl, a, rfl, ⟨_, SqL.of hra4⟩, fun D4 hD4 => ?_⟩
    refine lc_list (K := K) (a := a) (xs := ps.map V.ref) (fun j H5 => Same H4 H5 ∧ ∃ qs : List Addr, H5 D4 = some (.lst (qs.map V.ref)) ∧ Paired (PrAt H5) qs (endG ws y (ws.take j))) ⟨same_new hD4 _, [], upd_same, .nil⟩ (fun j H5 _ p => SqL.of (p.1 _ _ hra4)) ?_ ?_
    · rintro j x H5 hx ⟨s5, qs, hq5, hqs⟩
      obtain ⟨p, hp, rfl⟩ := at_ref hx
      obtain ⟨w, hw, hpw⟩ := hps.get hp
      obtain ⟨hj, ew⟩ := List.getElem?_eq_some_iff.mp hw
      have hwm := List.mem_of_getElem? hw
      have hw5 := hpw.same (s2.trans (s3.trans (s4.trans s5)))
      have lt := endG_take (ws := ws) (x := y) hj
      rw [ew] at lt
      refine ⟨rfl, _, rfl, _, rfl, _, rfl, ?_⟩
      dsimp only [tNoPart]
      refine slT_rd hw5 fun c6 H6 h6 s6 => ?_
      rw [cutI_last] at h6
      refine ⟨_, rfl, (by show 1 ≤ sizeLine; decide), fun t7 H7 _ e7 s7 => ?_⟩
      refine eq_rd (h6.same s7) (show WT H7 t7 [y] from e7) ⟨_, rfl, ?_⟩
      have s57 := s5.trans (s6.trans s7)
      have hq7 := (s6.trans s7) _ _ hq5
      refine ite2 (fun z => ?_) (fun z => ?_)
      · rw [if_pos (show lastIs y w = true from z)] at lt
        have w7 := hw5.same (s6.trans s7)
        have D7 := (s4.trans s57) _ _ hD3
        refine ⟨_, rfl, _, rfl, D, _, rfl, num_get D7 w7 hwm, _, rfl, _, rfl, _, rfl, _, rfl, ?_⟩
        dsimp only [tNoPart]
        refine slT_rd w7 fun c8 H8 h8 s8 => ?_
        rw [cutI_init] at h8
        have dl : w.dropLast ∈ ws := by rw [List.dropLast_eq_take]; exact C.tk w hwm _
        refine ⟨D, _, rfl, num_get (s8 _ _ D7) h8 dl, (by show 2 ≤ sizeLine; decide), fun t9 H9 _ e9 s9 => ?_⟩
        have s79 := s8.trans s9
        have hq9 := s79 _ _ hq7
        have lq := Paired.length hqs
        have lq2 := endG_len ws (ws.take j) y
        rw [List.length_take] at lq2
        refine ⟨_, hq9, by rw [List.length_map]; exact Nat.lt_of_le_of_lt (show qs.length ≤ 1000 by omega) (by decide), same_upd hD4 (s57.trans s79), qs ++ [t9], by rw [upd_same, List.map_append]; rfl, ?_⟩
        rw [lt]
        exact paired_app (Paired.imp' (fun _ _ z => (z.t (.of ((s6.trans s7).trans s79))).t (.updL hq9)) hqs) (PrAt.t e9 (.updL hq9))
      · rw [if_neg (show ¬ lastIs y w = true from z), List.append_nil] at lt
        exact ⟨s57, qs, hq7, by rw [lt]; exact Paired.imp' (fun _ _ z => z.t (.of (s6.trans s7))) hqs⟩
    · rintro H5 ⟨s5, qs, hq5, hqs⟩
      rw [List.length_map, pl, List.take_length] at hqs
      refine ⟨D4, _, rfl, .inl ⟨SqL.of hq5, fun t ht => ?_⟩⟩
      have s6 := same_new ht (.tup (qs.map V.ref))
      obtain ⟨kvs, k1, k2, k3, k4⟩ := hE4.same (s5.trans s6)
      have ln : kvs.length < sizeLine := by
        rw [List.length_take] at k2
        exact Nat.lt_of_le_of_lt (show _ ≤ 1000 by omega) (by decide)
      refine ⟨_, DPut.k (k := Sum.inl y) k1 ln, same_upd hE3 (s4.trans (s5.trans s6)), ?_⟩
      have hi2 : i < (ltrs ws).length := hi
      rw [List.take_succ_eq_append_getElem hi2, hy]
      exact end_put k1 k2 k3 k4 ⟨qs, upd_same, Paired.imp' (fun _ _ z => z.t (.of s6)) hqs⟩
  · rintro H4 ⟨s4, hE4⟩
    rw [List.length_map, List.take_length] at hE4
    exact q E3 H4 hE4 (s2.trans (s3.trans s4))
abbrev s_backed : Stmt := top 16
theorem sc_backed : FnScope ["word", "step"] ["word"] (defScope s_backed) := ⟨rfl, rfl, rfl, by decide +kernel, rfl, by decide +kernel, by decide +kernel⟩
theorem ok_backed {f : Addr} {fd : FuncData} (F : Fun K "backed" "backed" s_backed f fd) (T : Txt mg)   : FnOk P w K mg base CX0 1 f fd ["word"] spBacked := by
  refine F.ok sc_backed (fun vs H Q E h => ?_) (fun cdv A outer s H vs Q E hr h => ?_)
  · obtain ⟨a, ns, rfl, _⟩ := h
    rfl
  obtain ⟨a, ns, rfl, ha, hn, q⟩ := h
  refine ⟨_, (pss_one (ps_ret (pe_callTy (r := rTupleOf K) (T := "tuple") c_tuple (by rfl) T.b_tuple (by decide +kernel) (pa_cons (pe_lc (own := [("step", 1)]) (by rfl) sc_backed.nd (R2.PI.or (pi_reversed (by rfl) T.b_reversed (pa_cons (pv 0) pa_nil)) (R2.pi_revT (by rfl) T.b_reversed (pa_cons (pv 0) pa_nil))) (blkOk_by (own := [("step", 1)]) (N := ["word", "step"]) (sc := defScope s_backed) (by decide +kernel)) (fun _ _ _ _ _ => (pg_name (i := 1) sc_backed.nd rfl (Or.inl rfl))) (fun _ _ _ _ _ => pts_nil) (fun _ _ _ _ _ => (pe_un un_neg (pv 1)))) pa_nil)))), ?_⟩
  have h0 : ∀ (D : Addr), H D = none → ∀ (Pv : Nat → Hp → Prop), (∀ i H2, Pv i H2 ↔ (Same H H2 ∧ H2 D = some (.lst (((back ns).take i).map V.int)))) → Pv 0 (upd H D (.lst [])) := by
    intro D hD Pv e
    exact (e _ _).mpr ⟨same_new hD _, by rw [List.take_zero]; exact upd_same⟩
  have fin : ∀ (D : Addr) (H2 : Hp), Same H H2 → H2 D = some (.lst (((back ns).take ns.length).map V.int)) → ∃ p ys, [V.ref D] = [V.ref p] ∧ ((SqL K H2 p ys ∧ ∀ l, H2 l = none → Q (.ref l) (upd H2 l (.tup ys))) ∨ (SqT K H2 p ys ∧ Q (.ref p) H2)) := by
    intro D H2 hs hD
    refine ⟨D, _, rfl, .inl ⟨SqL.of hD, fun l hl => q l _ ?_ (hs.trans (same_new hl _))⟩⟩
    show upd H2 l _ l = _
    rw [upd_same, ← back_len ns, List.take_length]
  have step : ∀ (D : Addr), H D = none → ∀ (i : Nat) (H2 : Hp) (hi : i < ns.length), Same H H2 → H2 D = some (.lst (((back ns).take i).map V.int)) →
      ∃ acc, H2 D = some (.lst acc) ∧ acc.length < sizeLine ∧ (Same H (upd H2 D (.lst (acc ++ [V.int (-(ns[ns.length - 1 - i]'(by omega)))]))) ∧ (upd H2 D (.lst (acc ++ [V.int (-(ns[ns.length - 1 - i]'(by omega)))]))) D = some (.lst (((back ns).take (i + 1)).map V.int))) := by
    intro D hD0 i H2 hi hs hD
    refine ⟨_, hD, ?_, fun b o e => ?_, ?_⟩
    · rw [List.length_map, List.length_take]; exact Nat.lt_of_le_of_lt (Nat.min_le_left _ _) (Nat.lt_of_lt_of_le (Nat.lt_of_lt_of_le hi hn) (by decide))
    · rw [upd_ne (ne_of_none e hD0)]; exact hs b o e
    · rw [upd_same, back_take ns i hi, List.map_append]; rfl
  rcases ha with ha | ha
  · refine .inr ⟨_, rfl, a, _, rfl, SqT.of ha, fun D hD => ?_⟩
    refine lc_it (n := ns.length) (val := fun i => .int (ns.getD (ns.length - 1 - i) 0)) (fun i H2 => Same H H2 ∧ H2 D = some (.lst (((back ns).take i).map V.int))) (h0 D hD _ fun _ _ => Iff.rfl) (fun i H2 hi p => ?_) (fun H2 p => ?_) (fun i H2 x H3 hi p y => ?_) (fun i H2 hi p => ?_) (fun H2 p => fin D H2 p.1 p.2)
    · exact ⟨by rw [List.length_map]; exact hi, _, _, SqT.of (p.1 _ _ ha), by rw [List.length_map]; exact at_int' (by omega)⟩
    · show (ns.map V.int).length ≤ ns.length
      rw [List.length_map]; exact Nat.le_refl _
    · obtain ⟨e, y⟩ := y
      have y := y _ (SqT.of (p.1 _ _ ha))
      rw [List.length_map, at_int' (show ns.length - 1 - i < ns.length by omega)] at y
      refine ⟨e, ?_⟩
      rw [List.getD_eq_getElem?_getD, List.getElem?_eq_getElem (show ns.length - 1 - i < ns.length by omega)]
      exact (Option.some.inj y).symm
    · refine ⟨rfl, _, rfl, _, rfl, ?_⟩
      rw [List.getD_eq_getElem?_getD, List.getElem?_eq_getElem (show ns.length - 1 - i < ns.length by omega)]
      exact step D hD i H2 hi p.1 p.2
  · refine .inl ⟨_, rfl, a, _, rfl, SqL.of ha, fun D hD => ?_⟩
    refine lc_it (n := ns.length) (val := fun i => .int (ns.getD (ns.length - 1 - i) 0)) (fun i H2 => Same H H2 ∧ H2 D = some (.lst (((back ns).take i).map V.int))) (h0 D hD _ fun _ _ => Iff.rfl) (fun i H2 hi p => ?_) (fun H2 p => ?_) (fun i H2 x H3 hi p y => ?_) (fun i H2 hi p => ?_) (fun H2 p => fin D H2 p.1 p.2)
    · exact ⟨by rw [List.length_map]; exact hi, _, _, SqL.of (p.1 _ _ ha), by rw [List.length_map]; exact at_int' (by omega)⟩
    · show (ns.map V.int).length ≤ ns.length
      rw [List.length_map]; exact Nat.le_refl _
    · obtain ⟨e, y⟩ := y
      have y := y _ (SqL.of (p.1 _ _ ha))
      rw [List.length_map, at_int' (show ns.length - 1 - i < ns.length by omega)] at y
      refine ⟨e, ?_⟩
      rw [List.getD_eq_getElem?_getD, List.getElem?_eq_getElem (show ns.length - 1 - i < ns.length by omega)]
      exact (Option.some.inj y).symm
    · refine ⟨rfl, _, rfl, _, rfl, ?_⟩
      rw [List.getD_eq_getElem?_getD, List.getElem?_eq_getElem (show ns.length - 1 - i < ns.length by omega)]
      exact step D hD i H2 hi p.1 p.2
abbrev s_bracketed : Stmt := top 19
theorem sc_bracketed : FnScope ["one", "other"] ["one", "other"] (defScope s_bracketed) := ⟨rfl, rfl, rfl, by decide +kernel, rfl, by decide +kernel, by decide +kernel⟩
theorem ok_bracketed {f : Addr} {fd : FuncData} (F : Fun K "bracketed" "bracketed" s_bracketed f fd) (T : Txt mg)  (C_backed : Cal P w K mg base "backed" ["word"] 1 spBacked) (C_joined : Cal P w K mg base "joined" ["one", "other"] 1 spJoined) : FnOk P w K mg base CX0 2 f fd ["one", "other"] spBracketed := by
  refine F.ok sc_bracketed (fun vs H Q E h => ?_) (fun cdv A outer s H vs Q E hr h => ?_)
  · obtain ⟨a, d, ns, ms, rfl, _⟩ := h
    rfl
  obtain ⟨a, d, ns, ms, rfl, ha, hd, hn, hm, q⟩ := h
  refine ⟨_, (pss_one (ps_ret (C_joined.pe (hr.mono (by decide)) (by rfl) (pa_cons (C_joined.pe (hr.mono (by decide)) (by rfl) (pa_cons (C_backed.pe (hr.mono (by decide)) (by rfl) (pa_cons (pv 0) pa_nil)) (pa_cons (C_backed.pe (hr.mono (by decide)) (by rfl) (pa_cons (pv 1) pa_nil)) pa_nil))) (pa_cons (C_joined.pe (hr.mono (by decide)) (by rfl) (pa_cons (pv 0) (pa_cons (pv 1) pa_nil))) pa_nil))))), ?_⟩
  refine ⟨_, rfl, a, ns, rfl, ha, by omega, fun t1 H1 h1 s1 => ?_⟩
  refine ⟨_, rfl, d, ms, rfl, hd.same s1, by omega, fun t2 H2 h2 s2 => ?_⟩
  refine ⟨t1, t2, back ns, back ms, rfl, .inl (h1.same s2), .inl h2, by rw [back_len]; omega, by rw [back_len]; omega, fun t3 H3 h3 s3 => ?_⟩
  refine ⟨_, rfl, _, rfl, a, d, ns, ms, rfl, ha.same (s1.trans (s2.trans s3)), hd.same (s1.trans (s2.trans s3)), by omega, by omega, fun t4 H4 h4 s4 => ?_⟩
  refine ⟨t3, t4, back ns ++ back ms, ns ++ ms, rfl, .inl (h3.same s4), .inl h4, by rw [List.length_append, back_len, back_len]; omega, by rw [List.length_append]; omega, fun t5 H5 h5 s5 => ?_⟩
  exact q t5 H5 (by unfold brack; rw [← List.append_assoc] at h5; exact h5) (s1.trans (s2.trans (s3.trans (s4.trans s5))))
abbrev s_cut : Stmt := top 24
theorem sc_cut : FnScope ["word", "found", "letter", "last"] ["word"] (defScope s_cut) := ⟨rfl, rfl, rfl, by decide +kernel, rfl, by decide +kernel, by decide +kernel⟩
theorem ok_cut {f : Addr} {fd : FuncData} (F : Fun K "cut" "cut" s_cut f fd) (T : Txt mg)   : FnOk P w K mg base CX0 1 f fd ["word"] spCut := by
  refine F.ok sc_cut (fun vs H Q E h => ?_) (fun cdv A outer s H vs Q E hr h => ?_)
  · obtain ⟨a, ns, rfl, _⟩ := h
    rfl
  obtain ⟨a, ns, rfl, ha, hn, q⟩ := h
  refine ⟨_, (pss_cons (ps_set (i := 1) sc_cut.nd rfl (Or.inl rfl) (pe_lstN pa_nil))
      (pss_cons (ps_for PassesOwn.never rfl (R2.PI.or (pi_list (pv 0)) (pi_tup (pv 0))) (pg_name (i := 2) sc_cut.nd rfl (Or.inl rfl)) (pss_cons (ps_set (i := 3) sc_cut.nd rfl (Or.inl rfl) (pe_tupN (pa_cons (pv 2) pa_nil)))
      (pss_cons (ps_while PassesOwn.never (PW.pt (pw_and (pt_truth (pv 1) (by intro _; rfl)) (pw_and1 (pt_cmpR (r := rLtT K) (op_ltT hr.units0) (pe_ix (r := rIxL K) ix_list (pv 1) (pe_un un_neg pe_int) (fun _ _ => rfl)) (pv 3) (nomark _))))) (pss_one (ps_set (i := 3) sc_cut.nd rfl (Or.inl rfl) (pe_op (r := R1.rCatA K) R1.op_catA (pe_bm0 PySem.F.plainAttrs_list PySem.F.slot_list_pop PySem.F.type_list_pop mt_pop (pv 1)) (pv 3)))))
      (pss_one (ps_expr (pe_bm PySem.F.plainAttrs_list PySem.F.slot_list_append PySem.F.type_list_append mt_append (pv 1) (pa_cons (pv 3) pa_nil)))))))
      (pss_one (ps_ret (pv 1))))), ?_⟩
  refine ⟨(by show 0 ≤ sizeLine; decide), fun kp H1 fkp hkp s1 => ?_⟩
  refine for_seq (a := a) (ns := ns) (fun R h => ⟨_, rfl, h⟩) (ha.same s1) (fun i σ H2 => ∃ (u2 u3 : Option V) (ps : List Addr) (wss : List (List Int)), σ = [some (.ref a), some (.ref kp), u2, u3] ∧ H2 kp = some (.lst (ps.map V.ref)) ∧ WsAt H2 ps wss ∧ Fal wss ∧ wss.flatten = ns.take i ∧ Same H H2) ⟨none, none, [], [], rfl, hkp, .nil, ⟨fun _ h => absurd h (by simp), .nil⟩, rfl, s1⟩ ?_ ?_ ?_
  · rintro i σ' H' ⟨_, _, _, _, _, _, _, _, _, hs⟩ o ho
    rcases ha with ha | ha
    · rw [s1 _ _ ha] at ho; cases ho; exact hs _ _ ha
    · rw [s1 _ _ ha] at ho; cases ho; exact hs _ _ ha
  · rintro i σ' H2 hi ⟨u2, u3, ps, wss, rfl, hk2, hps, F, efl, s2⟩
    refine ⟨_, rfl, (by show 1 ≤ sizeLine; decide), fun l0 H3 _ e3 s3 => ?_⟩
    refine ⟨fun m σ H4 => ∃ (ps : List Addr) (wss : List (List Int)) (l : Addr) (w : List Int), m = ps.length ∧ σ = [some (.ref a), some (.ref kp), some (.int ns[i]), some (.ref l)] ∧ H4 kp = some (.lst (ps.map V.ref)) ∧ WsAt H4 ps wss ∧ Fal wss ∧ Ly w ∧ WT H4 l w ∧ wss.flatten ++ w = ns.take (i + 1) ∧ Same H H4, ⟨_, ps, wss, l0, [ns[i]], rfl, rfl, s3 _ _ hk2, hps.same s3, F, Ly.one _, e3, ?_, s2.trans s3⟩, ?_⟩
    · rw [efl, List.take_succ_eq_append_getElem hi]
    rintro m σ H4 ⟨ps, wss, l, w, rfl, rfl, hk4, hps4, F, hw, hl4, efl, s4⟩
    have lens : wss.length + w.length ≤ 1000 := by
      have h1 := F.len
      have h2 := congrArg List.length efl
      rw [List.length_append, List.length_take] at h2
      omega
    have hz : (ps.map V.ref).length < sizeLine := by rw [List.length_map, hps4.len]; exact Nat.lt_of_le_of_lt (show wss.length ≤ 1000 by omega) (by decide)
    have fin : Fal (wss ++ [w]) → ∃ (u2 u3 : Option V) (qs : List Addr) (vss : List (List Int)), ([some (.ref a), some (.ref kp), some (.int ns[i]), some (.ref l)] : L2.St) = [some (.ref a), some (.ref kp), u2, u3] ∧ (upd H4 kp (.lst (ps.map V.ref ++ [V.ref l]))) kp = some (.lst (qs.map V.ref)) ∧ WsAt (upd H4 kp (.lst (ps.map V.ref ++ [V.ref l]))) qs vss ∧ Fal vss ∧ vss.flatten = ns.take (i + 1) ∧ Same H (upd H4 kp (.lst (ps.map V.ref ++ [V.ref l]))) := by
      intro F2
      refine ⟨_, _, ps ++ [l], wss ++ [w], rfl, by rw [upd_same, List.map_append]; rfl, WsAt.app (hps4.updL hk4) (.cons (hl4.updL hk4) .nil), F2, ?_, same_upd fkp s4⟩
      rw [List.flatten_append, ← efl]; simp
    refine ⟨_, rfl, _, .inl ⟨_, SqL.of hk4, rfl⟩, ?_⟩
    rcases snoc_cases ps with rfl | ⟨ps', p, rfl⟩
    · refine iteF ?_
      refine iteF ?_
      cases hps4
      exact ⟨_, rfl, .inl ⟨rfl, _, SqL.of hk4⟩, _, rfl, kp, _, _, rfl, rfl, hk4, hz, fin (Fal.one hw)⟩
    · obtain ⟨vss, f, rfl, hps5, hp⟩ := WsAt.snoc hps4
      have e1 : (!((ps' ++ [p]).map V.ref).isEmpty) = true := by rw [List.map_append]; simp
      rw [e1]
      refine iteT ?_
      have eix : atI ((ps' ++ [p]).map V.ref) (-1) = some (V.ref p) := by rw [List.map_append]; exact atI_last _ _
      refine ⟨_, rfl, _, rfl, kp, _, -1, _, rfl, rfl, SqL.of hk4, eix, _, rfl, lt_rd hp hl4 ⟨_, rfl, ?_⟩⟩
      refine ite2 (fun z => ?_) (fun z => ?_)
      · refine ⟨_, fun σ' H' h => h, ?_⟩
        refine ⟨_, rfl, .inl ⟨rfl, _, SqL.of hk4⟩, kp, _, .ref p, rfl, rfl, hk4, ?_, ?_⟩
        · rw [List.map_append, List.length_append, List.length_map]; simp
        have e5 : upd H4 kp (.lst ((ps' ++ [p]).map V.ref).dropLast) kp = some (.lst (ps'.map V.ref)) := by
          rw [upd_same, List.map_append]
          show some (HO.lst (ps'.map V.ref ++ [V.ref p]).dropLast) = _
          rw [List.dropLast_concat]
        have s5 : Same H (upd H4 kp (.lst ((ps' ++ [p]).map V.ref).dropLast)) := same_upd fkp s4
        have a5 : WsAt (upd H4 kp (.lst ((ps' ++ [p]).map V.ref).dropLast)) ps' vss := hps5.updL hk4
        have p5 : WT (upd H4 kp (.lst ((ps' ++ [p]).map V.ref).dropLast)) p f := hp.updL hk4
        have l5 : WT (upd H4 kp (.lst ((ps' ++ [p]).map V.ref).dropLast)) l w := hl4.updL hk4
        generalize upd H4 kp (.lst ((ps' ++ [p]).map V.ref).dropLast) = H5 at e5 s5 a5 p5 l5
        have lf : f.length + w.length ≤ 1000 := by
          have h2 := congrArg List.length efl
          rw [List.flatten_append, List.length_append, List.length_append, List.length_take] at h2
          simp at h2
          omega
        refine ⟨_, rfl, cat_rd p5 l5 (by omega) fun t6 H6 h6 s6 => ?_⟩
        refine ⟨ps'.length, by rw [List.length_append]; exact Nat.lt_succ_self _, ps', vss, t6, f ++ w, rfl, rfl, s6 _ _ e5, a5.same s6, F.init.1, Ly.app F.init.2 hw z, h6, ?_, s5.trans s6⟩
        rw [← efl, List.flatten_append]; simp
      · have z' : HT.lexLt f w = false := by simpa using z
        exact ⟨_, rfl, .inl ⟨rfl, _, SqL.of hk4⟩, _, rfl, kp, _, _, rfl, rfl, hk4, hz, fin (Fal.snoc F hw z')⟩
  · rintro σ' H2 ⟨u2, u3, ps, wss, rfl, hk2, hps, F, efl, s2⟩
    rw [List.take_length] at efl
    exact ⟨_, rfl, q kp H2 wss fkp F efl ⟨ps, hk2, hps⟩ s2⟩
abbrev s_halves : Stmt := top 25
theorem sc_halves : FnScope ["word", "ends", "start"] ["word"] (defScope s_halves) := ⟨rfl, rfl, rfl, by decide +kernel, rfl, by decide +kernel, by decide +kernel⟩
theorem ok_halves {f : Addr} {fd : FuncData} (F : Fun K "halves" "halves" s_halves f fd) (T : Txt mg)  (C_cut : Cal P w K mg base "cut" ["word"] 1 spCut) : FnOk P w K mg base CX0 2 f fd ["word"] spHalves := by
  refine F.ok sc_halves (fun vs H Q E h => ?_) (fun cdv A outer s H vs Q E hr h => ?_)
  · obtain ⟨a, ns, rfl, _⟩ := h
    rfl
  obtain ⟨a, ns, rfl, ha, hly, hn2, hn, q⟩ := h
  refine ⟨_, (pss_cons (ps_set (i := 1) sc_halves.nd rfl (Or.inl rfl) (C_cut.pe (hr.mono (by decide)) (by rfl) (pa_cons (pe_slice (r := R3.rSlS K) R3.sl_seq (pv 0) (po_some pe_int) po_none) pa_nil)))
      (pss_cons (ps_set (i := 2) sc_halves.nd rfl (Or.inl rfl) (pe_ifExp (pt_truth (pv 1) (by intro _; rfl)) (pe_op op_sub (pe_callB (r := rLen K) (id := "len") c_len (by rfl) T.b_len (by decide +kernel) (pa_cons (pv 0) pa_nil)) (pe_callB (r := rLen K) (id := "len") c_len (by rfl) T.b_len (by decide +kernel) (pa_cons (pe_ix (r := rIxL K) ix_list (pv 1) (pe_un un_neg pe_int) (fun _ _ => rfl)) pa_nil))) (pe_callB (r := rLen K) (id := "len") c_len (by rfl) T.b_len (by decide +kernel) (pa_cons (pv 0) pa_nil))))
      (pss_one (ps_ret (pe_tupN (pa_cons (pe_callTy (r := rTupleOf K) (T := "tuple") c_tuple (by rfl) T.b_tuple (by decide +kernel) (pa_cons (pe_slice (r := R3.rSlS K) R3.sl_seq (pv 0) po_none (po_some (pv 2))) pa_nil)) (pa_cons (pe_callTy (r := rTupleOf K) (T := "tuple") c_tuple (by rfl) T.b_tuple (by decide +kernel) (pa_cons (pe_slice (r := R3.rSlS K) R3.sl_seq (pv 0) (po_some (pv 2)) po_none) pa_nil)) pa_nil))))))), ?_⟩
  refine ⟨_, rfl, _, rfl, ?_⟩
  dsimp only [tNoPart]
  refine slS_rd ha fun c H1 h1 s1 => ?_
  have ec : cutI ns (some 1) none = ns.drop 1 := cutI_from ns 1
  rw [ec] at h1
  refine ⟨c, _, rfl, h1, by rw [List.length_drop]; omega, fun r H2 wss _ F efl ⟨ps, hr2, hps2⟩ s2 => ?_⟩
  have s12 := s1.trans s2
  obtain ⟨x, rest, rfl⟩ : ∃ x rest, ns = x :: rest := by
    cases ns with
    | nil => simp at hn2
    | cons x rest => exact ⟨x, rest, rfl⟩
  rw [List.drop_succ_cons, List.drop_zero] at efl
  rcases snoc_cases ps with rfl | ⟨ps', p, rfl⟩
  · exfalso
    cases hps2
    rw [← efl] at hn2
    simp at hn2
  obtain ⟨fs, l, rfl, _, hp⟩ := WsAt.snoc hps2
  have Hd := halved hly (by rw [← efl]) F
  have e1 : (!((ps' ++ [p]).map V.ref).isEmpty) = true := by rw [List.map_append]; simp
  refine ⟨_, rfl, _, .inl ⟨_, SqL.of hr2, rfl⟩, ?_⟩
  rw [e1]
  refine iteT ?_
  have eix : atI ((ps' ++ [p]).map V.ref) (-1) = some (V.ref p) := by rw [List.map_append]; exact atI_last _ _
  refine ⟨_, rfl, ?_⟩
  dsimp only [tNil]
  refine len_rd (ha.same s12) ⟨_, rfl, _, rfl, r, _, -1, _, rfl, rfl, SqL.of hr2, eix, ?_⟩
  dsimp only [tNil]
  refine len_rd (.inl hp) ⟨_, _, rfl, rfl, ?_⟩
  generalize hu : x :: fs.flatten = u at Hd
  generalize hw : x :: rest = w at *
  have lw : w.length = u.length + l.length := by
    have := congrArg List.length Hd.eq
    rwa [List.length_append] at this
  dsimp only
  rw [show ((w.length : Nat) : Int) - ((l.length : Nat) : Int) = ((u.length : Nat) : Int) by omega]
  refine ⟨_, rfl, _, rfl, _, rfl, ?_⟩
  dsimp only [tNoPart]
  refine slS_rd (ha.same s12) fun c3 H3 h3 s3 => ?_
  rw [cutI_to, show w.take u.length = u by rw [Hd.eq, List.take_left]] at h3
  dsimp only [tNil]
  refine tup_rd h3 fun t1 H4 h4 s4 => ?_
  refine ⟨_, rfl, _, rfl, _, rfl, ?_⟩
  refine slS_rd (ha.same (s12.trans (s3.trans s4))) fun c5 H5 h5 s5 => ?_
  rw [cutI_from, show w.drop u.length = l by rw [Hd.eq, List.drop_left]] at h5
  dsimp only [tNil]
  refine tup_rd h5 fun t2 H6 h6 s6 => ?_
  refine ⟨(by show 2 ≤ sizeLine; decide), fun pr H7 _ e7 s7 => ?_⟩
  exact q pr t1 t2 H7 u l Hd e7 (h4.same (s5.trans (s6.trans s7))) (h6.same s7) (s12.trans (s3.trans (s4.trans (s5.trans (s6.trans s7)))))
abbrev s_Ground_size_at : Stmt := inClass (top 28) 8
theorem sc_Ground_size_at : FnScope ["self", "place"] ["self", "place"] (defScope s_Ground_size_at) := ⟨rfl, rfl, rfl, by decide +kernel, rfl, by decide +kernel, by decide +kernel⟩
theorem ok_Ground_size_at {f : Addr} {fd : FuncData} (F : Fun K "size_at" "Ground.size_at" s_Ground_size_at f fd) (T : Txt mg) {C aD : Addr} (TG : TxtG K mg C aD)   : FnOk P w K mg base CX0 1 f fd ["self", "place"] (spMSize C) := by
  refine F.ok sc_Ground_size_at (fun vs H Q E h => ?_) (fun cdv A outer s H vs Q E hr h => ?_)
  · obtain ⟨g, i, w, l, d, rfl, _⟩ := h
    rfl
  obtain ⟨g, i, w, l, d, rfl, G, hw, q⟩ := h
  refine ⟨_, (pss_one (ps_ret (pe_callB (r := rLen K) (id := "len") c_len (by rfl) T.b_len (by decide +kernel) (pa_cons (pe_ix (r := rIxL K) ix_list (pe_fld (pv 0) rfl) (pv 1) (fun _ _ => rfl)) pa_nil)))), ?_⟩
  obtain ⟨dx, pl, tu, nu, pa, en, fs, h1, h2, h3, h4, h5, h6, h7, h8, h9, a1, a2, a3, a4, a5⟩ := G.ex
  obtain ⟨ps, ht, hps⟩ := a2
  obtain ⟨p, hp, hpw⟩ := paired_at hps hw
  refine ⟨_, rfl, g, C, dx, fs, _, rfl, h1, TG.cl, TG.n "turned", h6, _, rfl, tu, _, _, _, rfl, rfl, SqL.of ht, ref_at hp, ?_⟩
  dsimp only [tNil]
  exact len_rd (.inl hpw) q
abbrev s_Ground_place_of : Stmt := inClass (top 28) 7
theorem sc_Ground_place_of : FnScope ["self", "word", "plain"] ["self", "word"] (defScope s_Ground_place_of) := ⟨rfl, rfl, rfl, by decide +kernel, rfl, by decide +kernel, by decide +kernel⟩
theorem ok_Ground_place_of {f : Addr} {fd : FuncData} (F : Fun K "place_of" "Ground.place_of" s_Ground_place_of f fd) (T : Txt mg) {C aD : Addr} (TG : TxtG K mg C aD)   : FnOk P w K mg base CX0 1 f fd ["self", "word"] (spMPlace C) := by
  refine F.ok sc_Ground_place_of (fun vs H Q E h => ?_) (fun cdv A outer s H vs Q E hr h => ?_)
  · obtain ⟨g, a, w, l, d, rfl, _⟩ := h
    rfl
  obtain ⟨g, a, w, l, d, rfl, G, ha, hw, q⟩ := h
  refine ⟨_, (pss_cons (ps_set (i := 2) sc_Ground_place_of.nd rfl (Or.inl rfl) (pe_callTy (r := rTupleOf K) (T := "tuple") c_tuple (by rfl) T.b_tuple (by decide +kernel) (pa_cons (pv 1) pa_nil)))
      (pss_cons (ps_if (pt_cmp (pc_dnotin (hu_of hr) (pv 2) (pe_fld (pv 0) rfl))) (pss_one ps_never) pss_nil)
      (pss_one (ps_ret (pe_dget (hu_of hr) (pe_fld (pv 0) rfl) (pv 2) (fun _ _ => rfl)))))), ?_⟩
  obtain ⟨dx, pl, tu, nu, pa, en, fs, h1, h2, h3, h4, h5, h6, h7, h8, h9, a1, a2, a3, a4, a5⟩ := G.ex
  refine ⟨_, rfl, ?_⟩
  dsimp only [tNil]
  refine tup_rd ha fun pt H1 hp s1 => ?_
  have n1 := s1 _ _ a3
  refine ⟨_, rfl, _, rfl, g, C, dx, fs, _, rfl, s1 _ _ h1, TG.cl, TG.n "numbered", h7, nu, _, rfl, num_get n1 hp hw, _, rfl, ?_⟩
  refine iteF ?_
  dsimp only [tNext]
  exact ⟨_, rfl, g, C, dx, fs, _, rfl, s1 _ _ h1, TG.cl, TG.n "numbered", h7, _, rfl, nu, _, rfl, num_get n1 hp hw, q H1 s1⟩
abbrev s_Ground_parts_at : Stmt := inClass (top 28) 9
theorem sc_Ground_parts_at : FnScope ["self", "place", "first", "second"] ["self", "place"] (defScope s_Ground_parts_at) := ⟨rfl, rfl, rfl, by decide +kernel, rfl, by decide +kernel, by decide +kernel⟩
theorem ok_Ground_parts_at {f : Addr} {fd : FuncData} (F : Fun K "parts_at" "Ground.parts_at" s_Ground_parts_at f fd) (T : Txt mg) {C aD : Addr} (TG : TxtG K mg C aD)  (M_size_at : CalM P w K mg base C "size_at" ["self", "place"] 1 (spMSize C)) (M_place_of : CalM P w K mg base C "place_of" ["self", "word"] 1 (spMPlace C)) (C_halves : Cal P w K mg base "halves" ["word"] 2 spHalves) : FnOk P w K mg base CX0 3 f fd ["self", "place"] (spMParts C) := by
  refine F.ok sc_Ground_parts_at (fun vs H Q E h => ?_) (fun cdv A outer s H vs Q E hr h => ?_)
  · obtain ⟨g, i, w, l, d, rfl, _⟩ := h
    rfl
  obtain ⟨g, i, w, l, d, rfl, G, hw, q1, q2⟩ := h
  refine ⟨_, (pss_cons (ps_if (pt_cmpR op_eq (M_size_at.pe TG.cl (hr.mono (by decide)) (pv 0) (pa_cons (pv 1) pa_nil)) pe_int (nomark _)) (pss_one (ps_ret pe_non)) pss_nil)
      (pss_cons (ps_asg (C_halves.pe (hr.mono (by decide)) (by rfl) (pa_cons (pe_ix (r := rIxL K) ix_list (pe_fld (pv 0) rfl) (pv 1) (fun _ _ => rfl)) pa_nil)) (pg_tup (by rfl) (pgs_cons (pg_name (i := 2) sc_Ground_parts_at.nd rfl (Or.inl rfl)) (pgs_cons (pg_name (i := 3) sc_Ground_parts_at.nd rfl (Or.inl rfl)) pgs_nil))))
      (pss_one (ps_ret (pe_tupN (pa_cons (M_place_of.pe TG.cl (hr.mono (by decide)) (pv 0) (pa_cons (pv 2) pa_nil)) (pa_cons (M_place_of.pe TG.cl (hr.mono (by decide)) (pv 0) (pa_cons (pv 3) pa_nil)) pa_nil))))))), ?_⟩
  obtain ⟨dx, pl, tu, nu, pa, en, fs, h1, h2, h3, h4, h5, h6, h7, h8, h9, a1, a2, a3, a4, a5⟩ := G.ex
  obtain ⟨ps, ht, hps⟩ := a2
  obtain ⟨p, hp, hpw⟩ := paired_at hps hw
  have hwm := List.mem_of_getElem? hw
  obtain ⟨w1, w2, w3⟩ := gt_mem.mp hwm
  have d5 := G.ok.d5
  have wp := w3.pos
  refine ⟨_, rfl, g, dx, fs, rfl, h1, noM h2 "size_at", _, rfl, g, i, w, l, d, rfl, G, hw, rfl, _, rfl, ?_⟩
  refine ite2 (fun z => ?_) (fun z => ?_)
  · have z1 : w.length = 1 := by
      have := of_decide_eq_true z
      injection this with this
      omega
    exact q1 z1
  have z1 : w.length ≠ 1 := by
    intro e
    have := of_decide_eq_false (Bool.eq_false_iff.mpr z)
    apply this
    rw [e]; rfl
  dsimp only [tNext]
  refine ⟨_, rfl, g, C, dx, fs, _, rfl, h1, TG.cl, TG.n "turned", h6, _, rfl, tu, _, _, _, rfl, rfl, SqL.of ht, ref_at hp, p, w, rfl, .inl hpw, w3, by omega, by omega, fun pr t1 t2 H1 u v Hd e1 hu hv s1 => ?_⟩
  obtain ⟨um, vm⟩ := halved_in hwm Hd
  refine ⟨pr, _, rfl, SqT.of e1, rfl, _, _, rfl, _, _, rfl, rfl, ?_⟩
  refine ⟨_, rfl, g, dx, fs, rfl, s1 _ _ h1, noM h2 "place_of", _, rfl, g, t1, u, l, d, rfl, G.same s1, .inl hu, um, fun H2 s2 => ?_⟩
  have s12 := s1.trans s2
  refine ⟨_, rfl, g, dx, fs, rfl, s12 _ _ h1, noM h2 "place_of", _, rfl, g, t2, v, l, d, rfl, G.same s12, .inl (hv.same s2), vm, fun H3 s3 => ?_⟩
  refine ⟨(by show 2 ≤ sizeLine; decide), fun t H4 _ e4 s4 => ?_⟩
  exact q2 t u v H4 Hd (by omega) um vm e4 (s12.trans (s3.trans s4))
abbrev s_Ground_bracket_at : Stmt := inClass (top 28) 10
theorem sc_Ground_bracket_at : FnScope ["self", "place", "parts"] ["self", "place"] (defScope s_Ground_bracket_at) := ⟨rfl, rfl, rfl, by decide +kernel, rfl, by decide +kernel, by decide +kernel⟩
theorem ok_Ground_bracket_at {f : Addr} {fd : FuncData} (F : Fun K "bracket_at" "Ground.bracket_at" s_Ground_bracket_at f fd) (T : Txt mg) {C aD : Addr} (TG : TxtG K mg C aD)  (M_parts_at : CalM P w K mg base C "parts_at" ["self", "place"] 3 (spMParts C)) (C_bracketed : Cal P w K mg base "bracketed" ["one", "other"] 2 spBracketed) {n r : Nat} (hlr : 3 ≤ r) (M_bracket_at : CalM P w K mg base C "bracket_at" ["self", "place"] r (spMBr C n)) : FnOk P w K mg base CX0 (r + 1) f fd ["self", "place"] (spMBr C (n + 1)) := by
  refine F.ok sc_Ground_bracket_at (fun vs H Q E h => ?_) (fun cdv A outer s H vs Q E hr h => ?_)
  · obtain ⟨g, i, w, l, d, rfl, _⟩ := h
    rfl
  obtain ⟨g, i, w, l, d, rfl, G, hw, hn, q⟩ := h
  refine ⟨_, (pss_cons (ps_set (i := 2) sc_Ground_bracket_at.nd rfl (Or.inl rfl) (M_parts_at.pe TG.cl (hr.mono (by omega)) (pv 0) (pa_cons (pv 1) pa_nil)))
      (pss_cons (ps_if (pt_cmpR op_isN (pv 2) pe_non (nomark _)) (pss_one (ps_ret (pe_ix (r := rIxL K) ix_list (pe_fld (pv 0) rfl) (pv 1) (fun _ _ => rfl)))) pss_nil)
      (pss_one (ps_ret (C_bracketed.pe (hr.mono (by omega)) (by rfl) (pa_cons (M_bracket_at.pe TG.cl (hr.mono (by omega)) (pv 0) (pa_cons (pe_ix (r := rIxT K) ix_tup (pv 2) pe_int (fun _ _ => rfl)) pa_nil)) (pa_cons (M_bracket_at.pe TG.cl (hr.mono (by omega)) (pv 0) (pa_cons (pe_ix (r := rIxT K) ix_tup (pv 2) pe_int (fun _ _ => rfl)) pa_nil)) pa_nil))))))), ?_⟩
  obtain ⟨dx, pl, tu, nu, pa, en, fs, h1, h2, h3, h4, h5, h6, h7, h8, h9, a1, a2, a3, a4, a5⟩ := G.ex
  obtain ⟨ps, ht, hps⟩ := a2
  obtain ⟨p, hp, hpw⟩ := paired_at hps hw
  have hwm := List.mem_of_getElem? hw
  obtain ⟨w1, w2, w3⟩ := gt_mem.mp hwm
  have d5 := G.ok.d5
  refine ⟨_, rfl, g, dx, fs, rfl, h1, noM h2 "parts_at", _, rfl, g, i, w, l, d, rfl, G, hw, fun z => ?_, fun t u v H1 Hd w2' um vm e1 s1 => ?_⟩
  · refine ⟨_, rfl, rfl, _, rfl, ?_⟩
    refine iteT ?_
    refine ⟨_, rfl, g, C, dx, fs, _, rfl, h1, TG.cl, TG.n "turned", h6, _, rfl, tu, _, _, _, rfl, rfl, SqL.of ht, ref_at hp, ?_⟩
    obtain ⟨x, rfl⟩ := List.length_eq_one_iff.mp z
    exact q p [x] H (.one x) hpw (fun _ _ h => h)
  · refine ⟨_, rfl, rfl, _, rfl, ?_⟩
    refine iteF ?_
    dsimp only [tNext]
    have eu := ix_get um
    have ev := ix_get vm
    have lw := congrArg List.length Hd.eq
    rw [List.length_append] at lw
    have pu := Hd.one.pos
    have pv' := Hd.two.pos
    refine ⟨_, rfl, g, dx, fs, rfl, s1 _ _ h1, noM h2 "bracket_at", _, rfl, t, _, 0, _, rfl, rfl, SqT.of e1, by rfl, g, _, u, l, d, rfl, G.same s1, eu.2, by omega, fun t2 bu H2 Bu hb2 s2 => ?_⟩
    have s12 := s1.trans s2
    refine ⟨_, rfl, g, dx, fs, rfl, s12 _ _ h1, noM h2 "bracket_at", _, rfl, t, _, 1, _, rfl, rfl, SqT.of (s2 _ _ e1), by rfl, g, _, v, l, d, rfl, G.same s12, ev.2, by omega, fun t3 bv H3 Bv hb3 s3 => ?_⟩
    have l1 := Bu.len5 (by omega)
    have l2 := Bv.len5 (by omega)
    refine ⟨t2, t3, bu, bv, rfl, .inl (hb2.same s3), .inl hb3, by omega, by omega, fun t4 H4 h4 s4 => ?_⟩
    exact q t4 _ H4 (.two Hd Bu Bv) h4 (s12.trans (s3.trans s4))
abbrev s_Ground_partings : Stmt := inClass (top 28) 11
theorem sc_Ground_partings : FnScope ["self"] ["self"] (defScope s_Ground_partings) := ⟨rfl, rfl, rfl, by decide +kernel, rfl, by decide +kernel, by decide +kernel⟩
theorem ok_Ground_partings {f : Addr} {fd : FuncData} (F : Fun K "partings" "Ground.partings" s_Ground_partings f fd) (T : Txt mg) {C aD : Addr} (TG : TxtG K mg C aD)   : FnOk P w K mg base CX0 1 f fd ["self"] (spMPart C) := by
  refine F.ok sc_Ground_partings (fun vs H Q E h => ?_) (fun cdv A outer s H vs Q E hr h => ?_)
  · obtain ⟨g, l, d, rfl, _⟩ := h
    rfl
  obtain ⟨g, l, d, rfl, G, q⟩ := h
  refine ⟨_, (pss_one (ps_ret (pe_fld (pv 0) rfl))), ?_⟩
  obtain ⟨dx, pl, tu, nu, pa, en, fs, h1, h2, h3, h4, h5, h6, h7, h8, h9, a1, a2, a3, a4, a5⟩ := G.ex
  exact ⟨_, rfl, g, C, dx, fs, _, rfl, h1, TG.cl, TG.n "parted", h8, q pa a4⟩
abbrev s_Ground_endings : Stmt := inClass (top 28) 12
theorem sc_Ground_endings : FnScope ["self", "letter"] ["self", "letter"] (defScope s_Ground_endings) := ⟨rfl, rfl, rfl, by decide +kernel, rfl, by decide +kernel, by decide +kernel⟩
theorem ok_Ground_endings {f : Addr} {fd : FuncData} (F : Fun K "endings" "Ground.endings" s_Ground_endings f fd) (T : Txt mg) {C aD : Addr} (TG : TxtG K mg C aD)   : FnOk P w K mg base CX0 1 f fd ["self", "letter"] (spMEnd C) := by
  refine F.ok sc_Ground_endings (fun vs H Q E h => ?_) (fun cdv A outer s H vs Q E hr h => ?_)
  · obtain ⟨g, x, l, d, rfl, _⟩ := h
    rfl
  obtain ⟨g, x, l, d, rfl, G, q⟩ := h
  refine ⟨_, (pss_one (ps_ret (pe_dget2 (hu_of hr) (pe_fld (pv 0) rfl) (pv 1) (pe_tupN pa_nil) ⟨rfl, rfl, rfl, rfl⟩))), ?_⟩
  obtain ⟨dx, pl, tu, nu, pa, en, fs, h1, h2, h3, h4, h5, h6, h7, h8, h9, a1, a2, a3, a4, a5⟩ := G.ex
  obtain ⟨kvs, k1, k2, k3, k4⟩ := a5
  refine ⟨_, rfl, g, C, dx, fs, _, rfl, h1, TG.cl, TG.n "ended", h9, en, rfl, .inl ⟨_, .inl k1⟩, _, rfl, (by show 0 ≤ sizeLine; decide), fun t H1 _ e1 s1 => ?_⟩
  refine ⟨_, DGet.k (k := Sum.inl x) (s1 _ _ k1), ?_⟩
  by_cases hx : x ∈ ltrs (gw l d)
  · obtain ⟨t', e, p⟩ := k3 x hx
    rw [e]
    exact q t' H1 (p.t (.of s1)) s1
  · rw [k4 x hx]
    refine q t H1 ?_ s1
    rw [endW_none (fun z => hx ((ltrs_mem G.ok x).mpr z))]
    exact ⟨[], e1, .nil⟩
abbrev s_empty_sums : Stmt := top 10
theorem sc_empty_sums : FnScope ["ground", "partings"] ["ground"] (defScope s_empty_sums) := ⟨rfl, rfl, rfl, by decide +kernel, rfl, by decide +kernel, by decide +kernel⟩
theorem ok_empty_sums {f : Addr} {fd : FuncData} (F : Fun K "empty_sums" "empty_sums" s_empty_sums f fd) (T : Txt mg) {C aD : Addr} (TG : TxtG K mg C aD)  (M_partings : CalM P w K mg base C "partings" ["self"] 1 (spMPart C)) : FnOk P w K mg base CX0 2 f fd ["ground"] (spEmpty C) := by
  refine F.ok sc_empty_sums (fun vs H Q E h => ?_) (fun cdv A outer s H vs Q E hr h => ?_)
  · obtain ⟨g, l, d, rfl, _⟩ := h
    rfl
  obtain ⟨g, l, d, rfl, G, q⟩ := h
  refine ⟨_, (pss_one (ps_ret (pe_op op_catN (pe_lstN (pa_cons pe_int pa_nil)) (pe_lc (own := [("partings", 1)]) (by rfl) sc_empty_sums.nd (pi_tup (pe_slice (r := R3.rSlA K) R3.sl_tupA (M_partings.pe0 TG.cl (hr.mono (by decide)) (pv 0)) (po_some pe_int) po_none)) (blkOk_by (own := [("partings", 1)]) (N := ["ground", "partings"]) (sc := defScope s_empty_sums) (by decide +kernel)) (fun _ _ _ _ _ => (pg_name (i := 1) sc_empty_sums.nd rfl (Or.inl rfl))) (fun _ _ _ _ _ => pts_nil) (fun _ _ _ _ _ => pe_int))))), ?_⟩
  obtain ⟨dx, pl, tu, nu, pa, en, fs, h1, h2, h3, h4, h5, h6, h7, h8, h9, a1, a2, a3, a4, a5⟩ := G.ex
  have C' := gw_cl G.ok
  have lprt : (prt (gw l d)).length = (gw l d).length := by unfold prt; rw [List.length_map]
  refine ⟨(by show 1 ≤ sizeLine; decide), fun l1 H1 f1 e1 s1 => ?_⟩
  refine ⟨_, rfl, g, dx, fs, rfl, s1 _ _ h1, noM h2 "partings", g, l, d, rfl, G.same s1, fun pa' hpa => ?_⟩
  obtain ⟨qs, hq, hqs⟩ := hpa
  refine ⟨1, rfl, ?_⟩
  dsimp only [tNoPart]
  refine slR_rd hq fun c H2 e2 s2 => ?_
  refine ⟨c, rfl, ⟨_, SqT.of e2⟩, fun D hD => ?_⟩
  have lq := Paired.length hqs
  have hl := C'.len
  refine lc_tup (K := K) (a := c) (xs := (qs.drop 1).map V.ref) (fun i H3 => Same H2 H3 ∧ H3 D = some (.lst ((List.replicate i (0 : Int)).map V.int))) ⟨same_new hD _, upd_same⟩ (fun i H3 _ p => SqT.of (p.1 _ _ e2)) ?_ ?_
  · rintro i x H3 hx ⟨s3, hD3⟩
    have hi : i < qs.length := by
      have := (List.getElem?_eq_some_iff.mp hx).1
      rw [List.length_map, List.length_drop] at this
      omega
    refine ⟨rfl, _, hD3, ?_, same_upd hD s3, ?_⟩
    · rw [List.length_map, List.length_replicate]; exact Nat.lt_of_le_of_lt (show i ≤ 1000 by omega) (by decide)
    · rw [upd_same, List.replicate_succ', List.map_append]; rfl
  · rintro H3 ⟨s3, hD3⟩
    rw [List.length_map, List.length_drop, lq, lprt] at hD3
    have e3 := (s2.trans s3) _ _ e1
    refine ⟨l1, D, _, _, rfl, rfl, e3, hD3, ?_, fun r H4 f4 e4 s4 => ?_⟩
    · rw [List.length_map, List.length_replicate]
      exact Nat.le_trans (show 1 + _ ≤ 1000 by omega) (by decide)
    · have s24 := (s1.trans s2).trans s3
      exact q r H4 (s24.free f4) e4 (s24.trans s4)
abbrev s_scattered : Stmt := top 4
theorem sc_scattered : FnScope ["ground", "word", "told", "step", "endings", "number", "rest"] ["ground", "word"] (defScope s_scattered) := ⟨rfl, rfl, rfl, by decide +kernel, rfl, by decide +kernel, by decide +kernel⟩
theorem ok_scattered {f : Addr} {fd : FuncData} (F : Fun K "scattered" "scattered" s_scattered f fd) (T : Txt mg) {C aD : Addr} (TG : TxtG K mg C aD)  (M_endings : CalM P w K mg base C "endings" ["self", "letter"] 1 (spMEnd C)) (C_empty_sums : Cal P w K mg base "empty_sums" ["ground"] 2 (spEmpty C)) : FnOk P w K mg base CX0 3 f fd ["ground", "word"] (spScat C) := by
  refine F.ok sc_scattered (fun vs H Q E h => ?_) (fun cdv A outer s H vs Q E hr h => ?_)
  · obtain ⟨g, a, u, l, d, rfl, _⟩ := h
    rfl
  obtain ⟨g, a, u, l, d, rfl, G, ha, hu, q⟩ := h
  refine ⟨_, (pss_cons (ps_set (i := 2) sc_scattered.nd rfl (Or.inl rfl) (C_empty_sums.pe (hr.mono (by decide)) (by rfl) (pa_cons (pv 0) pa_nil)))
      (pss_cons (ps_for PassesOwn.never rfl (R2.PI.or (pi_list (pv 1)) (pi_tup (pv 1))) (pg_name (i := 3) sc_scattered.nd rfl (Or.inl rfl)) (pss_cons (ps_set (i := 4) sc_scattered.nd rfl (Or.inl rfl) (M_endings.pe TG.cl (hr.mono (by decide)) (pv 0) (pa_cons (pe_callB call_abs (by rfl) T.b_abs (by decide +kernel) (pa_cons (pv 3) pa_nil)) pa_nil)))
      (pss_one (ps_if (pt_cmpR op_gt (pv 3) pe_int (nomark _)) (pss_one (ps_for PassesOwn.never rfl (R2.pi_revT (by rfl) T.b_reversed (pa_cons (pv 4) pa_nil)) (pg_tup (by rfl) (pgs_cons (pg_name (i := 5) sc_scattered.nd rfl (Or.inl rfl)) (pgs_cons (pg_name (i := 6) sc_scattered.nd rfl (Or.inl rfl)) pgs_nil))) (pss_one (ps_augS (tget := rIxL K) (pv 2) (pv 5) R9.get_list (pe_ix (r := rIxL K) ix_list (pv 2) (pv 6) (fun _ _ => rfl)) ip_add set_list)))) (pss_one (ps_for PassesOwn.never rfl (pi_tup (pv 4)) (pg_tup (by rfl) (pgs_cons (pg_name (i := 5) sc_scattered.nd rfl (Or.inl rfl)) (pgs_cons (pg_name (i := 6) sc_scattered.nd rfl (Or.inl rfl)) pgs_nil))) (pss_one (ps_augS (tget := rIxL K) (pv 2) (pv 5) R9.get_list (pe_ix (r := rIxL K) ix_list (pv 2) (pv 6) (fun _ _ => rfl)) ip_sub set_list))))))))
      (pss_one (ps_ret (pv 2))))), ?_⟩
  obtain ⟨dx, pl, tu, nu, pa, en, fs, h1, h2, h3, h4, h5, h6, h7, h8, h9, a1, a2, a3, a4, a5⟩ := G.ex
  have C' := gw_cl G.ok
  obtain ⟨r0, er0⟩ := gw_first l d
  have hne : 1 ≤ (gw l d).length := by rw [er0]; exact Nat.succ_le_succ (Nat.zero_le _)
  have hl := C'.len
  refine ⟨_, rfl, g, l, d, rfl, G, fun kp H1 fkp hkp s1 => ?_⟩
  refine for_seq (a := a) (ns := u) (fun R h => ⟨_, rfl, h⟩) (ha.same s1) (fun i σ H2 => ∃ u3 u4 u5 u6 : Option V, σ = [some (.ref g), some (.ref a), some (.ref kp), u3, u4, u5, u6] ∧ WL H2 kp ((u.take i).foldl (stepW (gw l d)) (emptyW (gw l d))) ∧ Same H H2) ⟨none, none, none, none, rfl, hkp, s1⟩ ?_ ?_ ?_
  · rintro i σ' H' ⟨_, _, _, _, _, _, hs⟩ o ho
    rcases ha with ha | ha
    · rw [s1 _ _ ha] at ho; cases ho; exact hs _ _ ha
    · rw [s1 _ _ ha] at ho; cases ho; exact hs _ _ ha
  · rintro i σ' H2 hi ⟨u3, u4, u5, u6, rfl, hk2, s2⟩
    have st := scat_take (ws := gw l d) (t := emptyW (gw l d)) hi
    have lt0 : ((u.take i).foldl (stepW (gw l d)) (emptyW (gw l d))).length = (gw l d).length := by rw [scat_len', emptyW_len hne]
    generalize hx : u[i] = x at st ⊢
    generalize (u.take i).foldl (stepW (gw l d)) (emptyW (gw l d)) = told at hk2 st lt0
    refine ⟨_, rfl, g, dx, fs, rfl, s2 _ _ h1, noM h2 "endings", _, rfl, _, rfl, g, _, l, d, rfl, G.same s2, fun t H3 hE s3 => ?_⟩
    obtain ⟨qs, ht, hqs⟩ := hE
    have hk3 : WL H3 kp told := s3 _ _ hk2
    have s23 := s2.trans s3
    refine ⟨_, rfl, _, _, rfl, rfl, _, rfl, ?_⟩
    refine ite2 (fun z => ?_) (fun z => ?_)
    · have z1 : 0 < x := of_decide_eq_true z
      have ex : (if x < 0 then -x else x) = x := if_neg (by omega)
      rw [ex] at hqs
      have est : stepW (gw l d) told x = (endW (gw l d) x).reverse.foldl addP told := by unfold stepW; rw [if_pos z1]
      have lE := endW_len (gw l d) x
      have lt1 := fun p (hp : p ∈ endW (gw l d) x) => endW_lt C' hp
      generalize endW (gw l d) x = E' at hqs est lE lt1
      have lq := Paired.length hqs
      refine ⟨_, rfl, t, _, rfl, SqT.of ht, ?_⟩
      refine R9.for_revT (K := K) (a := t) (xs := qs.map V.ref) (fun j σ H4 => ∃ u5 u6 : Option V, σ = [some (.ref g), some (.ref a), some (.ref kp), some (.int x), some (.ref t), u5, u6] ∧ WL H4 kp ((E'.reverse.take j).foldl addP told) ∧ SameT H3 H4 ∧ Same H H4) ⟨u5, u6, rfl, hk3, fun _ _ h => h, s23⟩ (fun j σ H4 ⟨_, _, _, _, s4, _⟩ => SqT.of (s4 _ _ ht)) ?_ ?_
      · rintro j y σ H4 hj hy ⟨v5, v6, rfl, hk4, t4, s4⟩
        rw [List.length_map] at hj hy
        obtain ⟨p, hp, rfl⟩ := at_ref hy
        obtain ⟨pr, hpr, hpp⟩ := paired_get hqs hp
        rw [lq] at hj hpr
        have ft := fold_take (f := addP) (t := told) (rev_at hj hpr)
        have lt2 := lt1 pr (List.mem_of_getElem? hpr)
        have ll : ((E'.reverse.take j).foldl addP told).length = (gw l d).length := by rw [foldl_len addP_len, lt0]
        generalize (E'.reverse.take j).foldl addP told = cur at hk4 ft ll
        have pp4 := hpp.t t4
        refine ⟨p, _, rfl, SqT.of pp4, rfl, _, _, rfl, _, _, rfl, rfl, ?_⟩
        refine ⟨_, rfl, _, rfl, kp, _, _, _, rfl, rfl, SqL.of hk4, atI_nat (getD_at (by omega)), _, rfl, _, rfl, kp, _, _, _, rfl, rfl, SqL.of hk4, atI_nat (getD_at (by omega)), _, _, rfl, rfl, kp, _, _, pr.1, rfl, rfl, hk4, by rw [List.length_map]; exact ixN_nat (by omega), ?_⟩
        refine ⟨_, _, rfl, ?_, t4.trans (.updL hk4), same_upd fkp s4⟩
        unfold WL
        rw [upd_same, set_ints, ft]
        rfl
      · rintro σ H4 ⟨v5, v6, rfl, hk4, t4, s4⟩
        rw [List.length_map, lq, ← List.length_reverse, List.take_length] at hk4
        refine ⟨_, _, _, _, rfl, ?_, s4⟩
        rw [st, est]
        exact hk4
    · have z1 : ¬ 0 < x := of_decide_eq_false (Bool.eq_false_iff.mpr z)
      have ex : (if x < 0 then -x else x) = -x := by split <;> omega
      rw [ex] at hqs
      have est : stepW (gw l d) told x = (endW (gw l d) (-x)).foldl subP told := by unfold stepW; rw [if_neg z1]
      have lE := endW_len (gw l d) (-x)
      have lt1 := fun p (hp : p ∈ endW (gw l d) (-x)) => endW_lt C' hp
      generalize endW (gw l d) (-x) = E' at hqs est lE lt1
      have lq := Paired.length hqs
      refine ⟨_, rfl, t, rfl, ⟨_, SqT.of ht⟩, ?_⟩
      refine for_tup (K := K) (a := t) (xs := qs.map V.ref) (fun j σ H4 => ∃ u5 u6 : Option V, σ = [some (.ref g), some (.ref a), some (.ref kp), some (.int x), some (.ref t), u5, u6] ∧ WL H4 kp ((E'.take j).foldl subP told) ∧ SameT H3 H4 ∧ Same H H4) ⟨u5, u6, rfl, hk3, fun _ _ h => h, s23⟩ (fun j σ H4 _ ⟨_, _, _, _, s4, _⟩ => SqT.of (s4 _ _ ht)) ?_ ?_
      · rintro j y σ H4 hy ⟨v5, v6, rfl, hk4, t4, s4⟩
        obtain ⟨p, hp, rfl⟩ := at_ref hy
        obtain ⟨pr, hpr, hpp⟩ := paired_get hqs hp
        have ft := fold_take (f := subP) (t := told) hpr
        have lt2 := lt1 pr (List.mem_of_getElem? hpr)
        have ll : ((E'.take j).foldl subP told).length = (gw l d).length := by rw [foldl_len subP_len, lt0]
        generalize (E'.take j).foldl subP told = cur at hk4 ft ll
        have pp4 := hpp.t t4
        refine ⟨p, _, rfl, SqT.of pp4, rfl, _, _, rfl, _, _, rfl, rfl, ?_⟩
        refine ⟨_, rfl, _, rfl, kp, _, _, _, rfl, rfl, SqL.of hk4, atI_nat (getD_at (by omega)), _, rfl, _, rfl, kp, _, _, _, rfl, rfl, SqL.of hk4, atI_nat (getD_at (by omega)), _, _, rfl, rfl, kp, _, _, pr.1, rfl, rfl, hk4, by rw [List.length_map]; exact ixN_nat (by omega), ?_⟩
        refine ⟨_, _, rfl, ?_, t4.trans (.updL hk4), same_upd fkp s4⟩
        unfold WL
        rw [upd_same, set_ints, ft]
        rfl
      · rintro σ H4 ⟨v5, v6, rfl, hk4, t4, s4⟩
        rw [List.length_map, lq, List.take_length] at hk4
        refine ⟨_, _, _, _, rfl, ?_, s4⟩
        rw [st, est]
        exact hk4
  · rintro σ' H2 ⟨u3, u4, u5, u6, rfl, hk2, s2⟩
    rw [List.take_length] at hk2
    exact ⟨_, rfl, q kp H2 fkp hk2 s2⟩
abbrev s_sums_joined : Stmt := top 5
theorem sc_sums_joined : FnScope ["ground", "one", "other", "partings", "beginning", "end"] ["ground", "one", "other"] (defScope s_sums_joined) := ⟨rfl, rfl, rfl, by decide +kernel, rfl, by decide +kernel, by decide +kernel⟩
theorem ok_sums_joined {f : Addr} {fd : FuncData} (F : Fun K "sums_joined" "sums_joined" s_sums_joined f fd) (T : Txt mg) {C aD : Addr} (TG : TxtG K mg C aD)  (M_partings : CalM P w K mg base C "partings" ["self"] 1 (spMPart C)) : FnOk P w K mg base CX0 2 f fd ["ground", "one", "other"] (spJoin C) := by
  refine F.ok sc_sums_joined (fun vs H Q E h => ?_) (fun cdv A outer s H vs Q E hr h => ?_)
  · obtain ⟨g, a, b, one, other, l, d, k, m, rfl, _⟩ := h
    rfl
  obtain ⟨g, a, b, one, other, l, d, k, m, rfl, G, ha, hb, l1, l2, b1, b2, hk, hm, q⟩ := h
  refine ⟨_, (pss_one (ps_ret (pe_lc (own := [("partings", 3)]) (by rfl) sc_sums_joined.nd (pi_tup (M_partings.pe0 TG.cl (hr.mono (by decide)) (pv 0))) (blkOk_by (own := [("partings", 3)]) (N := ["ground", "one", "other", "partings", "beginning", "end"]) (sc := defScope s_sums_joined) (by decide +kernel)) (fun _ _ _ _ _ => (pg_name (i := 3) sc_sums_joined.nd rfl (Or.inl rfl))) (fun _ _ _ _ _ => pts_nil) (fun _ _ _ _ _ => (pe_callB (r := rSum K) (id := "sum") (cr_sum rfl) (by rfl) T.b_sum (by decide +kernel) (pa_cons (pe_lc (g := gTup K 2 (gCons (gName 4) (gCons (gName 5) gNil))) (own := [("beginning", 4), ("end", 5)]) (by rfl) sc_sums_joined.nd (piT (K := K) rfl (pv 3)) (blkOk_by (own := [("beginning", 4), ("end", 5)]) (N := ["ground", "one", "other", "partings", "beginning", "end"]) (by rfl)) (fun _ _ _ _ _ => (pg_tup (by rfl) (pgs_cons (pg_name (i := 4) sc_sums_joined.nd rfl (Or.inl rfl)) (pgs_cons (pg_name (i := 5) sc_sums_joined.nd rfl (Or.inl rfl)) pgs_nil)))) (fun _ _ _ _ _ => pts_nil) (fun _ _ _ _ _ => (pe_op R9.op_mulB (pe_ix (r := rIx K) ix_seq (pv 1) (pv 4) (fun _ _ => rfl)) (pe_ix (r := rIx K) ix_seq (pv 2) (pv 5) (fun _ _ => rfl))))) pa_nil)))))), ?_⟩
  obtain ⟨dx, pl, tu, nu, pa, en, fs, h1, h2, h3, h4, h5, h6, h7, h8, h9, a1, a2, a3, a4, a5⟩ := G.ex
  have C' := gw_cl G.ok
  have hl := C'.len
  have lprt : (prt (gw l d)).length = (gw l d).length := by unfold prt; rw [List.length_map]
  refine ⟨_, rfl, g, dx, fs, rfl, h1, noM h2 "partings", g, l, d, rfl, G, fun pa' hpa => ?_⟩
  obtain ⟨qs, hq, hqs⟩ := hpa
  have lq := Paired.length hqs
  refine ⟨pa', rfl, ⟨_, SqT.of hq⟩, fun D hD => ?_⟩
  refine lc_tup (K := K) (a := pa') (xs := qs.map V.ref) (fun i H2 => Same H H2 ∧ WL H2 D (((prt (gw l d)).take i).map (joinP one other))) ⟨same_new hD _, upd_same⟩ (fun i H2 _ p => SqT.of (p.1 _ _ hq)) ?_ ?_
  · rintro i x H2 hx ⟨s2, hD2⟩
    obtain ⟨t, ht, rfl⟩ := at_ref hx
    obtain ⟨prs, hprs, hP⟩ := paired_get hqs ht
    obtain ⟨hi, epr⟩ := List.getElem?_eq_some_iff.mp hprs
    obtain ⟨lp, hlt⟩ := prt_lt C' (List.mem_of_getElem? hprs)
    obtain ⟨rs, hr, hrs⟩ := hP.t (.of s2)
    refine ⟨rfl, _, rfl, t, rfl, ⟨_, SqT.of hr⟩, fun D3 hD3 => ?_⟩
    refine lc_tup (K := K) (a := t) (xs := rs.map V.ref) (fun j H3 => Same H2 H3 ∧ WL H3 D3 ((prs.take j).map fun p => one.getD p.1 0 * other.getD p.2 0)) ⟨same_new hD3 _, upd_same⟩ (fun j H3 _ p => SqT.of (p.1 _ _ hr)) ?_ ?_
    · rintro j y H3 hy ⟨s3, hD3'⟩
      obtain ⟨p, hp, rfl⟩ := at_ref hy
      obtain ⟨pr, hpr, hpp⟩ := paired_get hrs hp
      obtain ⟨hj, epj⟩ := List.getElem?_eq_some_iff.mp hpr
      obtain ⟨b3, b4⟩ := hlt pr (List.mem_of_getElem? hpr)
      have s23 := s2.trans s3
      refine ⟨p, _, rfl, SqT.of (hpp.t (.of s3)), rfl, _, _, rfl, _, _, rfl, rfl, rfl, _, rfl, _, rfl, ?_⟩
      refine ixD_rd (ha.same s23) (by omega) ⟨_, rfl, _, rfl, ?_⟩
      refine ixD_rd (hb.same s23) (by omega) ⟨_, _, rfl, rfl, ⟨k, m, hk, hm, b1.getD _, b2.getD _⟩, _, hD3', ?_, same_upd hD3 s3, ?_⟩
      · rw [List.length_map, List.length_map, List.length_take]; exact Nat.lt_of_le_of_lt (show min j _ ≤ 1000 by omega) (by decide)
      · unfold WL
        rw [upd_same, List.take_succ_eq_append_getElem hj, List.map_append, List.map_append, epj]
        rfl
    · rintro H3 ⟨s3, hD3'⟩
      rw [List.length_map, Paired.length hrs, List.take_length] at hD3'
      have hD3s := s3 _ _ hD2
      refine ⟨D3, _, rfl, SqL.of hD3', _, hD3s, ?_, same_upd hD (s2.trans s3), ?_⟩
      · rw [List.length_map, List.length_map, List.length_take]; exact Nat.lt_of_le_of_lt (show min i _ ≤ 1000 by omega) (by decide)
      · unfold WL
        rw [upd_same, List.take_succ_eq_append_getElem hi, List.map_append, List.map_append, epr]
        rfl
  · rintro H2 ⟨s2, hD2⟩
    rw [List.length_map, lq, List.take_length] at hD2
    exact q D H2 hD hD2 s2
abbrev s_rest_powers : Stmt := top 8
theorem sc_rest_powers : FnScope ["ground", "one", "rest", "powers", "power"] ["ground", "one"] (defScope s_rest_powers) := ⟨rfl, rfl, rfl, by decide +kernel, rfl, by decide +kernel, by decide +kernel⟩
theorem ok_rest_powers {f : Addr} {fd : FuncData} (F : Fun K "rest_powers" "rest_powers" s_rest_powers f fd) (T : Txt mg) {C aD : Addr} (TG : TxtG K mg C aD)  (C_empty_sums : Cal P w K mg base "empty_sums" ["ground"] 2 (spEmpty C)) (C_sums_joined : Cal P w K mg base "sums_joined" ["ground", "one", "other"] 2 (spJoin C)) : FnOk P w K mg base CX0 3 f fd ["ground", "one"] (spRest C) := by
  refine F.ok sc_rest_powers (fun vs H Q E h => ?_) (fun cdv A outer s H vs Q E hr h => ?_)
  · obtain ⟨g, a, one, l, d, k, rfl, _⟩ := h
    rfl
  obtain ⟨g, a, one, l, d, k, rfl, G, ha, l1, b1, hk, q⟩ := h
  refine ⟨_, (pss_cons (ps_set (i := 2) sc_rest_powers.nd rfl (Or.inl rfl) (pe_op op_catN (pe_lstN (pa_cons pe_int pa_nil)) (pe_callTy (r := rListOf K) (T := "list") c_list (by rfl) T.b_list (by decide +kernel) (pa_cons (pe_slice (r := R3.rSlS K) R3.sl_seq (pv 1) (po_some pe_int) po_none) pa_nil))))
      (pss_cons (ps_set (i := 3) sc_rest_powers.nd rfl (Or.inl rfl) (pe_lstN (pa_cons (C_empty_sums.pe (hr.mono (by decide)) (by rfl) (pa_cons (pv 0) pa_nil)) pa_nil)))
      (pss_cons (ps_set (i := 4) sc_rest_powers.nd rfl (Or.inl rfl) (pv 2))
      (pss_cons (ps_while PassesOwn.never (pt_val (pe_callB (r := R9.rAnyI K) (id := "any") (R9.cr_anyI rfl) (by rfl) T.b_any (by decide +kernel) (pa_cons (pv 4) pa_nil))) (pss_cons (ps_expr (pe_bm PySem.F.plainAttrs_list PySem.F.slot_list_append PySem.F.type_list_append mt_append (pv 3) (pa_cons (pv 4) pa_nil)))
      (pss_one (ps_set (i := 4) sc_rest_powers.nd rfl (Or.inl rfl) (C_sums_joined.pe (hr.mono (by decide)) (by rfl) (pa_cons (pv 0) (pa_cons (pv 4) (pa_cons (pv 2) pa_nil))))))))
      (pss_one (ps_ret (pv 3))))))), ?_⟩
  obtain ⟨dx, pl, tu, nu, pa, en, fs, h1, h2, h3, h4, h5, h6, h7, h8, h9, a1, a2, a3, a4, a5⟩ := G.ex
  have C' := gw_cl G.ok
  have hl := C'.len
  have d5 := G.ok.d5
  obtain ⟨r0, er0⟩ := gw_first l d
  have hne : 1 ≤ (gw l d).length := by rw [er0]; exact Nat.succ_le_succ (Nat.zero_le _)
  have hr0 : ∀ w ∈ r0, 1 ≤ w.length := fun w hw => by
    rcases Nat.eq_zero_or_pos w.length with z | z
    · have nd := C'.nd
      rw [er0, List.nodup_cons] at nd
      rw [List.length_eq_zero_iff.mp z] at hw
      exact absurd hw nd.1
    · exact z
  have hsz : ∀ w ∈ gw l d, w.length < d + 1 := fun w hw => Nat.lt_succ_of_le (gw_mem.mp hw).1
  refine ⟨(by show 1 ≤ sizeLine; decide), fun z0 H1 f1 e1 s1 => ?_⟩
  refine ⟨_, rfl, 1, rfl, ?_⟩
  dsimp only [tNoPart]
  refine slS_rd (ha.same s1) fun c2 H2 g2 s2 => ?_
  have ec : cutI one (some 1) none = one.drop 1 := cutI_from one 1
  rw [ec] at g2
  dsimp only [tNil]
  refine list_rd g2 fun c3 H3 f3 g3 s3 => ?_
  refine ⟨z0, c3, _, _, rfl, rfl, (s2.trans s3) _ _ e1, g3, ?_, fun rs H4 f4 e4 s4 => ?_⟩
  · rw [List.length_map, List.length_drop]
    exact Nat.le_trans (show 1 + _ ≤ 1000 by omega) (by decide)
  have hrs : WL H4 rs (restW one) := e4
  have s14 := s1.trans (s2.trans (s3.trans s4))
  have lrest : (restW one).length = (gw l d).length := by rw [restW_len (by omega), l1]
  have brest : Bds k (restW one) := b1.rest
  have zrest : Zr (gw l d) 1 (restW one) := Zr.rest er0 hr0 one
  have epw : powsW l d one = emptyW (gw l d) :: powsF (gw l d) (restW one) (d + 1) (restW one) := rfl
  rw [epw] at q
  generalize restW one = rest at hrs lrest brest zrest q
  refine ⟨_, rfl, g, l, d, rfl, G.same s14, fun e0 H5 f5 g5 s5 => ⟨(by show 1 ≤ sizeLine; decide), fun pw H6 f6 e6 s6 => ?_⟩⟩
  have s16 := s14.trans (s5.trans s6)
  have fpw : H pw = none := (s14.trans s5).free f6
  refine ⟨_, rfl, ?_⟩
  refine ⟨fun m σ H7 => ∃ (ps : List Addr) (n : Nat) (pa : Addr) (cur : List Int) (done : List (List Int)), m = d + 1 - n ∧ σ = [some (.ref g), some (.ref a), some (.ref rs), some (.ref pw), some (.ref pa)] ∧ H7 pw = some (.lst (ps.map V.ref)) ∧ ps.length = n + 1 ∧ Paired (fun p x => WL H7 p x ∧ 1 ≤ x.length) ps (emptyW (gw l d) :: done) ∧ WL H7 pa cur ∧ WL H7 rs rest ∧
      cur.length = (gw l d).length ∧ Zr (gw l d) (n + 1) cur ∧ Bds ((n + 1) * (k + 11)) cur ∧ n ≤ d + 1 ∧ done ++ powsF (gw l d) rest (d + 1 - n) cur = powsF (gw l d) rest (d + 1) rest ∧ Same H H7,
    ⟨_, [e0], 0, rs, rest, [], rfl, rfl, e6, rfl, .cons ⟨g5.same s6, by rw [emptyW_len hne]; exact hne⟩ .nil, hrs.same (s5.trans s6), hrs.same (s5.trans s6), lrest, zrest, brest.mono (by omega), Nat.zero_le _, rfl, s16⟩, ?_⟩
  rintro m σ H7 ⟨ps, n, pa, cur, done, rfl, rfl, hp7, lps, hps, hc7, hr7, lc, zc, bc, hn, ed, s7⟩
  refine ⟨_, rfl, pa, cur, rfl, SqL.of hc7, _, rfl, ?_⟩
  cases ea : cur.any (· != 0) with
  | false =>
    refine iteF ?_
    rw [powsF_no ea, List.append_nil] at ed
    rw [ed] at hps
    exact ⟨_, rfl, q pw H7 fpw ⟨ps, hp7, Paired.imp' (fun _ _ z => z.1) hps⟩ s7⟩
  | true =>
    refine iteT ?_
    refine ⟨_, fun σ' H' h => h, ?_⟩
    have hn2 : n < d + 1 := by
      rcases Nat.lt_or_ge n (d + 1) with z | z
      · exact z
      · have := Zr.all zc lc fun w hw => Nat.lt_of_lt_of_le (hsz w hw) (by omega)
        rw [ea] at this
        cases this
    have hz : (ps.map V.ref).length < sizeLine := by rw [List.length_map, lps]; exact Nat.lt_of_le_of_lt (show n + 1 ≤ 1000 by omega) (by decide)
    refine ⟨_, rfl, .inl ⟨rfl, _, SqL.of hp7⟩, _, rfl, pw, _, _, rfl, rfl, hp7, hz, ?_⟩
    have e8 : upd H7 pw (.lst (ps.map V.ref ++ [V.ref pa])) pw = some (.lst ((ps ++ [pa]).map V.ref)) := by rw [upd_same, List.map_append]; rfl
    have s8 : Same H (upd H7 pw (.lst (ps.map V.ref ++ [V.ref pa]))) := same_upd fpw s7
    have c8 : WL (upd H7 pw (.lst (ps.map V.ref ++ [V.ref pa]))) pa cur := hc7.updR (by omega) hp7
    have r8 : WL (upd H7 pw (.lst (ps.map V.ref ++ [V.ref pa]))) rs rest := hr7.updR (by omega) hp7
    have p8 : Paired (fun p x => WL (upd H7 pw (.lst (ps.map V.ref ++ [V.ref pa]))) p x ∧ 1 ≤ x.length) (ps ++ [pa]) ((emptyW (gw l d) :: done) ++ [cur]) :=
      paired_app (Paired.imp' (fun _ _ z => ⟨z.1.updR z.2 hp7, z.2⟩) hps) ⟨c8, by omega⟩
    generalize upd H7 pw (.lst (ps.map V.ref ++ [V.ref pa])) = H8 at e8 s8 c8 r8 p8
    have hb1 : (n + 1) * (k + 11) ≤ 1000000 := Nat.le_trans (Nat.mul_le_mul (show n + 1 ≤ 6 by omega) (show k + 11 ≤ 100011 by omega)) (by decide)
    refine ⟨_, rfl, _, rfl, _, rfl, g, pa, rs, cur, rest, l, d, _, k, rfl, G.same s8, .inr c8, .inr r8, lc, lrest, bc, brest, hb1, by omega, fun r H9 f9 g9 s9 => ?_⟩
    refine ⟨d + 1 - (n + 1), by omega, ps ++ [pa], n + 1, r, joinW (gw l d) cur rest, done ++ [cur], rfl, rfl, s9 _ _ e8, by rw [List.length_append, lps]; rfl, Paired.imp' (fun _ _ z => ⟨z.1.same s9, z.2⟩) p8, g9, r8.same s9, joinW_len .., Zr.join C' zc zrest, (Bds.join C' bc brest).mono ?_, hn2, ?_, s8.trans s9⟩
    · rw [Nat.succ_mul (n + 1)]; omega
    · rw [← ed, powsF_yes ea (by omega), List.append_assoc]
      rfl
abbrev s_all_powers : Stmt := top 32
theorem sc_all_powers : FnScope ["ground", "place", "powers", "power"] ["ground", "place"] (defScope s_all_powers) := ⟨rfl, rfl, rfl, by decide +kernel, rfl, by decide +kernel, by decide +kernel⟩
theorem ok_all_powers {f : Addr} {fd : FuncData} (F : Fun K "all_powers" "all_powers" s_all_powers f fd) (T : Txt mg) {C aD : Addr} (TG : TxtG K mg C aD)  (M_bracket_at : CalM P w K mg base C "bracket_at" ["self", "place"] 8 (spMBr C 5)) (C_scattered : Cal P w K mg base "scattered" ["ground", "word"] 3 (spScat C)) (C_rest_powers : Cal P w K mg base "rest_powers" ["ground", "one"] 3 (spRest C)) : FnOk P w K mg base CX0 9 f fd ["ground", "place"] (spAllP C) := by
  refine F.ok sc_all_powers (fun vs H Q E h => ?_) (fun cdv A outer s H vs Q E hr h => ?_)
  · obtain ⟨g, i, w, l, d, rfl, _⟩ := h
    rfl
  obtain ⟨g, i, w, l, d, rfl, G, hw, q⟩ := h
  refine ⟨_, (pss_cons (ps_set (i := 2) sc_all_powers.nd rfl (Or.inl rfl) (C_rest_powers.pe (hr.mono (by decide)) (by rfl) (pa_cons (pv 0) (pa_cons (C_scattered.pe (hr.mono (by decide)) (by rfl) (pa_cons (pv 0) (pa_cons (M_bracket_at.pe TG.cl (hr.mono (by decide)) (pv 0) (pa_cons (pv 1) pa_nil)) pa_nil))) pa_nil))))
      (pss_one (ps_ret (pe_callTy (r := rTupleOf K) (T := "tuple") c_tuple (by rfl) T.b_tuple (by decide +kernel) (pa_cons (pe_lc (own := [("power", 3)]) (by rfl) sc_all_powers.nd (pi_list (pv 2)) (blkOk_by (own := [("power", 3)]) (N := ["ground", "place", "powers", "power"]) (sc := defScope s_all_powers) (by decide +kernel)) (fun _ _ _ _ _ => (pg_name (i := 3) sc_all_powers.nd rfl (Or.inl rfl))) (fun _ _ _ _ _ => pts_nil) (fun _ _ _ _ _ => (pe_callTy (r := rTupleOf K) (T := "tuple") c_tuple (by rfl) T.b_tuple (by decide +kernel) (pa_cons (pv 3) pa_nil)))) pa_nil))))), ?_⟩
  obtain ⟨dx, pl, tu, nu, pa, en, fs, h1, h2, h3, h4, h5, h6, h7, h8, h9, a1, a2, a3, a4, a5⟩ := G.ex
  have C' := gw_cl G.ok
  have hl := (gw_fin G.ok).2
  have d5 := G.ok.d5
  obtain ⟨r0, er0⟩ := gw_first l d
  have hne : 1 ≤ (gw l d).length := by rw [er0]; exact Nat.succ_le_succ (Nat.zero_le _)
  have hwm := List.mem_of_getElem? hw
  have w1 := (gt_mem.mp hwm).1
  refine ⟨_, rfl, _, rfl, _, rfl, g, dx, fs, rfl, h1, noM h2 "bracket_at", _, rfl, g, i, w, l, d, rfl, G, hw, by omega, fun t b H1 Bb hb s1 => ?_⟩
  have lb := Bb.len5 (by omega)
  refine ⟨g, t, b, l, d, rfl, G.same s1, .inl hb, by omega, fun r H2 f2 g2 s2 => ?_⟩
  have hbd : b.length * (gw l d).length ≤ 100000 := Nat.le_trans (Nat.mul_le_mul lb hl) (by decide)
  refine ⟨g, r, _, l, d, _, rfl, G.same (s1.trans s2), .inr g2, scatW_len hne b, Bds.scat (gw l d) b, hbd, fun pw H3 f3 g3 s3 => ?_⟩
  obtain ⟨ps, hp3, hps⟩ := g3
  have s13 := s1.trans (s2.trans s3)
  have lp : (powsW l d (scatW (gw l d) b)).length ≤ 10 := by
    unfold powsW
    rw [List.length_cons]
    have := powsF_len (gw l d) (restW (scatW (gw l d) b)) (d + 1) (restW (scatW (gw l d) b))
    omega
  generalize hpows : powsW l d (scatW (gw l d) b) = pows at hps lp
  have lps := Paired.length hps
  refine ⟨_, rfl, pw, rfl, ⟨_, SqL.of hp3⟩, fun D hD => ?_⟩
  refine lc_list (K := K) (a := pw) (xs := ps.map V.ref) (fun j H4 => Same H3 H4 ∧ ∃ qs : List Addr, H4 D = some (.lst (qs.map V.ref)) ∧ WsAt H4 qs (pows.take j)) ⟨same_new hD _, [], upd_same, .nil⟩ (fun j H4 _ p => SqL.of (p.1 _ _ hp3)) ?_ ?_
  · rintro j x H4 hx ⟨s4, qs, hq4, hqs⟩
    obtain ⟨p, hp, rfl⟩ := at_ref hx
    obtain ⟨ns, hns, hpn⟩ := paired_get hps hp
    obtain ⟨hj, ens⟩ := List.getElem?_eq_some_iff.mp hns
    refine ⟨rfl, _, rfl, ?_⟩
    dsimp only [tNil]
    refine tup_rd (.inr (WL.same hpn s4)) fun t5 H5 h5 s5 => ?_
    have hq5 := s5 _ _ hq4
    have lq := hqs.len
    rw [List.length_take] at lq
    refine ⟨_, hq5, by rw [List.length_map]; exact Nat.lt_of_le_of_lt (show qs.length ≤ 1000 by omega) (by decide), same_upd hD (s4.trans s5), qs ++ [t5], by rw [upd_same, List.map_append]; rfl, ?_⟩
    rw [List.take_succ_eq_append_getElem hj, ens]
    exact WsAt.app ((hqs.same s5).updL hq5) (.cons (h5.updL hq5) .nil)
  · rintro H4 ⟨s4, qs, hq4, hqs⟩
    rw [List.length_map, lps, List.take_length] at hqs
    refine ⟨D, _, rfl, .inl ⟨SqL.of hq4, fun t6 ht6 => ?_⟩⟩
    have s6 := same_new ht6 (.tup (qs.map V.ref))
    exact q t6 b _ Bb ⟨qs, upd_same, by rw [hpows]; exact hqs.same s6⟩ (s13.trans (s4.trans s6))
abbrev s_Ground_init : Stmt := inClass (top 28) 0
theorem sc_Ground_init : FnScope ["self", "letters", "depth", "word", "place", "number"] ["self", "letters", "depth"] (defScope s_Ground_init) := ⟨rfl, rfl, rfl, by decide +kernel, rfl, by decide +kernel, by decide +kernel⟩
theorem ok_Ground_init {f : Addr} {fd : FuncData} (F : Fun K "__init__" "Ground.__init__" s_Ground_init f fd) (T : Txt mg) {C aD : Addr} (TG : TxtG K mg C aD)  (C_words_up_to : Cal P w K mg base "words_up_to" ["letters", "depth"] 2 spWordsUp) (C_is_turnword : Cal P w K mg base "is_turnword" ["word"] 3 spTwS) (C_all_partings : Cal P w K mg base "all_partings" ["words"] 1 spPartings) (C_all_endings : Cal P w K mg base "all_endings" ["words"] 1 spEndings) (C_all_powers : Cal P w K mg base "all_powers" ["ground", "place"] 9 (spAllP C)) : FnOk P w K mg base CX0 10 f fd ["self", "letters", "depth"] (spInit C) := by
  refine F.ok sc_Ground_init (fun vs H Q E h => ?_) (fun cdv A outer s H vs Q E hr h => ?_)
  · obtain ⟨g, dx, l, d, rfl, _⟩ := h
    rfl
  obtain ⟨g, dx, l, d, rfl, hg, ok, q⟩ := h
  refine ⟨_, (pss_cons (ps_if (PW.pt (pw_or (pt_not (pt_chain op_le op_lt pe_int (pv 1) (pe_callB (r := rLen K) (id := "len") c_len (by rfl) T.b_len (by decide +kernel) (pa_cons (pe_glob (v := .ref aD) (by rfl) TG.mgD rfl) pa_nil)))) (pw_or1 (pt_not (pt_chain op_le op_le pe_int (pv 2) (pe_ix (r := rIxT K) ix_tup (pe_glob (v := .ref aD) (by rfl) TG.mgD rfl) (pv 1) (fun _ _ => rfl))))))) (pss_one ps_never) pss_nil)
      (pss_cons (ps_fld (pv 0) (pv 1) rfl)
      (pss_cons (ps_fld (pv 0) (pv 2) rfl)
      (pss_cons (ps_fld (pv 0) (C_words_up_to.pe (hr.mono (by decide)) (by rfl) (pa_cons (pv 1) (pa_cons (pv 2) pa_nil))) rfl)
      (pss_cons (ps_fld (pv 0) (pe_lc (own := [("word", 3)]) (by rfl) sc_Ground_init.nd (pi_list (pe_fld (pv 0) rfl)) (blkOk_by (own := [("word", 3)]) (N := ["self", "letters", "depth", "word", "place", "number"]) (sc := defScope s_Ground_init) (by decide +kernel)) (fun _ _ _ _ _ => (pg_name (i := 3) sc_Ground_init.nd rfl (Or.inl rfl))) (fun _ _ _ _ _ => (pts_one (pt_val (C_is_turnword.pe (hr.mono (by decide)) (by rfl) (pa_cons (pv 3) pa_nil))))) (fun _ _ _ _ _ => (pv 3))) rfl)
      (pss_cons (ps_fld (pv 0) (pe_dc (o0 := .dT []) (g := gTup K 2 (gCons (gName 4) (gCons (gName 3) gNil))) (own := [("place", 4), ("word", 3)]) (.inr rfl) (hu_of hr) (by rfl) sc_Ground_init.nd (pi_enum (by rfl) T.b_enumerate (pa_cons (pe_fld (pv 0) rfl) pa_nil)) (blkOk_by (own := [("place", 4), ("word", 3)]) (N := ["self", "letters", "depth", "word", "place", "number"]) (sc := defScope s_Ground_init) (by decide +kernel)) (fun _ _ _ _ _ => (pg_tup (by rfl) (pgs_cons (pg_name (i := 4) sc_Ground_init.nd rfl (Or.inl rfl)) (pgs_cons (pg_name (i := 3) sc_Ground_init.nd rfl (Or.inl rfl)) pgs_nil)))) (fun _ _ _ _ _ => pts_nil) (fun _ _ _ _ _ => (pv 3)) (fun _ _ _ _ _ => (pv 4))) rfl)
      (pss_cons (ps_fld (pv 0) (C_all_partings.pe (hr.mono (by decide)) (by rfl) (pa_cons (pe_fld (pv 0) rfl) pa_nil)) rfl)
      (pss_cons (ps_fld (pv 0) (C_all_endings.pe (hr.mono (by decide)) (by rfl) (pa_cons (pe_fld (pv 0) rfl) pa_nil)) rfl)
      (pss_cons (ps_fld (pv 0) (pe_callTy (r := rTupleOf K) (T := "tuple") c_tuple (by rfl) T.b_tuple (by decide +kernel) (pa_cons (pe_lc (g := gTup K 2 (gCons (gName 5) (gCons (gName 3) gNil))) (own := [("number", 5), ("word", 3)]) (by rfl) sc_Ground_init.nd (pi_enum (by rfl) T.b_enumerate (pa_cons (pe_fld (pv 0) rfl) pa_nil)) (blkOk_by (own := [("number", 5), ("word", 3)]) (N := ["self", "letters", "depth", "word", "place", "number"]) (sc := defScope s_Ground_init) (by decide +kernel)) (fun _ _ _ _ _ => (pg_tup (by rfl) (pgs_cons (pg_name (i := 5) sc_Ground_init.nd rfl (Or.inl rfl)) (pgs_cons (pg_name (i := 3) sc_Ground_init.nd rfl (Or.inl rfl)) pgs_nil)))) (fun _ _ _ _ _ => (pts_one (pt_cmp (pc_din (hu_of hr) (pv 3) (peF (K := K) rfl (pv 0) rfl))))) (fun _ _ _ _ _ => (pv 5))) pa_nil)) rfl)
      (pss_one (ps_fld (pv 0) (pe_lc (own := [("place", 4)]) (by rfl) sc_Ground_init.nd (pi_range1 (by rfl) T.b_range (pa_cons (pe_callB (r := rLen K) (id := "len") c_len (by rfl) T.b_len (by decide +kernel) (pa_cons (pe_fld (pv 0) rfl) pa_nil)) pa_nil)) (blkOk_by (own := [("place", 4)]) (N := ["self", "letters", "depth", "word", "place", "number"]) (sc := defScope s_Ground_init) (by decide +kernel)) (fun _ _ _ _ _ => (pg_name (i := 4) sc_Ground_init.nd rfl (Or.inl rfl))) (fun _ _ _ _ _ => pts_nil) (fun _ _ _ _ _ => (C_all_powers.pe (hr.mono (by decide)) (by rfl) (pa_cons (pv 0) (pa_cons (pv 4) pa_nil))))) rfl))))))))))), ?_⟩
  have l1 := ok.l1
  have l4 := ok.l4
  have d1 := ok.d1
  have d5 := ok.d5
  have C' := gw_cl ok
  have lgw := (gw_fin ok).2
  have lgt := gt_len ok
  obtain ⟨mm, hmm, hdm⟩ := deepest_at ok
  -- the pair is one of a ground
  refine ⟨_, rfl, _, _, rfl, rfl, _, rfl, ?_⟩
  refine if_yes (decide_eq_true (by omega)) ?_
  refine ⟨aD, _, rfl, .inr (TG.dp _), _, _, rfl, rfl, _, rfl, ?_⟩
  refine if_no ?_ ?_
  · have : ((l : Nat) : Int) < 5 := by omega
    simp [this]
  refine ⟨_, rfl, _, _, rfl, rfl, _, rfl, ?_⟩
  refine if_yes (decide_eq_true (by omega)) ?_
  refine ⟨_, rfl, aD, _, _, _, rfl, rfl, TG.dp _, atI_nat hmm, _, _, rfl, rfl, _, rfl, ?_⟩
  refine if_no ?_ ?_
  · have : ((d : Nat) : Int) ≤ (mm : Nat) := by omega
    simp [this]
  dsimp only [tNext]
  -- letter_count, deepest
  have ln0 : ([] : List (Str × V)).length ≤ 0 := Nat.le_refl _
  have m0 : ∀ m ∈ mets, ([] : List (Str × V)).lookup m = none := fun _ _ => rfl
  generalize ([] : List (Str × V)) = fs0 at hg ln0 m0
  refine ⟨_, rfl, _, rfl, g, C, dx, fs0, rfl, hg, TG.cl, TG.n "letter_count", by omega, ?_⟩
  have g1 : (upd H g (.ins C dx (putF "letter_count" (V.int (l : Nat)) fs0))) g = some (.ins C dx (putF "letter_count" (V.int (l : Nat)) fs0)) := upd_same
  have sb1 : SameB g H (upd H g (.ins C dx (putF "letter_count" (V.int (l : Nat)) fs0))) := SameB.trans (SameB.refl H) sameB_upd
  have n1 : SameN H (upd H g (.ins C dx (putF "letter_count" (V.int (l : Nat)) fs0))) := .upd hg
  have lk1 : ∀ f : Str, (putF "letter_count" (V.int (l : Nat)) fs0).lookup f = if f = "letter_count" then some (V.int (l : Nat)) else fs0.lookup f := fun f => lookup_putF "letter_count" f (V.int (l : Nat)) fs0
  have ln1 : (putF "letter_count" (V.int (l : Nat)) fs0).length ≤ 1 := Nat.le_trans (putF_len ..) (by omega)
  generalize putF "letter_count" (V.int (l : Nat)) fs0 = fs1 at g1 sb1 n1 lk1 ln1 ⊢
  generalize upd H g (.ins C dx fs1) = H1 at g1 sb1 n1 ⊢
  refine ⟨_, rfl, _, rfl, g, C, dx, fs1, rfl, g1, TG.cl, TG.n "deepest", by omega, ?_⟩
  have g2 : (upd H1 g (.ins C dx (putF "deepest" (V.int (d : Nat)) fs1))) g = some (.ins C dx (putF "deepest" (V.int (d : Nat)) fs1)) := upd_same
  have sb2 : SameB g H (upd H1 g (.ins C dx (putF "deepest" (V.int (d : Nat)) fs1))) := SameB.trans sb1 sameB_upd
  have n2 : SameN H1 (upd H1 g (.ins C dx (putF "deepest" (V.int (d : Nat)) fs1))) := .upd g1
  have lk2 : ∀ f : Str, (putF "deepest" (V.int (d : Nat)) fs1).lookup f = if f = "deepest" then some (V.int (d : Nat)) else fs1.lookup f := fun f => lookup_putF "deepest" f (V.int (d : Nat)) fs1
  have ln2 : (putF "deepest" (V.int (d : Nat)) fs1).length ≤ 2 := Nat.le_trans (putF_len ..) (by omega)
  generalize putF "deepest" (V.int (d : Nat)) fs1 = fs2 at g2 sb2 n2 lk2 ln2 ⊢
  generalize upd H1 g (.ins C dx fs2) = H2 at g2 sb2 n2 ⊢
  -- plain
  refine ⟨_, rfl, _, rfl, l, d, rfl, ok, fun pl Ha fa hpl sa => ?_⟩
  have ga := sa _ _ g2
  have sba : SameB g H Ha := sb2.same sa
  refine ⟨_, rfl, g, C, dx, fs2, rfl, ga, TG.cl, TG.n "plain", by omega, ?_⟩
  have g3 : (upd Ha g (.ins C dx (putF "plain" (V.ref pl) fs2))) g = some (.ins C dx (putF "plain" (V.ref pl) fs2)) := upd_same
  have sb3 : SameB g H (upd Ha g (.ins C dx (putF "plain" (V.ref pl) fs2))) := SameB.trans sba sameB_upd
  have n3 : SameN Ha (upd Ha g (.ins C dx (putF "plain" (V.ref pl) fs2))) := .upd ga
  have lk3 : ∀ f : Str, (putF "plain" (V.ref pl) fs2).lookup f = if f = "plain" then some (V.ref pl) else fs2.lookup f := fun f => lookup_putF "plain" f (V.ref pl) fs2
  have ln3 : (putF "plain" (V.ref pl) fs2).length ≤ 3 := Nat.le_trans (putF_len ..) (by omega)
  generalize putF "plain" (V.ref pl) fs2 = fs3 at g3 sb3 n3 lk3 ln3 ⊢
  generalize upd Ha g (.ins C dx fs3) = H3 at g3 sb3 n3 ⊢
  have hpl3 := hpl.n n3
  obtain ⟨ps, hra3, hps3⟩ := id hpl3
  have lps := hps3.len
  -- turned
  refine ⟨_, rfl, g, C, dx, fs3, _, rfl, g3, TG.cl, TG.n "plain", by rw [lk3, if_pos rfl], pl, rfl, ⟨_, SqL.of hra3⟩, fun tu htu => ?_⟩
  refine lc_list (K := K) (a := pl) (xs := ps.map V.ref) (fun i Hb => Same H3 Hb ∧ ∃ qs : List Addr, Hb tu = some (.lst (qs.map V.ref)) ∧ WsAt Hb qs (((gw l d).take i).filter tw)) ⟨same_new htu _, [], upd_same, .nil⟩ (fun i Hb _ p => SqL.of (p.1 _ _ hra3)) ?_ ?_
  · rintro i x Hb hx ⟨s4, qs, hq4, hqs⟩
    obtain ⟨p, hp, rfl⟩ := at_ref hx
    obtain ⟨w, hw, hpw⟩ := hps3.get hp
    obtain ⟨hi, ew⟩ := List.getElem?_eq_some_iff.mp hw
    have ft := filter_take hi
    rw [ew] at ft
    have hwl := C'.siz w (List.mem_of_getElem? hw)
    refine ⟨rfl, _, rfl, p, w, rfl, .inl (hpw.same s4), by omega, fun Hc s5 => ⟨_, rfl, ?_⟩⟩
    have hq5 := s5 _ _ hq4
    refine ite2 (fun z => ?_) (fun z => ?_)
    · rw [if_pos z] at ft
      have lq := hqs.len
      have lf := List.length_filter_le tw ((gw l d).take i)
      rw [List.length_take] at lf
      refine ⟨_, rfl, _, hq5, by rw [List.length_map]; exact Nat.lt_of_le_of_lt (show qs.length ≤ 1000 by omega) (by decide), same_upd htu (s4.trans s5), qs ++ [p], by rw [upd_same, List.map_append]; rfl, ?_⟩
      rw [ft]
      exact WsAt.app ((hqs.same s5).updL hq5) (.cons ((hpw.same (s4.trans s5)).updL hq5) .nil)
    · rw [if_neg z, List.append_nil] at ft
      exact ⟨s4.trans s5, qs, hq5, by rw [ft]; exact hqs.same s5⟩
  rintro Hb ⟨sb', qs, hqb, hqs⟩
  rw [List.length_map, lps, List.take_length] at hqs
  have htub : Ws Hb tu (gt l d) := ⟨qs, hqb, hqs⟩
  have gb := sb' _ _ g3
  have sbb : SameB g H Hb := sb3.same sb'
  refine ⟨_, rfl, g, C, dx, fs3, rfl, gb, TG.cl, TG.n "turned", by omega, ?_⟩
  have g4 : (upd Hb g (.ins C dx (putF "turned" (V.ref tu) fs3))) g = some (.ins C dx (putF "turned" (V.ref tu) fs3)) := upd_same
  have sb4 : SameB g H (upd Hb g (.ins C dx (putF "turned" (V.ref tu) fs3))) := SameB.trans sbb sameB_upd
  have n4 : SameN Hb (upd Hb g (.ins C dx (putF "turned" (V.ref tu) fs3))) := .upd gb
  have lk4 : ∀ f : Str, (putF "turned" (V.ref tu) fs3).lookup f = if f = "turned" then some (V.ref tu) else fs3.lookup f := fun f => lookup_putF "turned" f (V.ref tu) fs3
  have ln4 : (putF "turned" (V.ref tu) fs3).length ≤ 4 := Nat.le_trans (putF_len ..) (by omega)
  generalize putF "turned" (V.ref tu) fs3 = fs4 at g4 sb4 n4 lk4 ln4 ⊢
  generalize upd Hb g (.ins C dx fs4) = H4 at g4 sb4 n4 ⊢
  have hpl4 := hpl3.n ((SameN.of sb').trans n4)
  have htu4 := htub.n n4
  obtain ⟨ts, hrt4, hts4⟩ := id htu4
  have lts := hts4.len
  -- numbered
  refine ⟨_, rfl, g, C, dx, fs4, _, rfl, g4, TG.cl, TG.n "turned", by rw [lk4, if_pos rfl], tu, _, rfl, SqL.of hrt4, fun nu hnu => ?_⟩
  refine R9.dc_enum (K := K) (a := tu) (xs := ts.map V.ref) (fun i H2 => Same H4 H2 ∧ H2 nu = some (.dT (numT ((gt l d).take i)))) ⟨same_new hnu _, upd_same⟩ (fun i H2 p => SqL.of (p.1 _ _ hrt4)) ?_ ?_
  · rintro i x T H2 hx hT ⟨s2, hD2⟩
    obtain ⟨p, hp, rfl⟩ := at_ref hx
    obtain ⟨w, hw, hpw⟩ := hts4.get hp
    obtain ⟨hi, ew⟩ := List.getElem?_eq_some_iff.mp hw
    subst ew
    have sT := same_new hT (.tup [.int (i : Nat), .ref p])
    refine ⟨T, _, rfl, SqT.of upd_same, rfl, _, _, rfl, _, _, rfl, rfl, rfl, _, rfl, _, rfl, _, num_step (gt_nodup ok) (by omega) hi (sT _ _ hD2) ((hpw.same s2).same sT), same_upd hnu (s2.trans sT), upd_same⟩
  rintro Hd ⟨sd, hnud⟩
  rw [List.length_map, lts, List.take_length] at hnud
  have gd := sd _ _ g4
  have sbd : SameB g H Hd := sb4.same sd
  refine ⟨_, rfl, g, C, dx, fs4, rfl, gd, TG.cl, TG.n "numbered", by omega, ?_⟩
  have g5 : (upd Hd g (.ins C dx (putF "numbered" (V.ref nu) fs4))) g = some (.ins C dx (putF "numbered" (V.ref nu) fs4)) := upd_same
  have sb5 : SameB g H (upd Hd g (.ins C dx (putF "numbered" (V.ref nu) fs4))) := SameB.trans sbd sameB_upd
  have n5 : SameN Hd (upd Hd g (.ins C dx (putF "numbered" (V.ref nu) fs4))) := .upd gd
  have lk5 : ∀ f : Str, (putF "numbered" (V.ref nu) fs4).lookup f = if f = "numbered" then some (V.ref nu) else fs4.lookup f := fun f => lookup_putF "numbered" f (V.ref nu) fs4
  have ln5 : (putF "numbered" (V.ref nu) fs4).length ≤ 5 := Nat.le_trans (putF_len ..) (by omega)
  generalize putF "numbered" (V.ref nu) fs4 = fs5 at g5 sb5 n5 lk5 ln5 ⊢
  generalize upd Hd g (.ins C dx fs5) = H5 at g5 sb5 n5 ⊢
  have c5 := (SameN.of sd).trans n5
  have hpl5 := hpl4.n c5
  have htu5 := htu4.n c5
  have hnu5 := n5.dT hnud
  -- parted
  refine ⟨_, rfl, g, C, dx, fs5, _, rfl, g5, TG.cl, TG.n "plain", by rw [lk5, if_neg (by decide +kernel), lk4, if_neg (by decide +kernel), lk3, if_pos rfl], pl, _, rfl, hpl5, C', fun pa He hpa se => ?_⟩
  have ge := se _ _ g5
  have sbe : SameB g H He := sb5.same se
  refine ⟨_, rfl, g, C, dx, fs5, rfl, ge, TG.cl, TG.n "parted", by omega, ?_⟩
  have g6 : (upd He g (.ins C dx (putF "parted" (V.ref pa) fs5))) g = some (.ins C dx (putF "parted" (V.ref pa) fs5)) := upd_same
  have sb6 : SameB g H (upd He g (.ins C dx (putF "parted" (V.ref pa) fs5))) := SameB.trans sbe sameB_upd
  have n6 : SameN He (upd He g (.ins C dx (putF "parted" (V.ref pa) fs5))) := .upd ge
  have lk6 : ∀ f : Str, (putF "parted" (V.ref pa) fs5).lookup f = if f = "parted" then some (V.ref pa) else fs5.lookup f := fun f => lookup_putF "parted" f (V.ref pa) fs5
  have ln6 : (putF "parted" (V.ref pa) fs5).length ≤ 6 := Nat.le_trans (putF_len ..) (by omega)
  generalize putF "parted" (V.ref pa) fs5 = fs6 at g6 sb6 n6 lk6 ln6 ⊢
  generalize upd He g (.ins C dx fs6) = H6 at g6 sb6 n6 ⊢
  have c6 := (SameN.of se).trans n6
  have hpl6 := hpl5.n c6
  have htu6 := htu5.n c6
  have hnu6 := c6.dT hnu5
  have hpa6 := hpa.t n6.t
  -- ended
  refine ⟨_, rfl, g, C, dx, fs6, _, rfl, g6, TG.cl, TG.n "plain", by rw [lk6, if_neg (by decide +kernel), lk5, if_neg (by decide +kernel), lk4, if_neg (by decide +kernel), lk3, if_pos rfl], pl, _, rfl, hpl6, C', fun en Hf hen sf => ?_⟩
  have gf := sf _ _ g6
  have sbf : SameB g H Hf := sb6.same sf
  refine ⟨_, rfl, g, C, dx, fs6, rfl, gf, TG.cl, TG.n "ended", by omega, ?_⟩
  have g7 : (upd Hf g (.ins C dx (putF "ended" (V.ref en) fs6))) g = some (.ins C dx (putF "ended" (V.ref en) fs6)) := upd_same
  have sb7 : SameB g H (upd Hf g (.ins C dx (putF "ended" (V.ref en) fs6))) := SameB.trans sbf sameB_upd
  have n7 : SameN Hf (upd Hf g (.ins C dx (putF "ended" (V.ref en) fs6))) := .upd gf
  have lk7 : ∀ f : Str, (putF "ended" (V.ref en) fs6).lookup f = if f = "ended" then some (V.ref en) else fs6.lookup f := fun f => lookup_putF "ended" f (V.ref en) fs6
  have ln7 : (putF "ended" (V.ref en) fs6).length ≤ 7 := Nat.le_trans (putF_len ..) (by omega)
  generalize putF "ended" (V.ref en) fs6 = fs7 at g7 sb7 n7 lk7 ln7 ⊢
  generalize upd Hf g (.ins C dx fs7) = H7 at g7 sb7 n7 ⊢
  have c7 := (SameN.of sf).trans n7
  have hpl7 := hpl6.n c7
  have htu7 := htu6.n c7
  have hnu7 := c7.dT hnu6
  have hpa7 := hpa6.t c7.t
  have hen7 := hen.n n7
  obtain ⟨ps7, hra7, hps7⟩ := id hpl7
  have lps7 := hps7.len
  -- standing
  refine ⟨_, rfl, g, C, dx, fs7, _, rfl, g7, TG.cl, TG.n "plain", by rw [lk7, if_neg (by decide +kernel), lk6, if_neg (by decide +kernel), lk5, if_neg (by decide +kernel), lk4, if_neg (by decide +kernel), lk3, if_pos rfl], pl, _, rfl, SqL.of hra7, fun D8 hD8 => ?_⟩
  refine R9.lc_enum (K := K) (a := pl) (xs := ps7.map V.ref) (fun i H2 => Same H7 H2 ∧ H2 D8 = some (.lst ((standF 0 ((gw l d).take i)).map V.int))) ⟨same_new hD8 _, upd_same⟩ (fun i H2 p => SqL.of (p.1 _ _ hra7)) ?_ ?_
  · rintro i x T H2 hx hT ⟨s2, hD2⟩
    obtain ⟨p, hp, rfl⟩ := at_ref hx
    obtain ⟨w, hw, hpw⟩ := hps7.get hp
    obtain ⟨hi, ew⟩ := List.getElem?_eq_some_iff.mp hw
    have st := stand_take hi
    rw [ew] at st
    have sT := same_new hT (.tup [.int (i : Nat), .ref p])
    have s2T := s2.trans sT
    have hD2T := sT _ _ hD2
    have hw2 := hpw.same s2T
    have nu2 := s2T _ _ hnu7
    refine ⟨T, _, rfl, SqT.of upd_same, rfl, _, _, rfl, _, _, rfl, rfl, rfl, _, rfl, _, rfl, g, C, dx, fs7, _, rfl, s2T _ _ g7, TG.cl, TG.n "numbered", by rw [lk7, if_neg (by decide +kernel), lk6, if_neg (by decide +kernel), lk5, if_pos rfl], nu, ?_⟩
    by_cases z : tw w = true
    · rw [if_pos z] at st
      have hm : w ∈ gt l d := List.mem_filter.mpr ⟨List.mem_of_getElem? hw, z⟩
      refine ⟨_, rfl, num_get nu2 hw2 hm, _, rfl, ?_⟩
      refine iteT ?_
      have lf := standF_len ((gw l d).take i) 0
      rw [List.length_take] at lf
      refine ⟨_, rfl, _, hD2T, by rw [List.length_map]; exact Nat.lt_of_le_of_lt (show _ ≤ 1000 by omega) (by decide), same_upd hD8 s2T, ?_⟩
      rw [upd_same, st, List.map_append]; rfl
    · rw [if_neg z, List.append_nil] at st
      have hm : w ∉ gt l d := fun h => z (List.mem_filter.mp h).2
      refine ⟨_, rfl, num_no nu2 hw2 hm, _, rfl, ?_⟩
      refine iteF ?_
      exact ⟨s2T, by rw [st]; exact hD2T⟩
  rintro Hh ⟨sh, hDh⟩
  rw [List.length_map, lps7, List.take_length] at hDh
  refine ⟨D8, _, rfl, .inl ⟨SqL.of hDh, fun st hst => ?_⟩⟩
  have si := same_new hst (.tup ((standF 0 (gw l d)).map V.int))
  have wst : WT (upd Hh st (.tup ((standF 0 (gw l d)).map V.int))) st (standW l d) := upd_same
  generalize upd Hh st (.tup ((standF 0 (gw l d)).map V.int)) = Hi at si wst ⊢
  have shi := sh.trans si
  have gi := shi _ _ g7
  have sbi : SameB g H Hi := sb7.same shi
  refine ⟨_, rfl, g, C, dx, fs7, rfl, gi, TG.cl, TG.n "standing", by omega, ?_⟩
  have g8 : (upd Hi g (.ins C dx (putF "standing" (V.ref st) fs7))) g = some (.ins C dx (putF "standing" (V.ref st) fs7)) := upd_same
  have sb8 : SameB g H (upd Hi g (.ins C dx (putF "standing" (V.ref st) fs7))) := SameB.trans sbi sameB_upd
  have n8 : SameN Hi (upd Hi g (.ins C dx (putF "standing" (V.ref st) fs7))) := .upd gi
  have lk8 : ∀ f : Str, (putF "standing" (V.ref st) fs7).lookup f = if f = "standing" then some (V.ref st) else fs7.lookup f := fun f => lookup_putF "standing" f (V.ref st) fs7
  have ln8 : (putF "standing" (V.ref st) fs7).length ≤ 8 := Nat.le_trans (putF_len ..) (by omega)
  generalize putF "standing" (V.ref st) fs7 = fs8 at g8 sb8 n8 lk8 ln8 ⊢
  generalize upd Hi g (.ins C dx fs8) = H8 at g8 sb8 n8 ⊢
  have c8 := (SameN.of shi).trans n8
  have hpl8 := hpl7.n c8
  have htu8 := htu7.n c8
  have hnu8 := c8.dT hnu7
  have hpa8 := hpa7.t c8.t
  have hen8 := hen7.n c8
  have hst8 := wst.t n8.t
  have mts8 : ∀ m ∈ mets, fs8.lookup m = none := fun m hm => by
    have e := List.all_eq_true.mp (show (mets.all fun m => !(m == "standing" || m == "ended" || m == "parted" || m == "numbered" || m == "turned" || m == "plain" || m == "deepest" || m == "letter_count")) = true by decide +kernel) m hm
    simp only [Bool.not_eq_true', Bool.or_eq_false_iff, beq_eq_false_iff_ne] at e
    obtain ⟨⟨⟨⟨⟨⟨⟨x8, x7⟩, x6⟩, x5⟩, x4⟩, x3⟩, x2⟩, x1⟩ := e
    rw [lk8, if_neg x8, lk7, if_neg x7, lk6, if_neg x6, lk5, if_neg x5, lk4, if_neg x4, lk3, if_neg x3, lk2, if_neg x2, lk1, if_neg x1]
    exact m0 m hm
  have G8 : GrP C H8 g l d := ⟨ok, dx, pl, tu, nu, pa, en, fs8, g8, mts8, by rw [lk8, if_neg (by decide +kernel), lk7, if_neg (by decide +kernel), lk6, if_neg (by decide +kernel), lk5, if_neg (by decide +kernel), lk4, if_neg (by decide +kernel), lk3, if_neg (by decide +kernel), lk2, if_neg (by decide +kernel), lk1, if_pos rfl], by rw [lk8, if_neg (by decide +kernel), lk7, if_neg (by decide +kernel), lk6, if_neg (by decide +kernel), lk5, if_neg (by decide +kernel), lk4, if_neg (by decide +kernel), lk3, if_neg (by decide +kernel), lk2, if_pos rfl], by rw [lk8, if_neg (by decide +kernel), lk7, if_neg (by decide +kernel), lk6, if_neg (by decide +kernel), lk5, if_neg (by decide +kernel), lk4, if_neg (by decide +kernel), lk3, if_pos rfl], by rw [lk8, if_neg (by decide +kernel), lk7, if_neg (by decide +kernel), lk6, if_neg (by decide +kernel), lk5, if_neg (by decide +kernel), lk4, if_pos rfl], by rw [lk8, if_neg (by decide +kernel), lk7, if_neg (by decide +kernel), lk6, if_neg (by decide +kernel), lk5, if_pos rfl], by rw [lk8, if_neg (by decide +kernel), lk7, if_neg (by decide +kernel), lk6, if_pos rfl], by rw [lk8, if_neg (by decide +kernel), lk7, if_pos rfl], hpl8, htu8, hnu8, hpa8, hen8⟩
  -- powered
  refine ⟨_, rfl, g, C, dx, fs8, _, rfl, g8, TG.cl, TG.n "turned", by rw [lk8, if_neg (by decide +kernel), lk7, if_neg (by decide +kernel), lk6, if_neg (by decide +kernel), lk5, if_neg (by decide +kernel), lk4, if_pos rfl], ?_⟩
  dsimp only [tNil]
  refine lenW_rd htu8 ⟨_, rfl, by omega, by omega, fun pw hpw => ?_⟩
  have nn : (((gt l d).length : Nat) : Int).toNat = (gt l d).length := by omega
  refine lc_range (lo := 0) (n := (((gt l d).length : Nat) : Int).toNat) (fun i H2 => Same H8 H2 ∧ ∃ qs : List Addr, H2 pw = some (.lst (qs.map V.ref)) ∧ Paired (fun p w => ∃ b, Br w b ∧ TT2 H2 p (powsW l d (scatW (gw l d) b))) qs ((gt l d).take i)) ⟨same_new hpw _, [], upd_same, .nil⟩ ?_ ?_
  · rintro i H2 hi ⟨s2, qs, hq2, hqs⟩
    rw [nn] at hi
    refine ⟨rfl, _, rfl, _, rfl, g, i, (gt l d)[i], l, d, ?_, G8.same s2, List.getElem?_eq_getElem hi, fun t b H9 Bb ht s9 => ?_⟩
    · show [V.ref g, V.int (0 + ↑i)] = _
      rw [Int.zero_add]
    have hq9 := s9 _ _ hq2
    have lq := Paired.length hqs
    rw [List.length_take] at lq
    refine ⟨_, hq9, by rw [List.length_map]; exact Nat.lt_of_le_of_lt (show qs.length ≤ 1000 by omega) (by decide), same_upd hpw (s2.trans s9), qs ++ [t], by rw [upd_same, List.map_append]; rfl, ?_⟩
    rw [List.take_succ_eq_append_getElem hi]
    exact paired_app (Paired.imp' (fun _ _ ⟨b, x, y⟩ => ⟨b, x, y.t ((SameT.of s9).trans (.updL hq9))⟩) hqs) ⟨b, Bb, ht.t (.updL hq9)⟩
  rintro Hj ⟨sj, qs, hqj, hqs⟩
  rw [nn, List.take_length] at hqs
  have gj := sj _ _ g8
  have sbj : SameB g H Hj := sb8.same sj
  refine ⟨_, rfl, g, C, dx, fs8, rfl, gj, TG.cl, TG.n "powered", by omega, ?_⟩
  have g9 : (upd Hj g (.ins C dx (putF "powered" (V.ref pw) fs8))) g = some (.ins C dx (putF "powered" (V.ref pw) fs8)) := upd_same
  have sb9 : SameB g H (upd Hj g (.ins C dx (putF "powered" (V.ref pw) fs8))) := SameB.trans sbj sameB_upd
  have n9 : SameN Hj (upd Hj g (.ins C dx (putF "powered" (V.ref pw) fs8))) := .upd gj
  have lk9 : ∀ f : Str, (putF "powered" (V.ref pw) fs8).lookup f = if f = "powered" then some (V.ref pw) else fs8.lookup f := fun f => lookup_putF "powered" f (V.ref pw) fs8
  have ln9 : (putF "powered" (V.ref pw) fs8).length ≤ 9 := Nat.le_trans (putF_len ..) (by omega)
  generalize putF "powered" (V.ref pw) fs8 = fs9 at g9 sb9 n9 lk9 ln9 ⊢
  generalize upd Hj g (.ins C dx fs9) = H9 at g9 sb9 n9 ⊢
  have c9 := (SameN.of sj).trans n9
  have mts9 : ∀ m ∈ mets, fs9.lookup m = none := fun m hm => by
    have e := List.all_eq_true.mp (show (mets.all fun m => !(m == "powered")) = true by decide +kernel) m hm
    simp only [Bool.not_eq_true', beq_eq_false_iff_ne] at e
    rw [lk9, if_neg e]
    exact mts8 m hm
  refine q H9 ⟨⟨ok, dx, pl, tu, nu, pa, en, fs9, g9, mts9, by rw [lk9, if_neg (by decide +kernel), lk8, if_neg (by decide +kernel), lk7, if_neg (by decide +kernel), lk6, if_neg (by decide +kernel), lk5, if_neg (by decide +kernel), lk4, if_neg (by decide +kernel), lk3, if_neg (by decide +kernel), lk2, if_neg (by decide +kernel), lk1, if_pos rfl], by rw [lk9, if_neg (by decide +kernel), lk8, if_neg (by decide +kernel), lk7, if_neg (by decide +kernel), lk6, if_neg (by decide +kernel), lk5, if_neg (by decide +kernel), lk4, if_neg (by decide +kernel), lk3, if_neg (by decide +kernel), lk2, if_pos rfl], by rw [lk9, if_neg (by decide +kernel), lk8, if_neg (by decide +kernel), lk7, if_neg (by decide +kernel), lk6, if_neg (by decide +kernel), lk5, if_neg (by decide +kernel), lk4, if_neg (by decide +kernel), lk3, if_pos rfl], by rw [lk9, if_neg (by decide +kernel), lk8, if_neg (by decide +kernel), lk7, if_neg (by decide +kernel), lk6, if_neg (by decide +kernel), lk5, if_neg (by decide +kernel), lk4, if_pos rfl], by rw [lk9, if_neg (by decide +kernel), lk8, if_neg (by decide +kernel), lk7, if_neg (by decide +kernel), lk6, if_neg (by decide +kernel), lk5, if_pos rfl], by rw [lk9, if_neg (by decide +kernel), lk8, if_neg (by decide +kernel), lk7, if_neg (by decide +kernel), lk6, if_pos rfl], by rw [lk9, if_neg (by decide +kernel), lk8, if_neg (by decide +kernel), lk7, if_pos rfl], hpl8.n c9, htu8.n c9, c9.dT hnu8, hpa8.t c9.t, hen8.n c9⟩, dx, st, pw, fs9, g9, by rw [lk9, if_neg (by decide +kernel), lk8, if_pos rfl], by rw [lk9, if_pos rfl], hst8.t c9.t, ?_⟩ sb9
  exact PwL.n ⟨qs, hqj, hqs⟩ n9
abbrev s_Ground_words : Stmt := inClass (top 28) 3
theorem sc_Ground_words : FnScope ["self"] ["self"] (defScope s_Ground_words) := ⟨rfl, rfl, rfl, by decide +kernel, rfl, by decide +kernel, by decide +kernel⟩
theorem ok_Ground_words {f : Addr} {fd : FuncData} (F : Fun K "words" "Ground.words" s_Ground_words f fd) (T : Txt mg) {C aD : Addr} (TG : TxtG K mg C aD)   : FnOk P w K mg base CX0 1 f fd ["self"] (spMWords C) := by
  refine F.ok sc_Ground_words (fun vs H Q E h => ?_) (fun cdv A outer s H vs Q E hr h => ?_)
  · obtain ⟨g, l, d, rfl, _⟩ := h
    rfl
  obtain ⟨g, l, d, rfl, G, q⟩ := h
  refine ⟨_, (pss_one (ps_ret (pe_callTy (r := rListOf K) (T := "list") c_list (by rfl) T.b_list (by decide +kernel) (pa_cons (pe_fld (pv 0) rfl) pa_nil)))), ?_⟩
  obtain ⟨dx, pl, tu, nu, pa, en, fs, h1, h2, h3, h4, h5, h6, h7, h8, h9, a1, a2, a3, a4, a5⟩ := G.ex
  obtain ⟨ps, hp, hps⟩ := a1
  refine ⟨_, rfl, g, C, dx, fs, _, rfl, h1, TG.cl, TG.n "plain", h5, pl, _, rfl, .inl (SqL.of hp), fun r hr => ?_⟩
  exact q r _ hr ⟨ps, upd_same, hps.same (same_new hr _)⟩ (same_new hr _)
abbrev s_Ground_bracket_powers : Stmt := inClass (top 28) 14
theorem sc_Ground_bracket_powers : FnScope ["self", "place"] ["self", "place"] (defScope s_Ground_bracket_powers) := ⟨rfl, rfl, rfl, by decide +kernel, rfl, by decide +kernel, by decide +kernel⟩
theorem ok_Ground_bracket_powers {f : Addr} {fd : FuncData} (F : Fun K "bracket_powers" "Ground.bracket_powers" s_Ground_bracket_powers f fd) (T : Txt mg) {C aD : Addr} (TG : TxtG K mg C aD)   : FnOk P w K mg base CX0 1 f fd ["self", "place"] (spMPow C) := by
  refine F.ok sc_Ground_bracket_powers (fun vs H Q E h => ?_) (fun cdv A outer s H vs Q E hr h => ?_)
  · obtain ⟨g, i, w, l, d, rfl, _⟩ := h
    rfl
  obtain ⟨g, i, w, l, d, rfl, G, hw, q⟩ := h
  refine ⟨_, (pss_one (ps_ret (pe_ix (r := rIxL K) ix_list (pe_fld (pv 0) rfl) (pv 1) (fun _ _ => rfl)))), ?_⟩
  obtain ⟨dx, st, pw, fs, h1, h2, h3, h4, ps, h5, h6⟩ := G.ex
  obtain ⟨p, hp, b, hb, ht⟩ := paired_at h6 hw
  rw [br_is G.p.ok (List.mem_of_getElem? hw) hb] at ht
  exact ⟨_, rfl, g, C, dx, fs, _, rfl, h1, TG.cl, TG.n "powered", h3, _, rfl, pw, _, _, _, rfl, rfl, SqL.of h5, ref_at hp, q p ht⟩
abbrev s_repeated : Stmt := top 18
theorem sc_repeated : FnScope ["word", "n"] ["word", "n"] (defScope s_repeated) := ⟨rfl, rfl, rfl, by decide +kernel, rfl, by decide +kernel, by decide +kernel⟩
theorem ok_repeated {f : Addr} {fd : FuncData} (F : Fun K "repeated" "repeated" s_repeated f fd) (T : Txt mg)  (C_backed : Cal P w K mg base "backed" ["word"] 1 spBacked) : FnOk P w K mg base CX0 2 f fd ["word", "n"] spRepeated := by
  refine F.ok sc_repeated (fun vs H Q E h => ?_) (fun cdv A outer s H vs Q E hr h => ?_)
  · obtain ⟨a, ns, n, rfl, _⟩ := h
    rfl
  obtain ⟨a, ns, n, rfl, ha, hn, hn', hl, hl2, q⟩ := h
  refine ⟨_, (pss_cons (ps_if (pt_cmpR op_lt (pv 1) pe_int (nomark _)) (pss_one (ps_ret (pe_op (r := R3.rRepA K) R3.op_repA (C_backed.pe (hr.mono (by decide)) (by rfl) (pa_cons (pv 0) pa_nil)) (pe_un un_neg (pv 1))))) pss_nil)
      (pss_one (ps_ret (pe_op (r := R3.rRepA K) R3.op_repA (pe_callTy (r := rTupleOf K) (T := "tuple") c_tuple (by rfl) T.b_tuple (by decide +kernel) (pa_cons (pv 0) pa_nil)) (pv 1))))), ?_⟩
  refine ⟨_, rfl, _, _, rfl, rfl, _, rfl, ?_⟩
  refine ite2 (fun z => ?_) (fun z => ?_)
  · have z' : n < 0 := of_decide_eq_true z
    refine ⟨_, rfl, a, ns, rfl, ha, by omega, fun t H1 h1 s1 => ⟨_, rfl, _, rfl, ?_⟩⟩
    refine rep_rd h1 (by omega) (by omega) (by rw [back_len, show (-n).toNat = n.natAbs by omega]; omega) fun c H2 h2 s2 => ?_
    exact q c H2 (by unfold repW; rw [if_pos z']; exact h2) (s1.trans s2)
  · have z' : ¬ n < 0 := of_decide_eq_false (Bool.eq_false_iff.mpr z)
    refine ⟨_, rfl, ?_⟩
    dsimp only [tNil]
    refine tup_rd ha fun t H1 h1 s1 => ⟨_, rfl, ?_⟩
    refine rep_rd h1 (by omega) (by omega) (by rw [show n.toNat = n.natAbs by omega]; omega) fun c H2 h2 s2 => ?_
    exact q c H2 (by unfold repW; rw [if_neg z']; exact h2) (s1.trans s2)
abbrev s_chosen : Stmt := top 2
theorem sc_chosen : FnScope ["n", "k", "told", "taken"] ["n", "k"] (defScope s_chosen) := ⟨rfl, rfl, rfl, by decide +kernel, rfl, by decide +kernel, by decide +kernel⟩
theorem ok_chosen {f : Addr} {fd : FuncData} (F : Fun K "chosen" "chosen" s_chosen f fd) (T : Txt mg)   : FnOk P w K mg base CX0 1 f fd ["n", "k"] spChB := by
  refine F.ok sc_chosen (fun vs H Q E h => ?_) (fun cdv A outer s H vs Q E hr h => ?_)
  · obtain ⟨n, k, m, rfl, _⟩ := h
    rfl
  obtain ⟨n, k, m, rfl, hn, hm1, hm2, hk, hk', q⟩ := h
  refine ⟨_, (pss_cons (ps_set (i := 2) sc_chosen.nd rfl (Or.inl rfl) pe_int)
      (pss_cons (ps_for PassesOwn.never rfl (pi_range1 (by rfl) T.b_range (pa_cons (pv 1) pa_nil)) (pg_name (i := 3) sc_chosen.nd rfl (Or.inl rfl)) (pss_one (ps_set (i := 2) sc_chosen.nd rfl (Or.inl rfl) (pe_op op_fdiv (pe_op R9.op_mulB (pv 2) (pe_op op_sub (pv 0) (pv 3))) (pe_op op_add (pv 3) pe_int)))))
      (pss_one (ps_ret (pv 2))))), ?_⟩
  refine ⟨_, rfl, k, rfl, by omega, by omega, ?_⟩
  refine for_range (lo := 0) (n := k.toNat) (fun i σ H2 => H2 = H ∧ ∃ u : Option V, σ = [some (.int n), some (.int k), some (.int (ch n i)), u]) ⟨rfl, none, rfl⟩ ?_ ?_
  · rintro i σ H2 hi ⟨rfl, u, rfl⟩
    have h1 := ch_sz hn hm1 i (by omega)
    have h2 : Sz (m + 1) (n - (0 + (i : Int))) := hn.sub (sz_small (by omega) (by omega) (by omega))
    refine ⟨_, rfl, _, rfl, _, rfl, _, _, rfl, rfl, _, _, rfl, rfl, ⟨_, _, ?_, ?_, h1.bd, h2.bd⟩, _, rfl, _, _, rfl, rfl, _, _, rfl, rfl, ⟨(show (0 : Int) < 0 + (i : Int) + 1 by omega), (show 0 + (i : Int) + 1 < 1073741824 by omega)⟩, rfl, some (.int (0 + (i : Int))), ?_⟩
    · have : (m + 1) * i ≤ (m + 1) * 7 := Nat.mul_le_mul_left _ (by omega)
      omega
    · omega
    · show [some (V.int n), some (V.int k), some (V.int (ch n i * (n - (0 + (i : Int))) / (0 + (i : Int) + 1))), some (V.int (0 + (i : Int)))] = _
      rw [Int.zero_add]
      rfl
  · rintro σ H2 ⟨rfl, u, rfl⟩
    exact ⟨_, rfl, q⟩
abbrev s_powers_chosen : Stmt := top 9
theorem sc_powers_chosen : FnScope ["powers", "n", "told", "k", "power", "times", "number", "worth", "more"] ["powers", "n"] (defScope s_powers_chosen) := ⟨rfl, rfl, rfl, by decide +kernel, rfl, by decide +kernel, by decide +kernel⟩
theorem ok_powers_chosen {f : Addr} {fd : FuncData} (F : Fun K "powers_chosen" "powers_chosen" s_powers_chosen f fd) (T : Txt mg)  (C_chosen : Cal P w K mg base "chosen" ["n", "k"] 1 spChB) : FnOk P w K mg base CX0 2 f fd ["powers", "n"] spPowB := by
  refine F.ok sc_powers_chosen (fun vs H Q E h => ?_) (fun cdv A outer s H vs Q E hr h => ?_)
  · obtain ⟨a, n, pss, m, k, s', rfl, _⟩ := h
    rfl
  obtain ⟨a, n, pss, m, k, s', rfl, hL, hn, hs1, hs2, h1, h10, hp, hm, hk, q⟩ := h
  refine ⟨_, (pss_cons (ps_setLc (i := 2) (own := [("number", 6)]) (by rfl) sc_powers_chosen.nd rfl rfl (sw_true rfl rfl rfl (by decide +kernel)) (R2.PI.or (pi_list (pe_ix (r := rIx K) ix_seq (pv 0) pe_int (fun _ _ => rfl))) (pi_tup (pe_ix (r := rIx K) ix_seq (pv 0) pe_int (fun _ _ => rfl)))) (blkOk_by (own := [("number", 6)]) (N := ["powers", "n", "told", "k", "power", "times", "number", "worth", "more"]) (sc := defScope s_powers_chosen) (by decide +kernel)) (fun _ _ _ _ _ => (pg_name (i := 6) sc_powers_chosen.nd rfl (Or.inl rfl))) (fun _ _ _ _ _ => pts_nil) (fun _ _ _ _ _ => pe_int))
      (pss_cons (ps_for PassesOwn.never rfl (R2.PI.or (pi_enum (by rfl) T.b_enumerate (pa_cons (pv 0) pa_nil)) (pi_enumT (by rfl) T.b_enumerate (pa_cons (pv 0) pa_nil))) (pg_tup (by rfl) (pgs_cons (pg_name (i := 3) sc_powers_chosen.nd rfl (Or.inl rfl)) (pgs_cons (pg_name (i := 4) sc_powers_chosen.nd rfl (Or.inl rfl)) pgs_nil))) (pss_cons (ps_set (i := 5) sc_powers_chosen.nd rfl (Or.inr rfl) (C_chosen.pe (hr.mono (by decide)) (by rfl) (pa_cons (pv 1) (pa_cons (pv 3) pa_nil))))
      (pss_one (ps_setLc (i := 2) (g := gTup K 2 (gCons (gName 7) (gCons (gName 8) gNil))) (own := [("worth", 7), ("more", 8)]) (by rfl) sc_powers_chosen.nd rfl rfl (sw_true rfl rfl rfl (by decide +kernel)) (R2.PI.or (pi_zip (by rfl) T.b_zip (pa_cons (pv 2) (pa_cons (pv 4) pa_nil))) (pi_zipT (by rfl) T.b_zip (pa_cons (pv 2) (pa_cons (pv 4) pa_nil)))) (blkOk_by (own := [("worth", 7), ("more", 8)]) (N := ["powers", "n", "told", "k", "power", "times", "number", "worth", "more"]) (sc := defScope s_powers_chosen) (by decide +kernel)) (fun _ _ _ _ _ => (pg_tup (by rfl) (pgs_cons (pg_name (i := 7) sc_powers_chosen.nd rfl (Or.inl rfl)) (pgs_cons (pg_name (i := 8) sc_powers_chosen.nd rfl (Or.inl rfl)) pgs_nil)))) (fun _ _ _ _ _ => pts_nil) (fun _ _ _ _ _ => (pe_op op_add (pv 7) (pe_op R9.op_mulB (pv 5) (pv 8))))))))
      (pss_one (ps_ret (pv 2))))), ?_⟩
  rcases hL with hL | hL
  · obtain ⟨ps, ha, hps⟩ := id hL
    have lps := Paired.length hps
    have i0 : 0 < pss.length := by omega
    obtain ⟨p0, hp0, hw0⟩ := paired_at hps (List.getElem?_eq_getElem i0)
    have l0 := (hp _ (List.getElem_mem i0)).1
    refine .inl ⟨_, rfl, .inl ⟨a, _, _, _, rfl, rfl, SqL.of ha, ref_at hp0, ⟨p0, rfl, ⟨_, SqL.of hw0⟩, fun D hD => ?_⟩⟩⟩
    refine lc_list (K := K) (a := p0) (xs := pss[0].map V.int) (fun j HH => Same H HH ∧ WL HH D (List.replicate j 0)) ⟨same_new hD _, upd_same⟩ (fun j HH _ p => SqL.of (p.1 _ _ hw0)) ?_ ?_
    · rintro j y HH hy ⟨z, hv⟩
      obtain ⟨hj, rfl⟩ := at_int hy
      refine ⟨rfl, _, hv, ?_, same_upd hD z, ?_⟩
      · rw [List.length_map, List.length_replicate]; exact Nat.lt_of_le_of_lt (show j ≤ 1000 by omega) (by decide)
      · unfold WL
        rw [upd_same, List.replicate_succ', List.map_append]
        rfl
    rintro H1 ⟨z1, hD1⟩
    rw [List.length_map, l0] at hD1
    have ha1 := z1 _ _ ha
    refine .inl ⟨_, rfl, a, _, rfl, SqL.of ha1, ?_⟩
    refine for_enum (K := K) (a := a) (xs := ps.map V.ref) (D := { nx := _, rt := Q }) (fun i σ HH => ∃ (t : Addr) (u3 u4 u5 u6 u7 u8 : Option V), σ = [some (.ref a), some (.int n), some (.ref t), u3, u4, u5, u6, u7, u8] ∧ H t = none ∧ WL HH t (chI n pss m i) ∧ Same H HH) ⟨D, none, none, none, none, none, none, rfl, hD, hD1, z1⟩ (fun i σ HH _ ⟨_, _, _, _, _, _, _, _, _, _, z⟩ => SqL.of (z _ _ ha)) ?_ ?_
    · rintro i y σ HH T hy ⟨t, u3, u4, u5, u6, u7, u8, rfl, ft, ht, z⟩ hT
      obtain ⟨p, hpp, rfl⟩ := at_ref hy
      have hi : i < pss.length := by have := (List.getElem?_eq_some_iff.mp hpp).1; omega
      obtain ⟨p', hp', hw⟩ := paired_at hps (List.getElem?_eq_getElem hi)
      obtain rfl : p' = p := Option.some.inj (hp'.symm.trans hpp)
      obtain ⟨lp, bp⟩ := hp _ (List.getElem_mem hi)
      have sT := same_new hT (.tup [.int (i : Nat), .ref p'])
      have zT := z.trans sT
      have htT : WL (upd HH T (.tup [.int (i : Nat), .ref p'])) t _ := sT _ _ ht
      refine ⟨T, _, rfl, SqT.of upd_same, rfl, _, _, rfl, _, _, rfl, rfl, ?_⟩
      generalize upd HH T (.tup [.int (i : Nat), .ref p']) = H2 at sT zT htT ⊢
      refine ⟨_, rfl, _, rfl, n, (i : Nat), s', rfl, hn, hs1, hs2, by omega, by omega, ?_⟩
      have hw2 : WL H2 p' pss[i] := zT _ _ hw
      have lt := chI_len (n := n) (fun p hpp => (hp p hpp).1) i (by omega)
      have zs := ch_sz hn hs1 i (by omega)
      rw [Int.toNat_natCast]
      refine .inl ⟨_, rfl, _, rfl, t, p', _, _, rfl, SqL.of htT, SqL.of hw2, fun D2 hD2 => ?_⟩
      have hD20 : H D2 = none := zT.free hD2
      have eci : chI n pss m (i + 1) = List.zipWith (fun a b => a + ch n i * b) (chI n pss m i) pss[i] := by
        rw [chI, List.getD_eq_getElem?_getD, List.getElem?_eq_getElem hi, Option.getD_some]
      refine lc_zip2 (K := K) (a := t) (b := p') (xs := (chI n pss m i).map V.int) (ys := pss[i].map V.int) (fun j H3 => Same H2 H3 ∧ WL H3 D2 ((chI n pss m (i + 1)).take j)) (by rw [List.length_map, List.length_map, lt, lp]) ⟨same_new hD2 _, upd_same⟩ (fun j H3 p => ⟨SqL.of (p.1 _ _ htT), SqL.of (p.1 _ _ hw2)⟩) ?_ ?_
      · rintro j y1 y2 T3 H3 hy1 hy2 hT3 ⟨z3, hv⟩
        obtain ⟨hj1, rfl⟩ := at_int hy1
        obtain ⟨hj2, rfl⟩ := at_int hy2
        have sT3 := same_new hT3 (.tup [V.int (chI n pss m i)[j], V.int pss[i][j]])
        have hv3 := sT3 _ _ hv
        refine ⟨T3, _, rfl, SqT.of upd_same, rfl, _, _, rfl, _, _, rfl, rfl, rfl, ?_⟩
        refine ⟨_, rfl, _, rfl, _, rfl, _, _, rfl, rfl, ⟨_, _, ?_, ?_, zs.bd, bp _ (List.getElem_mem hj2)⟩, _, _, rfl, rfl, _, hv3, ?_, same_upd hD2 (z3.trans sT3), ?_⟩
        · have : (s' + 1) * i ≤ (s' + 1) * 7 := Nat.mul_le_mul_left _ (by omega)
          omega
        · exact hk
        · rw [List.length_map, List.length_take]; exact Nat.lt_of_le_of_lt (show _ ≤ 1000 by omega) (by decide)
        · unfold WL
          rw [upd_same, eci, zip_at hj1 hj2, List.map_append]
          rfl
      rintro H3 ⟨z3, hv⟩
      rw [List.length_map, lt] at hv
      have lt1 := chI_len (n := n) (fun p hpp => (hp p hpp).1) (i + 1) (by omega)
      rw [List.take_of_length_le (by omega)] at hv
      exact ⟨D2, _, _, _, _, _, _, rfl, hD20, hv, zT.trans z3⟩
    · rintro σ HH ⟨t, u3, u4, u5, u6, u7, u8, rfl, ft, ht, z⟩
      rw [List.length_map, lps] at ht
      exact ⟨_, rfl, q t HH ft ht z⟩
  · obtain ⟨ps, ha, hps⟩ := id hL
    have lps := Paired.length hps
    have i0 : 0 < pss.length := by omega
    obtain ⟨p0, hp0, hw0⟩ := paired_at hps (List.getElem?_eq_getElem i0)
    have l0 := (hp _ (List.getElem_mem i0)).1
    refine .inr ⟨_, rfl, .inr <| .inl ⟨a, _, _, _, rfl, rfl, SqT.of ha, ref_at hp0, ⟨p0, rfl, ⟨_, SqT.of hw0⟩, fun D hD => ?_⟩⟩⟩
    refine lc_tup (K := K) (a := p0) (xs := pss[0].map V.int) (fun j HH => Same H HH ∧ WL HH D (List.replicate j 0)) ⟨same_new hD _, upd_same⟩ (fun j HH _ p => SqT.of (p.1 _ _ hw0)) ?_ ?_
    · rintro j y HH hy ⟨z, hv⟩
      obtain ⟨hj, rfl⟩ := at_int hy
      refine ⟨rfl, _, hv, ?_, same_upd hD z, ?_⟩
      · rw [List.length_map, List.length_replicate]; exact Nat.lt_of_le_of_lt (show j ≤ 1000 by omega) (by decide)
      · unfold WL
        rw [upd_same, List.replicate_succ', List.map_append]
        rfl
    rintro H1 ⟨z1, hD1⟩
    rw [List.length_map, l0] at hD1
    have ha1 := z1 _ _ ha
    refine .inr ⟨_, rfl, a, _, rfl, SqT.of ha1, ?_⟩
    refine for_enumT (K := K) (a := a) (xs := ps.map V.ref) (D := { nx := _, rt := Q }) (fun i σ HH => ∃ (t : Addr) (u3 u4 u5 u6 u7 u8 : Option V), σ = [some (.ref a), some (.int n), some (.ref t), u3, u4, u5, u6, u7, u8] ∧ H t = none ∧ WL HH t (chI n pss m i) ∧ Same H HH) ⟨D, none, none, none, none, none, none, rfl, hD, hD1, z1⟩ (fun i σ HH _ ⟨_, _, _, _, _, _, _, _, _, _, z⟩ => SqT.of (z _ _ ha)) ?_ ?_
    · rintro i y σ HH T hy ⟨t, u3, u4, u5, u6, u7, u8, rfl, ft, ht, z⟩ hT
      obtain ⟨p, hpp, rfl⟩ := at_ref hy
      have hi : i < pss.length := by have := (List.getElem?_eq_some_iff.mp hpp).1; omega
      obtain ⟨p', hp', hw⟩ := paired_at hps (List.getElem?_eq_getElem hi)
      obtain rfl : p' = p := Option.some.inj (hp'.symm.trans hpp)
      obtain ⟨lp, bp⟩ := hp _ (List.getElem_mem hi)
      have sT := same_new hT (.tup [.int (i : Nat), .ref p'])
      have zT := z.trans sT
      have htT : WL (upd HH T (.tup [.int (i : Nat), .ref p'])) t _ := sT _ _ ht
      refine ⟨T, _, rfl, SqT.of upd_same, rfl, _, _, rfl, _, _, rfl, rfl, ?_⟩
      generalize upd HH T (.tup [.int (i : Nat), .ref p']) = H2 at sT zT htT ⊢
      refine ⟨_, rfl, _, rfl, n, (i : Nat), s', rfl, hn, hs1, hs2, by omega, by omega, ?_⟩
      have hw2 : WT H2 p' pss[i] := zT _ _ hw
      have lt := chI_len (n := n) (fun p hpp => (hp p hpp).1) i (by omega)
      have zs := ch_sz hn hs1 i (by omega)
      rw [Int.toNat_natCast]
      refine .inr ⟨_, rfl, _, rfl, t, p', _, _, rfl, SqL.of htT, SqT.of hw2, fun D2 hD2 => ?_⟩
      have hD20 : H D2 = none := zT.free hD2
      have eci : chI n pss m (i + 1) = List.zipWith (fun a b => a + ch n i * b) (chI n pss m i) pss[i] := by
        rw [chI, List.getD_eq_getElem?_getD, List.getElem?_eq_getElem hi, Option.getD_some]
      refine lc_zipT (K := K) (a := t) (b := p') (xs := (chI n pss m i).map V.int) (ys := pss[i].map V.int) (fun j H3 => Same H2 H3 ∧ WL H3 D2 ((chI n pss m (i + 1)).take j)) (by rw [List.length_map, List.length_map, lt, lp]) ⟨same_new hD2 _, upd_same⟩ (fun j H3 p => ⟨SqL.of (p.1 _ _ htT), SqT.of (p.1 _ _ hw2)⟩) ?_ ?_
      · rintro j y1 y2 T3 H3 hy1 hy2 hT3 ⟨z3, hv⟩
        obtain ⟨hj1, rfl⟩ := at_int hy1
        obtain ⟨hj2, rfl⟩ := at_int hy2
        have sT3 := same_new hT3 (.tup [V.int (chI n pss m i)[j], V.int pss[i][j]])
        have hv3 := sT3 _ _ hv
        refine ⟨T3, _, rfl, SqT.of upd_same, rfl, _, _, rfl, _, _, rfl, rfl, rfl, ?_⟩
        refine ⟨_, rfl, _, rfl, _, rfl, _, _, rfl, rfl, ⟨_, _, ?_, ?_, zs.bd, bp _ (List.getElem_mem hj2)⟩, _, _, rfl, rfl, _, hv3, ?_, same_upd hD2 (z3.trans sT3), ?_⟩
        · have : (s' + 1) * i ≤ (s' + 1) * 7 := Nat.mul_le_mul_left _ (by omega)
          omega
        · exact hk
        · rw [List.length_map, List.length_take]; exact Nat.lt_of_le_of_lt (show _ ≤ 1000 by omega) (by decide)
        · unfold WL
          rw [upd_same, eci, zip_at hj1 hj2, List.map_append]
          rfl
      rintro H3 ⟨z3, hv⟩
      rw [List.length_map, lt] at hv
      have lt1 := chI_len (n := n) (fun p hpp => (hp p hpp).1) (i + 1) (by omega)
      rw [List.take_of_length_le (by omega)] at hv
      exact ⟨D2, _, _, _, _, _, _, rfl, hD20, hv, zT.trans z3⟩
    · rintro σ HH ⟨t, u3, u4, u5, u6, u7, u8, rfl, ft, ht, z⟩
      rw [List.length_map, lps] at ht
      exact ⟨_, rfl, q t HH ft ht z⟩
abbrev s_sums_repeated : Stmt := top 7
theorem sc_sums_repeated : FnScope ["ground", "one", "n"] ["ground", "one", "n"] (defScope s_sums_repeated) := ⟨rfl, rfl, rfl, by decide +kernel, rfl, by decide +kernel, by decide +kernel⟩
theorem ok_sums_repeated {f : Addr} {fd : FuncData} (F : Fun K "sums_repeated" "sums_repeated" s_sums_repeated f fd) (T : Txt mg) {C aD : Addr} (TG : TxtG K mg C aD)  (C_rest_powers : Cal P w K mg base "rest_powers" ["ground", "one"] 3 (spRest C)) (C_powers_chosen : Cal P w K mg base "powers_chosen" ["powers", "n"] 2 spPowB) : FnOk P w K mg base CX0 4 f fd ["ground", "one", "n"] (spRepB C) := by
  refine F.ok sc_sums_repeated (fun vs H Q E h => ?_) (fun cdv A outer s H vs Q E hr h => ?_)
  · obtain ⟨g, a, f', n, l, d, k, s', rfl, _⟩ := h
    rfl
  obtain ⟨g, a, f', n, l, d, k, s', rfl, G, ha, b1, hk, hn, hs1, hs2, q⟩ := h
  refine ⟨_, (pss_one (ps_ret (C_powers_chosen.pe (hr.mono (by decide)) (by rfl) (pa_cons (C_rest_powers.pe (hr.mono (by decide)) (by rfl) (pa_cons (pv 0) (pa_cons (pv 1) pa_nil))) (pa_cons (pv 2) pa_nil))))), ?_⟩
  have ok := G.ok
  have d5 := ok.d5
  have lg := (gw_fin ok).2
  have l1 : ((gw l d).map f').length = (gw l d).length := List.length_map _
  have lp := powsW_len l d ((gw l d).map f')
  refine ⟨_, rfl, _, rfl, g, a, _, l, d, k, rfl, G, ha, l1, b1, hk, fun r H1 f1 h1 s1 => ?_⟩
  refine ⟨_, rfl, r, n, _, (gw l d).length, (k + 11) * (d + 2), s', rfl, .inl h1, hn, hs1, hs2, by omega, by omega, powsW_bds ok l1 b1, by omega, ?_, fun t H2 f2 h2 s2 => ?_⟩
  · have : (k + 11) * (d + 2) ≤ (k + 11) * 7 := Nat.mul_le_mul_left _ (by omega)
    omega
  rw [chI_pw7 ok] at h2
  exact q t H2 (s1.free f2) h2 (s1.trans s2)
abbrev s_sums_backed : Stmt := top 6
theorem sc_sums_backed : FnScope ["ground", "one"] ["ground", "one"] (defScope s_sums_backed) := ⟨rfl, rfl, rfl, by decide +kernel, rfl, by decide +kernel, by decide +kernel⟩
theorem ok_sums_backed {f : Addr} {fd : FuncData} (F : Fun K "sums_backed" "sums_backed" s_sums_backed f fd) (T : Txt mg) {C aD : Addr} (TG : TxtG K mg C aD)  (C_sums_repeated : Cal P w K mg base "sums_repeated" ["ground", "one", "n"] 4 (spRepB C)) : FnOk P w K mg base CX0 5 f fd ["ground", "one"] (spBackB C) := by
  refine F.ok sc_sums_backed (fun vs H Q E h => ?_) (fun cdv A outer s H vs Q E hr h => ?_)
  · obtain ⟨g, a, f', l, d, k, rfl, _⟩ := h
    rfl
  obtain ⟨g, a, f', l, d, k, rfl, G, ha, b1, hk, q⟩ := h
  refine ⟨_, (pss_one (ps_ret (C_sums_repeated.pe (hr.mono (by decide)) (by rfl) (pa_cons (pv 0) (pa_cons (pv 1) (pa_cons (pe_un un_neg pe_int) pa_nil)))))), ?_⟩
  exact ⟨_, rfl, _, rfl, _, rfl, g, a, f', -1, l, d, k, 10, rfl, G, ha, b1, hk, sz_small (by decide) (by decide) (by decide), by omega, by omega, q⟩
abbrev s_law_box : Stmt := top 34
theorem sc_law_box : FnScope ["_law_script", "_law_k", "_law_cell"] ["_law_script", "_law_k"] (defScope s_law_box) := ⟨rfl, rfl, rfl, by decide +kernel, rfl, by decide +kernel, by decide +kernel⟩
theorem ok_law_box {f : Addr} {fd : FuncData} (F : Fun K "_law_box" "_law_box" s_law_box f fd) (T : Txt mg)   : FnOk P w K mg base CX0 1 f fd ["_law_script", "_law_k"] (spBox K) := by
  refine F.ok sc_law_box (fun vs H Q E h => ?_) (fun cdv A outer s H vs Q E hr h => ?_)
  · obtain ⟨a, ns, k, rfl, _⟩ := h
    rfl
  obtain ⟨a, ns, k, rfl, hS, hk, hk', q⟩ := h
  refine ⟨_, (pss_cons (ps_set (i := 2) sc_law_box.nd rfl (Or.inl rfl) (pe_ifExp (pt_cmpR op_lt (pv 1) (pe_callB (r := rLen K) (id := "len") c_len (by rfl) T.b_len (by decide +kernel) (pa_cons (pv 0) pa_nil)) (nomark _)) (pe_ix (r := rIxL K) ix_list (pv 0) (pv 1) (fun _ _ => rfl)) pe_int))
      (pss_one (ps_ret (pe_lstN (pa_cons (pe_op op_mul (pe_callB call_abs (by rfl) T.b_abs (by decide +kernel) (pa_cons (pv 2) pa_nil)) (pe_callTy call_int1 (by rfl) T.b_int (by decide +kernel) (pa_cons (pe_cmpR op_ge (pe_callB call_abs (by rfl) T.b_abs (by decide +kernel) (pa_cons (pv 2) pa_nil)) (pe_op op_pow pe_int pe_int) (nomark _)) pa_nil))) (pa_cons (pe_op op_mod (pe_op op_mul (pe_op op_add (pe_op op_add (pe_op op_mod (pv 2) pe_int) (pe_op op_mul pe_int (pv 1))) pe_int) pe_int) pe_int) (pa_cons pe_int pa_nil))))))), ?_⟩
  have hl : (ns.map V.int).length = ns.length := List.length_map _
  refine ⟨_, rfl, _, rfl, a, _, rfl, .inl hS, _, _, rfl, rfl, _, rfl, ?_⟩
  refine ite2 (fun z => ?g1) (fun z => ?g2)
  case' g1 =>
    have z' : k < (((ns.map V.int).length : Nat) : Int) := of_decide_eq_true z
    rw [hl] at z'
    have hk2 : k.toNat < ns.length := by omega
    have ek : k = ((k.toNat : Nat) : Int) := by omega
    have hv : atI (ns.map V.int) ((k.toNat : Nat) : Int) = some (.int ns[k.toNat]) := atI_nat (by rw [List.getElem?_map, List.getElem?_eq_getElem hk2] <;> rfl)
    rw [← ek] at hv
    refine ⟨_, rfl, _, rfl, a, _, k, _, rfl, rfl, hS, hv, ?_⟩
    generalize ns[k.toNat] = cell
  case' g2 =>
    obtain ⟨cell, hcell⟩ : ∃ cell : Int, cell = 0 := ⟨0, rfl⟩
    refine (show _ from ?_)
  all_goals
    refine ⟨_, rfl, _, rfl, _, rfl, _, rfl, _, _, rfl, rfl, ⟨by decide, by decide, by decide⟩, _, _, rfl, rfl, .inr ⟨_, rfl, _, _, rfl, rfl, .inr (b01 _), _, rfl, _, _, rfl, rfl, (by show (0 : Int) < 2147483629; decide), _, rfl, _, _, rfl, rfl, .inr ⟨by omega, by omega⟩, _, _, rfl, rfl, _, _, rfl, rfl, _, _, rfl, rfl, .inr ⟨by decide, by decide⟩, _, _, rfl, rfl, (by show (0 : Int) < 2147483647; decide), (by show 3 ≤ sizeLine; decide), fun p H' hp hH' hs => ?_⟩⟩
    exact q p H' hp ⟨_, _, 0, hH', Int.mul_nonneg (abs_nn _) (b01nn _), (emod_in (by decide)).1, (emod_in (by decide)).2, by omega, by omega⟩ hs
abbrev s_law_take : Stmt := top 35
theorem sc_law_take : FnScope ["_law_box_here", "_law_size", "_law_found", "_law_step", "_law_once", "_law_twice"] ["_law_box_here", "_law_size"] (defScope s_law_take) := ⟨rfl, rfl, rfl, by decide +kernel, rfl, by decide +kernel, by decide +kernel⟩
theorem ok_law_take {f : Addr} {fd : FuncData} (F : Fun K "_law_take" "_law_take" s_law_take f fd) (T : Txt mg)   : FnOk P w K mg base CX0 1 f fd ["_law_box_here", "_law_size"] spTake := by
  refine F.ok sc_law_take (fun vs H Q E h => ?_) (fun cdv A outer s H vs Q E hr h => ?_)
  · obtain ⟨b, n, m, rfl, _⟩ := h
    rfl
  obtain ⟨b, n, m, rfl, ⟨a, c, d, hb, ha, hc, hc', hd, hd'⟩, hm, hn, hn', q⟩ := h
  refine ⟨_, (pss_cons (ps_if (pt_cmpR op_gt (pe_ix (r := rIxL K) ix_list (pv 0) pe_int (fun _ _ => rfl)) pe_int (nomark _)) (pss_cons (ps_asg (pe_callB call_divmod (by rfl) T.b_divmod (by decide +kernel) (pa_cons (pe_ix (r := rIxL K) ix_list (pv 0) pe_int (fun _ _ => rfl)) (pa_cons (pv 1) pa_nil))) (pg_tup (by rfl) (pgs_cons (pg_sub (pv 0) pe_int set_list) (pgs_cons (pg_name (i := 2) sc_law_take.nd rfl (Or.inl rfl)) pgs_nil))))
      (pss_one (ps_ret (pv 2)))) pss_nil)
      (pss_cons (ps_asg (pe_op op_add (pe_ix (r := rIxL K) ix_list (pv 0) pe_int (fun _ _ => rfl)) pe_int) (pg_sub (pv 0) pe_int set_list))
      (pss_cons (ps_set (i := 3) sc_law_take.nd rfl (Or.inl rfl) (pe_op op_add pe_int (pe_op op_mul (pe_ix (r := rIxL K) ix_list (pv 0) pe_int (fun _ _ => rfl)) (pe_ix (r := rIxL K) ix_list (pv 0) pe_int (fun _ _ => rfl)))))
      (pss_cons (ps_set (i := 4) sc_law_take.nd rfl (Or.inl rfl) (pe_op op_mod (pe_op op_mul (pe_op op_add (pe_ix (r := rIxL K) ix_list (pv 0) pe_int (fun _ _ => rfl)) (pe_op op_mul pe_int (pe_ix (r := rIxL K) ix_list (pv 0) pe_int (fun _ _ => rfl)))) (pv 3)) pe_int))
      (pss_cons (ps_set (i := 5) sc_law_take.nd rfl (Or.inl rfl) (pe_op op_mod (pe_op op_add (pe_op op_mul (pv 4) (pe_op op_add (pe_op op_mod (pv 4) pe_int) pe_int)) (pe_ix (r := rIxL K) ix_list (pv 0) pe_int (fun _ _ => rfl))) pe_int))
      (pss_one (ps_ret (pe_op op_mod (pe_op op_fdiv (pe_op op_mod (pe_op op_mul (pv 5) (pe_op op_add (pe_op op_mod (pv 5) pe_int) pe_int)) pe_int) pe_int) (pv 1))))))))), ?_⟩
  -- box[0] > 0
  refine ⟨_, rfl, b, _, 0, .int a, rfl, rfl, SqL.of hb, rfl, _, _, rfl, rfl, _, rfl, ?_⟩
  refine ite2 (fun z => ?_) (fun z => ?_)
  · -- box[0], found = divmod(box[0], size)
    have z' : (0 : Int) < a := of_decide_eq_true z
    refine ⟨_, rfl, b, _, 0, .int a, rfl, rfl, SqL.of hb, rfl, _, rfl, _, _, rfl, ⟨by omega, by omega⟩, fun p hp => ?_⟩
    have nb : b ≠ p := ne_of_none hb hp
    refine ⟨p, _, rfl, SqT.of upd_same, rfl, _, _, rfl, _, rfl, b, _, 0, 0, rfl, rfl, (by rw [upd_ne nb]; exact hb), rfl, _, _, rfl, rfl, _, rfl, ?_⟩
    refine q (a % n) _ (emod_in (by omega)).1 (emod_in (by omega)).2 ⟨a / n, c, d, upd_same, Int.ediv_nonneg ha (by omega), hc, hc', hd, by omega⟩ ((sameB_new hp _).trans sameB_upd)
  · refine ⟨_, rfl, b, _, 2, .int d, rfl, rfl, SqL.of hb, rfl, _, _, rfl, rfl, _, rfl, b, _, 2, 2, rfl, rfl, hb, rfl, ?_⟩
    have h1 : (upd H b (.lst [V.int a, V.int c, V.int (d + 1)])) b = some (.lst [V.int a, V.int c, V.int (d + 1)]) := upd_same
    generalize eH : upd H b (.lst [V.int a, V.int c, V.int (d + 1)]) = H1 at h1
    have e2 : upd H b (.lst (([V.int a, V.int c, V.int d] : List V).set 2 (.int (d + 1)))) = H1 := eH
    rw [e2]
    -- step
    refine ⟨_, rfl, b, _, 2, .int (d + 1), rfl, rfl, SqL.of h1, rfl, _, rfl, b, _, 2, .int (d + 1), rfl, rfl, SqL.of h1, rfl, _, _, rfl, rfl, .inl ⟨by omega, by omega⟩, _, _, rfl, rfl, ?_⟩
    -- once
    refine ⟨_, rfl, b, _, 1, .int c, rfl, rfl, SqL.of h1, rfl, _, rfl, b, _, 2, .int (d + 1), rfl, rfl, SqL.of h1, rfl, _, _, rfl, rfl, .inl ⟨by omega, by omega⟩, _, _, rfl, rfl, _, rfl, _, _, rfl, rfl, .inl ⟨by omega, by omega⟩, _, _, rfl, rfl, (by show (0 : Int) < 2147483587; decide), ?_⟩
    have o1 := @emod_in ((c + 39373 * (d + 1)) * (69621 + (d + 1) * (d + 1))) 2147483587 (by decide)
    generalize (c + 39373 * (d + 1)) * (69621 + (d + 1) * (d + 1)) % 2147483587 = once at o1
    -- twice
    have o2 := @emod_in once 30011 (by decide)
    refine ⟨_, rfl, _, rfl, _, _, rfl, rfl, (by show (0 : Int) < 30011; decide), _, _, rfl, rfl, _, _, rfl, rfl, .inl ⟨by omega, by omega⟩, _, rfl, b, _, 2, .int (d + 1), rfl, rfl, SqL.of h1, rfl, _, _, rfl, rfl, _, _, rfl, rfl, (by show (0 : Int) < 2147483563; decide), ?_⟩
    have o3 := @emod_in (once * (once % 30011 + 5) + (d + 1)) 2147483563 (by decide)
    generalize (once * (once % 30011 + 5) + (d + 1)) % 2147483563 = twice at o3
    refine ⟨_, rfl, _, rfl, _, _, rfl, rfl, (by show (0 : Int) < 1013; decide), _, _, rfl, rfl, _, _, rfl, rfl, .inl ⟨by omega, by omega⟩, _, _, rfl, rfl, (by show (0 : Int) < 998244353; decide), _, _, rfl, rfl, ⟨by decide, by decide⟩, _, rfl, _, _, rfl, rfl, (show (0 : Int) < n by omega), ?_⟩
    refine q _ _ (emod_in (by omega)).1 (emod_in (by omega)).2 ⟨a, c, d + 1, h1, ha, hc, hc', by omega, by omega⟩ ?_
    rw [← eH]
    exact sameB_upd
abbrev s_law_folded : Stmt := top 36
theorem sc_law_folded : FnScope ["_law_script", "_law_size", "_law_cells", "_law_k", "_law_cell"] ["_law_script", "_law_size"] (defScope s_law_folded) := ⟨rfl, rfl, rfl, by decide +kernel, rfl, by decide +kernel, by decide +kernel⟩
theorem ok_law_folded {f : Addr} {fd : FuncData} (F : Fun K "_law_folded" "_law_folded" s_law_folded f fd) (T : Txt mg)   : FnOk P w K mg base CX0 1 f fd ["_law_script", "_law_size"] (spFolded K) := by
  refine F.ok sc_law_folded (fun vs H Q E h => ?_) (fun cdv A outer s H vs Q E hr h => ?_)
  · obtain ⟨a, ns, k, rfl, _⟩ := h
    rfl
  obtain ⟨a, ns, k, rfl, hS, hn, hk, hk', q⟩ := h
  refine ⟨_, (pss_cons (ps_set (i := 2) sc_law_folded.nd rfl (Or.inl rfl) (pe_callTy (r := rListOf K) (T := "list") c_list (by rfl) T.b_list (by decide +kernel) (pa_cons (pe_slice (r := rSlL K) sl_list (pv 0) po_none (po_some (pv 1))) pa_nil)))
      (pss_cons (ps_for PassesOwn.never rfl (pi_enum (by rfl) T.b_enumerate (pa_cons (pe_slice (r := rSlL K) sl_list (pv 0) (po_some (pv 1)) (po_some pe_int)) pa_nil)) (pg_tup (by rfl) (pgs_cons (pg_name (i := 3) sc_law_folded.nd rfl (Or.inl rfl)) (pgs_cons (pg_name (i := 4) sc_law_folded.nd rfl (Or.inl rfl)) pgs_nil))) (pss_one (ps_asg (pe_op op_add (pe_ix (r := rIxL K) ix_list (pv 2) (pe_op op_mod (pv 3) (pv 1)) (fun _ _ => rfl)) (pe_op op_mul (pv 4) (pe_op op_add (pv 3) pe_int))) (pg_sub (pv 2) (pe_op op_mod (pv 3) (pv 1)) set_list))))
      (pss_one (ps_ret (pv 2))))), ?_⟩
  obtain ⟨k, rfl⟩ : ∃ k' : Nat, k = (k' : Int) := ⟨k.toNat, by omega⟩
  refine ⟨_, rfl, _, rfl, _, rfl, a, _, rfl, hS, fun p hp => ?_⟩
  refine ⟨p, _, rfl, .inl (SqL.of upd_same), fun c hc => ?_⟩
  have s1 := same_new hp (.lst (cutV (ns.map V.int) none (some (k : Int))))
  have s2 := s1.trans (same_new hc (.lst (cutV (ns.map V.int) none (some (k : Int)))))
  have hc1 : (upd (upd H p (.lst (cutV (ns.map V.int) none (some (k : Int))))) c (.lst (cutV (ns.map V.int) none (some (k : Int))))) c = some (.lst ((ns.take k).map V.int)) := by
    rw [upd_same, cutV_ints, cutI_to]
  generalize upd (upd H p (.lst (cutV (ns.map V.int) none (some (k : Int))))) c (.lst (cutV (ns.map V.int) none (some (k : Int)))) = H1 at s2 hc1
  refine ⟨_, rfl, _, rfl, _, rfl, _, rfl, a, _, rfl, s2.seq hS, fun r hr' => ?_⟩
  have ncr : c ≠ r := ne_of_none hc1 hr'
  refine ⟨r, _, rfl, SqL.of upd_same, ?_⟩
  rw [cutV_ints]
  have s3 := s2.trans (same_new hr' (.lst ((cutI ns (some (k : Int)) (some 63)).map V.int)))
  refine for_enum (K := K) (a := r) (xs := (cutI ns (some (k : Int)) (some 63)).map V.int) (fun i σ H2 => ∃ (ms : List Int) (u v : Option V), σ = [some (.ref a), some (.int k), some (.ref c), u, v] ∧ ms.length = (ns.take k).length ∧ H2 c = some (.lst (ms.map V.int)) ∧ H2 r = some (.lst ((cutI ns (some (k : Int)) (some 63)).map V.int)) ∧ Same H H2)
    ⟨ns.take k, none, none, rfl, rfl, by rw [upd_ne ncr]; exact hc1, upd_same, s3⟩ (fun i σ H2 _ ⟨ms, u, v, _, _, _, h, _⟩ => SqL.of h) ?_ ?_
  · rintro i x σ H2 t hx ⟨ms, u, v, rfl, hms, hcc, hrr, hss⟩ ht
    obtain ⟨hi, rfl⟩ := at_int hx
    have hkn : k < ns.length := cutI_mid_len ns k 63 (by omega)
    have hml : ms.length = k := by rw [hms, List.length_take]; omega
    have hi63 : i < 63 := by have := cutI_len ns (some (k : Int)) (some 63); omega
    generalize (cutI ns (some (k : Int)) (some 63))[i] = cell
    have g1 := same_new ht (.tup [.int (i : Nat), .int cell])
    have hcc' := g1 _ _ hcc
    have hrr' := g1 _ _ hrr
    have hss' := hss.trans g1
    have hu : upd H2 t (.tup [.int (i : Nat), .int cell]) t = some (.tup [.int (i : Nat), .int cell]) := upd_same
    generalize upd H2 t (.tup [.int (i : Nat), .int cell]) = H3 at hcc' hrr' hss' hu
    have hm : ((i : Nat) : Int) % ((k : Nat) : Int) = ((i % k : Nat) : Int) := rfl
    have hlt : i % k < ms.length := by rw [hml]; exact Nat.mod_lt _ (by omega)
    refine ⟨t, _, rfl, SqT.of hu, rfl, _, _, rfl, _, _, rfl, rfl, ?_⟩
    refine ⟨_, rfl, _, rfl, _, rfl, _, _, rfl, rfl, (show (0 : Int) < (k : Int) by omega), c, _, _, .int ms[i % k], rfl, rfl, SqL.of hcc', atI_nat (at_int' hlt), _, rfl, _, rfl, _, _, rfl, rfl, _, _, rfl, rfl, .inr ⟨by omega, by omega⟩, _, _, rfl, rfl, _, rfl, _, rfl, _, rfl, _, _, rfl, rfl, (show (0 : Int) < (k : Int) by omega), c, _, _, i % k, rfl, rfl, hcc', ixN_nat (by rw [List.length_map]; exact hlt), ?_⟩
    refine ⟨ms.set (i % k) (ms[i % k] + cell * (i + 2)), _, _, rfl, by rw [List.length_set]; exact hms, ?_, ?_, ?_⟩
    · rw [upd_same, List.map_set]
    · rw [upd_ne ncr.symm]; exact hrr'
    · intro b o e
      rw [upd_ne (fun z => ?_)]
      · exact hss' b o e
      · subst z
        rw [ (s1.trans (fun x y z => z) : Same H _).free hc] at e
        cases e
  · rintro σ H2 ⟨ms, u, v, rfl, hms, hcc, hrr, hss⟩
    refine ⟨_, rfl, ?_⟩
    exact q c ms H2 (by rw [hms, List.length_take]; omega) hcc hss
abbrev s_law_sizes : Stmt := top 37
theorem sc_law_sizes : FnScope ["_law_box_here", "_law_some"] ["_law_box_here"] (defScope s_law_sizes) := ⟨rfl, rfl, rfl, by decide +kernel, rfl, by decide +kernel, by decide +kernel⟩
theorem ok_law_sizes {f : Addr} {fd : FuncData} (F : Fun K "_law_sizes" "_law_sizes" s_law_sizes f fd) (T : Txt mg)  (C_law_take : Cal P w K mg base "_law_take" ["_law_box_here", "_law_size"] 1 spTake) : FnOk P w K mg base CX0 2 f fd ["_law_box_here"] spSizes := by
  refine F.ok sc_law_sizes (fun vs H Q E h => ?_) (fun cdv A outer s H vs Q E hr h => ?_)
  · obtain ⟨b, m, rfl, _⟩ := h
    rfl
  obtain ⟨b, m, rfl, hb, hm, q⟩ := h
  refine ⟨_, (@pss_consU _ _ _ _ _ (@ps_ifU _ _ _ _ _ _ _ _ (pt_cmpR op_eq (C_law_take.pe (hr.mono (by decide)) (by rfl) (pa_cons (pv 0) (pa_cons pe_int pa_nil))) pe_int (nomark _)) (@pss_oneU _ _ _ (@ps_retU _ _ _ _ (@pe_ixU _ _ _ _ _ _ (rIxL K) ix_list (@pe_lstU _ _ (tPairs [(2, 5), (3, 4), (4, 3)]) _ (@pa_tupU _ _ _ _ _ _ _ (@pe_tupU _ _ _ _ _ (pa_cons pe_int (pa_cons pe_int pa_nil))) (@pa_tupU _ _ _ _ _ _ _ (@pe_tupU _ _ _ _ _ (pa_cons pe_int (pa_cons pe_int pa_nil))) (@pa_tupU _ _ _ _ _ _ _ (@pe_tupU _ _ _ _ _ (pa_cons pe_int (pa_cons pe_int pa_nil))) pa_nil)))) (C_law_take.pe (hr.mono (by decide)) (by rfl) (pa_cons (pv 0) (pa_cons pe_int pa_nil))) (fun _ _ => rfl)))) pss_nil)
      (@pss_consU _ _ _ _ _ (@ps_setU _ 1 _ _ _ _ _ _ sc_law_sizes.nd rfl (Or.inl rfl) (@pe_lstU _ _ (tPairs [(2, 2), (2, 3), (2, 4), (3, 2), (3, 3), (4, 2)]) _ (@pa_tupU _ _ _ _ _ _ _ (@pe_tupU _ _ _ _ _ (pa_cons pe_int (pa_cons pe_int pa_nil))) (@pa_tupU _ _ _ _ _ _ _ (@pe_tupU _ _ _ _ _ (pa_cons pe_int (pa_cons pe_int pa_nil))) (@pa_tupU _ _ _ _ _ _ _ (@pe_tupU _ _ _ _ _ (pa_cons pe_int (pa_cons pe_int pa_nil))) (@pa_tupU _ _ _ _ _ _ _ (@pe_tupU _ _ _ _ _ (pa_cons pe_int (pa_cons pe_int pa_nil))) (@pa_tupU _ _ _ _ _ _ _ (@pe_tupU _ _ _ _ _ (pa_cons pe_int (pa_cons pe_int pa_nil))) (@pa_tupU _ _ _ _ _ _ _ (@pe_tupU _ _ _ _ _ (pa_cons pe_int (pa_cons pe_int pa_nil))) pa_nil))))))) (by first | exact .inl rfl | exact .inr rfl))
      (@pss_consU _ _ _ _ _ (@ps_ifU _ _ _ _ _ _ _ _ (pt_cmpR op_eq (C_law_take.pe (hr.mono (by decide)) (by rfl) (pa_cons (pv 0) (pa_cons pe_int pa_nil))) pe_int (nomark _)) (@pss_oneU _ _ _ (@ps_setU _ 1 _ _ _ _ _ _ sc_law_sizes.nd rfl (Or.inl rfl) (@pe_lstU _ _ (tPairs [(1, 1), (1, 2), (1, 3), (1, 4), (1, 5), (2, 1), (3, 1), (4, 1)]) _ (@pa_tupU _ _ _ _ _ _ _ (@pe_tupU _ _ _ _ _ (pa_cons pe_int (pa_cons pe_int pa_nil))) (@pa_tupU _ _ _ _ _ _ _ (@pe_tupU _ _ _ _ _ (pa_cons pe_int (pa_cons pe_int pa_nil))) (@pa_tupU _ _ _ _ _ _ _ (@pe_tupU _ _ _ _ _ (pa_cons pe_int (pa_cons pe_int pa_nil))) (@pa_tupU _ _ _ _ _ _ _ (@pe_tupU _ _ _ _ _ (pa_cons pe_int (pa_cons pe_int pa_nil))) (@pa_tupU _ _ _ _ _ _ _ (@pe_tupU _ _ _ _ _ (pa_cons pe_int (pa_cons pe_int pa_nil))) (@pa_tupU _ _ _ _ _ _ _ (@pe_tupU _ _ _ _ _ (pa_cons pe_int (pa_cons pe_int pa_nil))) (@pa_tupU _ _ _ _ _ _ _ (@pe_tupU _ _ _ _ _ (pa_cons pe_int (pa_cons pe_int pa_nil))) (@pa_tupU _ _ _ _ _ _ _ (@pe_tupU _ _ _ _ _ (pa_cons pe_int (pa_cons pe_int pa_nil))) pa_nil))))))))) (by first | exact .inl rfl | exact .inr rfl))) pss_nil)
      (@pss_oneU _ _ _ (@ps_retU _ _ _ _ (@pe_ixU _ _ _ _ _ _ (rIxL K) ix_list (pv 1) (C_law_take.pe (hr.mono (by decide)) (by rfl) (pa_cons (pv 0) (pa_cons (pe_callB (r := rLen K) (id := "len") c_len (by rfl) T.b_len (by decide +kernel) (pa_cons (pv 1) pa_nil)) pa_nil))) (fun _ _ => rfl))))))), ?_⟩
  refine ⟨_, rfl, b, 8, m, rfl, hb, by omega, by omega, by omega, fun v H1 hv hv' hb1 hs1 => ⟨rfl, _, rfl, ?_⟩⟩
  refine ite2 (fun _ => ?_) (fun _ => ?_)
  · refine lstP_rd (by decide) fun qs l H3 f3 s3 hl hq => ?_
    have hb3 := hb1.same s3
    have nl : l ≠ b := hb1.ne f3
    refine ⟨_, rfl, b, 3, _, rfl, hb3, by omega, by omega, by omega, fun v2 H4 h2 h2' hb4 hs4 => ?_⟩
    obtain ⟨v2, rfl⟩ : ∃ v' : Nat, v2 = (v' : Int) := ⟨v2.toNat, by omega⟩
    have i2 : v2 < ([(2, 5), (3, 4), (4, 3)] : List (Nat × Nat)).length := by show v2 < 3; omega
    obtain ⟨qa, hqa, hp⟩ := paired_at hq (List.getElem?_eq_getElem i2)
    have ok := gok_list (ps := [(2, 5), (3, 4), (4, 3)]) (by decide) _ (List.getElem_mem i2)
    refine ⟨l, _, _, _, rfl, rfl, SqL.of (hs4 _ _ nl hl), ref_at hqa, ?_⟩
    have hp3 : PrN H3 qa _ := hp
    obtain ⟨x1, x2, x3, hbb, _⟩ := id hb3
    exact q qa _ _ H4 ok (hs4 _ _ (ne_of hp3 hbb (fun z => nomatch z)) hp3) (hb4.mono (by omega)) (hs1.trans ((SameB.of s3).trans hs4))
  · dsimp only [tNext]
    refine lstP_rd (by decide) fun qs l H3 f3 s3 hl hq => ?_
    have hb3 := hb1.same s3
    have nl : l ≠ b := hb1.ne f3
    dsimp only [gName]
    refine st_split (fun σ H5 => ∃ (l5 : Addr) (qs5 : List Addr) (ps5 : List (Nat × Nat)), σ = [some (.ref b), some (.ref l5)] ∧ l5 ≠ b ∧ H5 l5 = some (.lst (qs5.map V.ref)) ∧ Paired (PrN H5) qs5 ps5 ∧ 1 ≤ ps5.length ∧ ps5.length ≤ 8 ∧ (∀ p ∈ ps5, GOk p.1 p.2) ∧ Bx H5 b (m + 2) ∧ SameB b H H5) (fun nx K1 => ?_) ?_
    · refine ⟨_, rfl, b, 3, _, rfl, hb3, by omega, by omega, by omega, fun v2 H4 h2 h2' hb4 hs4 => ⟨rfl, _, rfl, ?_⟩⟩
      refine ite2 (fun _ => ?_) (fun _ => ?_)
      · refine lstP_rd (by decide) fun qs6 l7 H7 f7 s7 hl7 hq6 => ?_
        exact K1 _ _ ⟨l7, qs6, _, rfl, hb4.ne f7, hl7, hq6, by decide, by decide, gok_list (by decide), (hb4.same s7).mono (by omega), hs1.trans ((SameB.of s3).trans (hs4.same s7))⟩
      · dsimp only [tNext]
        exact K1 _ _ ⟨l, qs, _, rfl, nl, hs4 _ _ nl hl, Paired.imp' (fun _ _ x => x.t (SameG.box hb3 hs4).t) hq, by decide, by decide, gok_list (by decide), hb4.mono (by omega), hs1.trans ((SameB.of s3).trans hs4)⟩
    rintro _ H5 ⟨l5, qs5, ps5, rfl, nl5, hl5, hq5, p1, p8, ok5, hb5, hs5⟩
    refine ⟨_, rfl, _, rfl, _, rfl, l5, _, rfl, .inl (SqL.of hl5), ?_⟩
    have lq5 : (qs5.map V.ref).length = ps5.length := by rw [List.length_map, Paired.length hq5]
    rw [lq5]
    refine ⟨b, _, _, rfl, hb5, by omega, (show (1 : Int) ≤ ((ps5.length : Nat) : Int) by omega), (show ((ps5.length : Nat) : Int) < 1073741824 by omega), fun v2 H6 h2 h2' hb6 hs6 => ?_⟩
    have h2'' : v2 < ((ps5.length : Nat) : Int) := h2'
    obtain ⟨v2, rfl⟩ : ∃ v' : Nat, v2 = (v' : Int) := ⟨v2.toNat, by omega⟩
    have i2 : v2 < ps5.length := by omega
    obtain ⟨qa, hqa, hp⟩ := paired_at hq5 (List.getElem?_eq_getElem i2)
    refine ⟨l5, _, _, _, rfl, rfl, SqL.of (hs6 _ _ nl5 hl5), ref_at hqa, ?_⟩
    obtain ⟨x1, x2, x3, hbb, _⟩ := id hb5
    exact q qa _ _ H6 (ok5 _ (List.getElem_mem i2)) (hs6 _ _ (ne_of hp hbb (fun z => nomatch z)) hp) (hb6.mono (by omega)) (hs5.trans hs6)
abbrev s_law_word : Stmt := top 38
theorem sc_law_word : FnScope ["_law_box_here", "_law_letters", "_law_most", "_law_many", "_law_k"] ["_law_box_here", "_law_letters", "_law_most"] (defScope s_law_word) := ⟨rfl, rfl, rfl, by decide +kernel, rfl, by decide +kernel, by decide +kernel⟩
theorem ok_law_word {f : Addr} {fd : FuncData} (F : Fun K "_law_word" "_law_word" s_law_word f fd) (T : Txt mg)  (C_law_take : Cal P w K mg base "_law_take" ["_law_box_here", "_law_size"] 1 spTake) : FnOk P w K mg base CX0 2 f fd ["_law_box_here", "_law_letters", "_law_most"] spWord := by
  refine F.ok sc_law_word (fun vs H Q E h => ?_) (fun cdv A outer s H vs Q E hr h => ?_)
  · obtain ⟨b, l, n, m, rfl, _⟩ := h
    rfl
  obtain ⟨b, l, n, m, rfl, hb, hm, hl, hl', hn, hn', q⟩ := h
  refine ⟨_, (pss_cons (ps_set (i := 3) sc_law_word.nd rfl (Or.inl rfl) (C_law_take.pe (hr.mono (by decide)) (by rfl) (pa_cons (pv 0) (pa_cons (pe_op op_add pe_int (pe_ifExp (pt_cmpR op_eq (C_law_take.pe (hr.mono (by decide)) (by rfl) (pa_cons (pv 0) (pa_cons pe_int pa_nil))) pe_int (nomark _)) (pe_callB (call_min2 rfl) (by rfl) T.b_min (by decide +kernel) (pa_cons (pv 2) (pa_cons pe_int pa_nil))) (pv 2))) pa_nil))))
      (pss_one (ps_ret (pe_callTy (r := rTupleOf K) (T := "tuple") c_tuple (by rfl) T.b_tuple (by decide +kernel) (pa_cons (pe_lc (own := [("_law_k", 4)]) (by rfl) sc_law_word.nd (pi_range1 (by rfl) T.b_range (pa_cons (pv 3) pa_nil)) (blkOk_by (own := [("_law_k", 4)]) (N := ["_law_box_here", "_law_letters", "_law_most", "_law_many", "_law_k"]) (sc := defScope s_law_word) (by decide +kernel)) (fun _ _ _ _ _ => (pg_name (i := 4) sc_law_word.nd rfl (Or.inl rfl))) (fun _ _ _ _ _ => pts_nil) (fun _ _ _ _ _ => (pe_op op_mul (pe_op op_add pe_int (C_law_take.pe (hr.mono (by decide)) (by rfl) (pa_cons (pv 0) (pa_cons (pv 1) pa_nil)))) (pe_op op_sub pe_int (pe_op op_mul pe_int (C_law_take.pe (hr.mono (by decide)) (by rfl) (pa_cons (pv 0) (pa_cons pe_int pa_nil)))))))) pa_nil))))), ?_⟩
  -- how many
  refine ⟨_, rfl, _, rfl, b, 3, m, rfl, hb, by omega, by omega, by omega, fun v1 H1 _ _ hb1 hs1 => ⟨rfl, _, rfl, ?_⟩⟩
  refine ite2 (fun z => ?g1) (fun z => ?g2)
  case' g1 =>
    have e6 : 0 ≤ (if (6 : Int) < n then 6 else n) ∧ (if (6 : Int) < n then 6 else n) ≤ n := by split <;> omega
    refine ⟨_, rfl, _, _, rfl, _, _, rfl, rfl, b, _, m + 1, rfl, hb1, by omega, (show (1 : Int) ≤ 1 + (if (6 : Int) < n then 6 else n) by omega), (show 1 + (if (6 : Int) < n then 6 else n) < 1073741824 by omega), fun v H2 hv hv1 hb2 hs12 => ?_⟩
    have hv' : v ≤ n := by
      have hv2 : v < 1 + (if (6 : Int) < n then 6 else n) := hv1
      omega
    have hs2 := hs1.trans hs12
  case' g2 =>
    refine ⟨_, rfl, _, _, rfl, rfl, b, _, m + 1, rfl, hb1, by omega, (show (1 : Int) ≤ 1 + n by omega), (show 1 + n < 1073741824 by omega), fun v H2 hv hv1 hb2 hs12 => ?_⟩
    have hv' : v ≤ n := by
      have hv2 : v < 1 + n := hv1
      omega
    have hs2 := hs1.trans hs12
  all_goals
    refine ⟨_, rfl, v, rfl, by omega, by omega, fun D hD => ?_⟩
    obtain ⟨x1, x2, x3, hbb, _⟩ := id hb2
    have nDb : D ≠ b := (ne_of_none hbb hD).symm
    refine lc_range (lo := 0) (n := v.toNat) (fun i H3 => ∃ ns : List Int, ns.length = i ∧ (∀ x ∈ ns, Step l x) ∧ H3 D = some (.lst (ns.map V.int)) ∧ Bx H3 b (m + 2 + 2 * i) ∧ SameB b H H3) ?_ ?_ ?_
    · exact ⟨[], rfl, fun x hx => absurd hx (by simp), upd_same, hb2.same (same_new hD _), hs2.trans (sameB_new hD _)⟩
    · rintro i H3 hi ⟨ns, hns, hst, hD3, hb3, hs3⟩
      refine ⟨rfl, ?_⟩
      refine ⟨_, rfl, _, rfl, b, l, _, rfl, hb3, by omega, by omega, by omega, fun v1 H4 h1 h1' hb4 hs4 => ⟨_, _, rfl, rfl, ?_⟩⟩
      refine ⟨_, rfl, b, 2, _, rfl, hb4, by omega, by omega, by omega, fun v2 H5 h2 h2' hb5 hs5 => ⟨_, _, rfl, rfl, .inl ⟨by omega, by omega⟩, _, _, rfl, rfl, _, _, rfl, rfl, .inl ⟨by omega, by omega⟩, ?_⟩⟩
      have hD5 : H5 D = some (.lst (ns.map V.int)) := hs5 _ _ nDb (hs4 _ _ nDb hD3)
      refine ⟨_, hD5, by rw [List.length_map]; exact Nat.lt_of_le_of_lt (show ns.length ≤ 1000 by omega) (by decide), ns ++ [(1 + v1) * (1 - 2 * v2)], by rw [List.length_append, hns]; rfl, ?_, ?_, ?_, ?_⟩
      · intro x hx
        rcases List.mem_append.mp hx with hx | hx
        · exact hst x hx
        · rw [List.mem_singleton.mp hx]; exact step_of h1 h1' h2 h2'
      · rw [upd_same, List.map_append]; rfl
      · obtain ⟨y1, y2, y3, hy, hy'⟩ := hb5
        exact ⟨y1, y2, y3, by rw [upd_ne nDb.symm]; exact hy, by omega⟩
      · intro c o hc e
        have : H5 c = some o := hs5 c o hc (hs4 c o hc (hs3 c o hc e))
        rw [upd_ne (fun z => ?_)]
        · exact this
        · subst z
          have := hs2 _ o hc e
          rw [hD] at this
          cases this
    · rintro H3 ⟨ns, hns, hst, hD3, hb3, hs3⟩
      refine ⟨D, _, rfl, .inl ⟨SqL.of hD3, fun t ht => ?_⟩⟩
      exact q t ns _ (by omega) hst upd_same ((hb3.same (same_new ht _)).mono (by omega)) (hs3.trans (sameB_new ht _))
abbrev s_law_number : Stmt := top 39
theorem sc_law_number : FnScope ["_law_box_here", "_law_way", "_law_sign", "_law_found", "_law_k"] ["_law_box_here"] (defScope s_law_number) := ⟨rfl, rfl, rfl, by decide +kernel, rfl, by decide +kernel, by decide +kernel⟩
theorem ok_law_number {f : Addr} {fd : FuncData} (F : Fun K "_law_number" "_law_number" s_law_number f fd) (T : Txt mg)  (C_law_take : Cal P w K mg base "_law_take" ["_law_box_here", "_law_size"] 1 spTake) : FnOk P w K mg base CX0 2 f fd ["_law_box_here"] spNumber := by
  refine F.ok sc_law_number (fun vs H Q E h => ?_) (fun cdv A outer s H vs Q E hr h => ?_)
  · obtain ⟨b, m, rfl, _⟩ := h
    rfl
  obtain ⟨b, m, rfl, hb, hm, q⟩ := h
  refine ⟨_, (pss_cons (R3.ps_par3 (i := 1) (j := 2) (k := 3) (by rfl) sc_law_number.nd rfl rfl rfl (by decide) (by decide) (by decide) rfl rfl rfl (pa_cons (C_law_take.pe (hr.mono (by decide)) (by rfl) (pa_cons (pv 0) (pa_cons pe_int pa_nil))) (pa_cons (pe_op op_sub pe_int (pe_op op_mul pe_int (C_law_take.pe (hr.mono (by decide)) (by rfl) (pa_cons (pv 0) (pa_cons pe_int pa_nil))))) (pa_cons pe_int pa_nil))) (by rfl))
      (pss_cons (ps_if (pt_cmpR op_lt (pv 1) pe_int (nomark _)) (pss_one (ps_ret (pe_op op_mul (pv 1) (pv 2)))) pss_nil)
      (pss_cons (ps_if (pt_cmpR op_lt (pv 1) pe_int (nomark _)) (pss_one (ps_ret (pe_op op_mul (C_law_take.pe (hr.mono (by decide)) (by rfl) (pa_cons (pv 0) (pa_cons (pe_ix (r := rIxL K) ix_list (pe_lstN (pa_cons pe_int (pa_cons pe_int (pa_cons (pe_op op_pow pe_int pe_int) pa_nil)))) (pe_op op_sub (pv 1) pe_int) (fun _ _ => rfl)) pa_nil))) (pv 2)))) pss_nil)
      (pss_cons (ps_for PassesOwn.never rfl (pi_range1 (by rfl) T.b_range (pa_cons pe_int pa_nil)) (pg_name (i := 4) sc_law_number.nd rfl (Or.inl rfl)) (pss_one (ps_set (i := 3) sc_law_number.nd rfl (Or.inl rfl) (pe_op op_add (pe_op op_mul (pv 3) (pe_op op_pow pe_int pe_int)) (C_law_take.pe (hr.mono (by decide)) (by rfl) (pa_cons (pv 0) (pa_cons (pe_op op_pow pe_int pe_int) pa_nil)))))))
      (pss_one (ps_ret (pe_op op_mul (pe_op op_mod (pv 3) (pe_op op_sub (pe_op op_pow pe_int pe_int) pe_int)) (pv 2)))))))), ?_⟩
  refine ⟨_, rfl, b, 6, m, rfl, hb, by omega, by omega, by omega, fun way H1 hw hw' hb1 hs1 => ?_⟩
  refine ⟨_, rfl, b, 2, _, rfl, hb1, by omega, by omega, by omega, fun v H2 hv hv' hb2 hs2 => ⟨_, _, rfl, rfl, .inl ⟨by decide, by decide⟩, _, _, rfl, rfl, _, _, _, rfl, ?_⟩⟩
  have sb2 := hs1.trans hs2
  try dsimp only
  have hsg : -1 ≤ 1 - 2 * v ∧ 1 - 2 * v ≤ 1 := by omega
  generalize 1 - 2 * v = sg at hsg
  -- 0, 1, -1
  refine ⟨_, rfl, _, _, rfl, rfl, _, rfl, ?_⟩
  refine ite2 (fun z => ?_) (fun z => ?_)
  · have z' : way < 2 := of_decide_eq_true z
    have e : way = 0 ∨ way = 1 := by omega
    refine ⟨_, rfl, _, rfl, _, _, rfl, rfl, .inl ⟨by omega, by omega⟩, q _ H2 ?_ (hb2.mono (by omega)) sb2⟩
    rcases e with rfl | rfl
    · exact sz_small (by decide) (by omega) (by omega)
    · exact sz_small (by decide) (by omega) (by omega)
  have z1 : ¬ way < 2 := of_decide_eq_false (Bool.eq_false_iff.mpr z)
  -- small
  refine ⟨_, rfl, _, _, rfl, rfl, _, rfl, ?_⟩
  refine ite2 (fun z => ?_) (fun z => ?_)
  · have z' : way < 5 := of_decide_eq_true z
    refine ⟨_, rfl, _, _, rfl, rfl, ⟨by decide, by decide, by decide⟩, (by show 3 ≤ sizeLine; decide), fun l H3 _ h3 s3 => ⟨_, rfl, _, _, rfl, rfl, ?_⟩⟩
    have fin : ∀ (u : Int) (H4 : Hp), 0 ≤ u → u < 1000000 → Bx H4 b (m + 2 + 1) → SameB b H3 H4 → CMul u sg ∧ Q (.int (u * sg)) H4 := by
      intro u H4 hu hu' hb4 hs4
      refine ⟨.inl ⟨by omega, by omega⟩, q _ H4 ?_ (hb4.mono (by omega)) (sb2.trans ((SameB.of s3).trans hs4))⟩
      have h1 : Sz 20 u := show u.natAbs < 2 ^ 20 by omega
      have h2 : Sz 10 sg := sz_small (by decide) (by omega) (by omega)
      exact (h1.mul h2).mono (by decide)
    have e : way = 2 ∨ way = 3 ∨ way = 4 := by omega
    rcases e with rfl | rfl | rfl
    · exact ⟨l, _, 0, _, rfl, rfl, SqL.of h3, rfl, b, 10, _, rfl, hb2.same s3, by omega, by omega, by omega, fun u H4 hu hu' hb4 hs4 => ⟨_, rfl, _, _, rfl, rfl, (fin u H4 hu (by omega) hb4 hs4).1, (fin u H4 hu (by omega) hb4 hs4).2⟩⟩
    · exact ⟨l, _, 1, _, rfl, rfl, SqL.of h3, rfl, b, 10, _, rfl, hb2.same s3, by omega, by omega, by omega, fun u H4 hu hu' hb4 hs4 => ⟨_, rfl, _, _, rfl, rfl, (fin u H4 hu (by omega) hb4 hs4).1, (fin u H4 hu (by omega) hb4 hs4).2⟩⟩
    · refine ⟨l, _, 2, _, rfl, rfl, SqL.of h3, rfl, b, _, _, rfl, hb2.same s3, by omega, (by decide), (by decide), fun u H4 hu hu' hb4 hs4 => ?_⟩
      have hu2 : u < (10 : Int) ^ (6 : Int).toNat := hu'
      have e6 : (10 : Int) ^ (6 : Int).toNat = 1000000 := by decide
      exact ⟨_, rfl, _, _, rfl, rfl, (fin u H4 hu (by omega) hb4 hs4).1, (fin u H4 hu (by omega) hb4 hs4).2⟩
  -- of many figures
  refine ⟨7, rfl, by decide, by decide, ?_⟩
  refine for_range (lo := 0) (n := 7) (fun i σ H3 => ∃ (f : Int) (u : Option V), σ = [some (.ref b), some (.int way), some (.int sg), some (.int f), u] ∧ 0 ≤ f ∧ Bx H3 b (m + 2 + i) ∧ SameB b H H3) ⟨0, none, rfl, by omega, hb2, sb2⟩ ?_ ?_
  · rintro i σ H3 hi ⟨f, u, rfl, hf, hb3, hs3⟩
    refine ⟨_, rfl, _, _, rfl, rfl, ⟨by decide, by decide, by decide⟩, _, _, rfl, rfl, .inr ⟨by decide, by decide⟩, ?_⟩
    refine ⟨_, rfl, _, _, rfl, rfl, ⟨by decide, by decide, by decide⟩, b, _, _, rfl, hb3, by omega, by decide, by decide, fun v4 H4 h4 _ hb4 hs4 => ⟨_, _, rfl, rfl, _, _, rfl, ?_, hb4, hs3.trans hs4⟩⟩
    exact Int.add_nonneg (Int.mul_nonneg hf (by decide)) h4
  · rintro σ H3 ⟨f, u, rfl, hf, hb3, hs3⟩
    have e60 : (0 : Int) < 10 ^ (60 : Int).toNat - 9 := by decide
    refine ⟨_, rfl, _, _, rfl, rfl, ⟨by decide, by decide, by decide⟩, _, _, rfl, rfl, _, _, rfl, rfl, e60, _, rfl, _, _, rfl, rfl, .inr ⟨by omega, by omega⟩, q _ H3 ?_ (hb3.mono (by omega)) hs3⟩
    have h1 := emod_in (x := f) e60
    have h2 : Sz 20 sg := sz_small (by decide) (by omega) (by omega)
    have h3 : (10 : Int) ^ (60 : Int).toNat - 9 < 1606938044258990275541962092341162602522202993782792835301376 := by decide
    have h4 : Sz 200 (f % (10 ^ (60 : Int).toNat - 9)) := by
      show (f % (10 ^ (60 : Int).toNat - 9)).natAbs < 2 ^ 200
      have e2 : (2 : Nat) ^ 200 = 1606938044258990275541962092341162602522202993782792835301376 := by decide
      rw [e2]
      omega
    have h5 : Sz 1 sg ∨ True := .inr trivial
    have h6 : (f % (10 ^ (60 : Int).toNat - 9) * sg).natAbs ≤ (f % (10 ^ (60 : Int).toNat - 9)).natAbs := by
      rw [Int.natAbs_mul]
      have : sg.natAbs ≤ 1 := by omega
      calc _ ≤ (f % (10 ^ (60 : Int).toNat - 9)).natAbs * 1 := Nat.mul_le_mul_left _ this
        _ = _ := Nat.mul_one _
    exact Nat.lt_of_le_of_lt h6 h4
abbrev s_law_chosen : Stmt := top 40
theorem sc_law_chosen : FnScope ["_law_n", "_law_k", "_law_found", "_law_turn"] ["_law_n", "_law_k"] (defScope s_law_chosen) := ⟨rfl, rfl, rfl, by decide +kernel, rfl, by decide +kernel, by decide +kernel⟩
theorem ok_law_chosen {f : Addr} {fd : FuncData} (F : Fun K "_law_chosen" "_law_chosen" s_law_chosen f fd) (T : Txt mg)   : FnOk P w K mg base CX0 1 f fd ["_law_n", "_law_k"] spChB := by
  refine F.ok sc_law_chosen (fun vs H Q E h => ?_) (fun cdv A outer s H vs Q E hr h => ?_)
  · obtain ⟨n, k, m, rfl, _⟩ := h
    rfl
  obtain ⟨n, k, m, rfl, hn, hm1, hm2, hk, hk', q⟩ := h
  refine ⟨_, (pss_cons (ps_set (i := 2) sc_law_chosen.nd rfl (Or.inl rfl) pe_int)
      (pss_cons (ps_for PassesOwn.never rfl (pi_range1 (by rfl) T.b_range (pa_cons (pv 1) pa_nil)) (pg_name (i := 3) sc_law_chosen.nd rfl (Or.inl rfl)) (pss_one (ps_set (i := 2) sc_law_chosen.nd rfl (Or.inl rfl) (pe_op op_fdiv (pe_op R9.op_mulB (pv 2) (pe_op op_sub (pv 0) (pv 3))) (pe_op op_add (pv 3) pe_int)))))
      (pss_one (ps_ret (pv 2))))), ?_⟩
  refine ⟨_, rfl, k, rfl, by omega, by omega, ?_⟩
  refine for_range (lo := 0) (n := k.toNat) (fun i σ H2 => H2 = H ∧ ∃ u : Option V, σ = [some (.int n), some (.int k), some (.int (ch n i)), u]) ⟨rfl, none, rfl⟩ ?_ ?_
  · rintro i σ H2 hi ⟨rfl, u, rfl⟩
    have h1 := ch_sz hn hm1 i (by omega)
    have h2 : Sz (m + 1) (n - (0 + (i : Int))) := hn.sub (sz_small (by omega) (by omega) (by omega))
    refine ⟨_, rfl, _, rfl, _, rfl, _, _, rfl, rfl, _, _, rfl, rfl, ⟨_, _, ?_, ?_, h1.bd, h2.bd⟩, _, rfl, _, _, rfl, rfl, _, _, rfl, rfl, ⟨(show (0 : Int) < 0 + (i : Int) + 1 by omega), (show 0 + (i : Int) + 1 < 1073741824 by omega)⟩, rfl, some (.int (0 + (i : Int))), ?_⟩
    · have : (m + 1) * i ≤ (m + 1) * 7 := Nat.mul_le_mul_left _ (by omega)
      omega
    · omega
    · show [some (V.int n), some (V.int k), some (V.int (ch n i * (n - (0 + (i : Int))) / (0 + (i : Int) + 1))), some (V.int (0 + (i : Int)))] = _
      rw [Int.zero_add]
      rfl
  · rintro σ H2 ⟨rfl, u, rfl⟩
    exact ⟨_, rfl, q⟩
abbrev s_law_letter_right : Stmt := top 41
theorem sc_law_letter_right : FnScope ["_law_ground", "_law_words", "_law_letter", "_law_n", "_law_found", "_law_due", "_law_word_here"] ["_law_ground", "_law_words", "_law_letter", "_law_n"] (defScope s_law_letter_right) := ⟨rfl, rfl, rfl, by decide +kernel, rfl, by decide +kernel, by decide +kernel⟩
theorem ok_law_letter_right {f : Addr} {fd : FuncData} (F : Fun K "_law_letter_right" "_law_letter_right" s_law_letter_right f fd) (T : Txt mg) {C aD : Addr} (TG : TxtG K mg C aD) (E_set : mg "set" = none) (C_scattered : Cal P w K mg base "scattered" ["ground", "word"] 3 (spScat C)) (C_sums_repeated : Cal P w K mg base "sums_repeated" ["ground", "one", "n"] 4 (spRepB C)) (C_law_chosen : Cal P w K mg base "_law_chosen" ["_law_n", "_law_k"] 1 spChB) : FnOk P w K mg base CX0 5 f fd ["_law_ground", "_law_words", "_law_letter", "_law_n"] (spLet20 C) := by
  refine F.ok sc_law_letter_right (fun vs H Q E h => ?_) (fun cdv A outer s H vs Q E hr h => ?_)
  · obtain ⟨g, r, x, n, l, d, rfl, _⟩ := h
    rfl
  obtain ⟨g, r, x, n, l, d, rfl, G, hW, x1, xl, hn, q⟩ := h
  refine ⟨_, (pss_cons (ps_set (i := 4) sc_law_letter_right.nd rfl (Or.inl rfl) (C_sums_repeated.pe (hr.mono (by decide)) (by rfl) (pa_cons (pv 0) (pa_cons (C_scattered.pe (hr.mono (by decide)) (by rfl) (pa_cons (pv 0) (pa_cons (pe_tupN (pa_cons (pv 2) pa_nil)) pa_nil))) (pa_cons (pv 3) pa_nil)))))
      (pss_cons (ps_setLc (i := 5) (own := [("_law_word_here", 6)]) (by rfl) sc_law_letter_right.nd rfl rfl (sw_true rfl rfl rfl (by decide +kernel)) (pi_list (pv 1)) (blkOk_by (own := [("_law_word_here", 6)]) (N := ["_law_ground", "_law_words", "_law_letter", "_law_n", "_law_found", "_law_due", "_law_word_here"]) (sc := defScope s_law_letter_right) (by decide +kernel)) (fun _ _ _ _ _ => (pg_name (i := 6) sc_law_letter_right.nd rfl (Or.inl rfl))) (fun _ _ _ _ _ => pts_nil) (fun _ _ _ _ _ => (pe_ifExp (pt_setEq (K := K) rfl (by rfl) hr.units (by rfl) E_set (pa_cons (pv 6) pa_nil) (pa_cons (pe_op (r := R3.rRepA K) R3.op_repA (pe_tupN (pa_cons (pv 2) pa_nil)) (pe_callB (r := rLen K) (id := "len") c_len (by rfl) T.b_len (by decide +kernel) (pa_cons (pv 6) pa_nil))) pa_nil)) (C_law_chosen.pe (hr.mono (by decide)) (by rfl) (pa_cons (pv 3) (pa_cons (pe_callB (r := rLen K) (id := "len") c_len (by rfl) T.b_len (by decide +kernel) (pa_cons (pv 6) pa_nil)) pa_nil))) pe_int)))
      (pss_one (ps_ret (pe_cmpR op_eq (pe_callTy (r := rStrD K) (T := "str") (cr_strD hr.gd hr.units) (by rfl) T.b_str (by decide +kernel) (pa_cons (pv 4) pa_nil)) (pe_callTy (r := rStrD K) (T := "str") (cr_strD hr.gd hr.units) (by rfl) T.b_str (by decide +kernel) (pa_cons (pv 5) pa_nil)) (nomark _)))))), ?_⟩
  have ok := G.p.ok
  have d5 := ok.d5
  have lgw := (gw_fin ok).2
  have n200 : n.natAbs ≤ 2 ^ 200 := Nat.le_of_lt hn
  have wbf : WB 1 (2 ^ 1) (scF [x]) := (WB.sc [x]).mono (Nat.le_refl 1) (by show 1 ≤ 2; decide)
  have f1 : scF [x] [] = 1 := scF_at_nil _
  have bds := pw_bdsS ok f1 wbf (by decide) n200
  refine st_split (t := tAsg _ _) (fun σ HH => ∃ fr : Addr, σ = [some (.ref g), some (.ref r), some (.int x), some (.int n), some (.ref fr), none, none] ∧ WL HH fr ((gw l d).map (pw7 (scF [x]) n)) ∧ Same H HH) (fun nx NX => ?_) ?_
  · refine ⟨_, rfl, _, rfl, _, rfl, (by show 1 ≤ sizeLine; decide), fun t1 H1 f1' h1 s1 => ?_⟩
    dsimp only [tNil]
    have h1' : WT H1 t1 [x] := h1
    refine ⟨g, t1, [x], l, d, rfl, (G.same s1).p, (.inl h1'), (by show 1 ≤ 10000; decide), fun r1 H2 f2 h2 s2 => ?_⟩
    rw [scatW_map ok] at h2
    refine ⟨_, rfl, ?_⟩
    dsimp only [tNil]
    refine ⟨g, r1, scF [x], n, l, d, _, 200, rfl, (G.same (s1.trans s2)).p, .inr h2, WB.bds1 ok wbf, by omega, hn, by omega, by omega, fun fr H3 f3 h3 s3 => ?_⟩
    exact NX _ _ ⟨fr, rfl, h3, s1.trans (s2.trans s3)⟩
  rintro _ H1 ⟨fr, rfl, hf1, s1⟩
  have hW1 := hW.same s1
  obtain ⟨ps, hps, hws⟩ := hW1
  have lps : ps.length = (gw l d).length := hws.len
  have ax := hn
  refine st_split (t := tAsg _ _) (fun σ HH => ∃ dr : Addr, σ = [some (.ref g), some (.ref r), some (.int x), some (.int n), some (.ref fr), some (.ref dr), none] ∧ WL HH dr ((gw l d).map (pw7 (scF [x]) n)) ∧ Same H1 HH) (fun nx NX => ?_) ?_
  · refine ⟨_, rfl, r, rfl, ⟨_, SqL.of hps⟩, fun D hD => ?_⟩
    refine lc_list (K := K) (a := r) (xs := ps.map V.ref) (fun j HH => j ≤ ps.length ∧ Same H1 HH ∧ WL HH D (((gw l d).take j).map (pw7 (scF [x]) n))) ⟨Nat.zero_le _, same_new hD _, upd_same⟩ (fun j HH _ z => SqL.of (z.2.1 _ _ hps)) ?_ ?_
    · rintro j y HH hy ⟨_, z, hv⟩
      obtain ⟨p, hp, rfl⟩ := at_ref hy
      have hj : j < ps.length := (List.getElem?_eq_some_iff.mp hp).1
      obtain ⟨w, hw, hwp⟩ := hws.get hp
      have hwz := hwp.same z
      have mw := gw_mem.mp (List.mem_of_getElem? hw)
      have hw7 : w.length ≤ 7 := by have := mw.1; omega
      have et : (gw l d).take (j + 1) = (gw l d).take j ++ [w] := by
        obtain ⟨hj2, e⟩ := List.getElem?_eq_some_iff.mp hw
        rw [List.take_succ_eq_append_getElem hj2, e]
      have fin : ∀ (v : Int) (HK : Hp), v = pw7 (scF [x]) n w → Same HH HK → ∃ acc, HK D = some (.lst acc) ∧ acc.length < sizeLine ∧ (j + 1 ≤ ps.length ∧ Same H1 (upd HK D (.lst (acc ++ [.int v]))) ∧ WL (upd HK D (.lst (acc ++ [.int v]))) D (((gw l d).take (j + 1)).map (pw7 (scF [x]) n))) := fun v HK ev sk => by
        refine ⟨_, sk _ _ hv, by rw [List.length_map, List.length_map, List.length_take]; exact Nat.lt_of_le_of_lt (show _ ≤ 1000 by omega) (by decide), by omega, same_upd hD (z.trans sk), ?_⟩
        unfold WL
        rw [upd_same, et, List.map_append, List.map_append, ev]
        rfl
      have val := pw7_elt (k := x) (by omega) n hw7
      rw [← scF_one] at val
      refine ⟨rfl, ?_⟩
      refine ⟨_, rfl, ?_⟩
      dsimp only [tNil]
      refine ⟨p, w, rfl, SqT.of hwz, by omega, ?_⟩
      refine ⟨_, rfl, (by show 1 ≤ sizeLine; decide), fun t0 Ha fa ha sa => ?_⟩
      have ha' : WT Ha t0 [x] := ha
      refine ⟨_, rfl, ?_⟩
      dsimp only [tNil]
      refine len_rd (.inl (hwz.same sa)) ?_
      refine rep_rd ha' (by omega) (by omega) (by rw [Int.toNat_natCast]; show 1 * _ ≤ _; omega) fun c2 Hb hb sb => ?_
      have erep : rep ((w.length : Nat) : Int).toNat [x] = List.replicate w.length x := by
        rw [Int.toNat_natCast]
        unfold rep
        rw [List.flatten_replicate_singleton]
      rw [erep] at hb
      have sab := sa.trans sb
      refine ⟨c2, _, rfl, SqT.of hb, by rw [List.length_replicate]; omega, fun r0 hr0 => ⟨r0, rfl, ?_⟩⟩
      have key := hr0.trans (seen_rep rfl)
      cases r0 with
      | true =>
        refine iteT ?_
        rw [if_pos (key.mp rfl)] at val
        refine ⟨_, rfl, _, rfl, ?_⟩
        dsimp only [tNil]
        refine len_rd (.inl (hwz.same sab)) ?_
        refine ⟨n, (w.length : Nat), 200, rfl, hn, by omega, by omega, by omega, by omega, ?_⟩
        rw [Int.toNat_natCast]
        exact fin _ Hb val.symm sab
      | false =>
        refine iteF ?_
        rw [if_neg (fun z => Bool.noConfusion (key.mpr z))] at val
        exact fin _ Hb val.symm sab
    · rintro HH ⟨_, z, hv⟩
      rw [List.length_map, lps, List.take_length] at hv
      exact NX _ _ ⟨D, rfl, hv, z⟩
  rintro _ H2 ⟨dr, rfl, hd2, s12⟩
  have lm : ((gw l d).map (pw7 (scF [x]) n)).length ≤ 5000 := by rw [List.length_map]; omega
  have sm := Bds.smalls bds (by decide)
  refine ⟨_, rfl, ?_⟩
  dsimp only [tNil]
  refine strI_rd (s12 _ _ hf1) sm lm ⟨_, rfl, ?_⟩
  dsimp only [tNil]
  refine strI_rd hd2 sm lm ?_
  refine ⟨rfl, ?_⟩
  rw [decide_eq_true rfl]
  exact q H2 (s1.trans s12)
abbrev s_law_right : Stmt := top 42
theorem sc_law_right : FnScope ["_law_box_here", "_law_letters", "_law_depth", "_law_ground", "_law_word_here", "_law_n", "_law_m", "_law_most", "_law_few", "_law_sums", "_law_kept", "_law_times", "_law_due", "_law_handed", "_law_back", "_law_more", "_law_one", "_law_other", "_law_both", "_law_by_both"] ["_law_box_here"] (defScope s_law_right) := ⟨rfl, rfl, rfl, by decide +kernel, rfl, by decide +kernel, by decide +kernel⟩
theorem ok_law_right {f : Addr} {fd : FuncData} (F : Fun K "_law_right" "_law_right" s_law_right f fd) (T : Txt mg) {C aD : Addr} (TG : TxtG K mg C aD)  (C_law_sizes : Cal P w K mg base "_law_sizes" ["_law_box_here"] 2 spSizes) (I_Ground : CalI P w K mg base C "Ground" ["self", "letters", "depth"] 10 (spInit C)) (C_law_word : Cal P w K mg base "_law_word" ["_law_box_here", "_law_letters", "_law_most"] 2 spWord) (C_law_number : Cal P w K mg base "_law_number" ["_law_box_here"] 2 spNumber) (C_law_take : Cal P w K mg base "_law_take" ["_law_box_here", "_law_size"] 1 spTake) (C_scattered : Cal P w K mg base "scattered" ["ground", "word"] 3 (spScat C)) (C_repeated : Cal P w K mg base "repeated" ["word", "n"] 2 spRepeated) (C_sums_repeated : Cal P w K mg base "sums_repeated" ["ground", "one", "n"] 4 (spRepB C)) (C_sums_backed : Cal P w K mg base "sums_backed" ["ground", "one"] 5 (spBackB C)) (C_backed : Cal P w K mg base "backed" ["word"] 1 spBacked) (C_sums_joined : Cal P w K mg base "sums_joined" ["ground", "one", "other"] 2 (spJoin C)) (C_law_letter_right : Cal P w K mg base "_law_letter_right" ["_law_ground", "_law_words", "_law_letter", "_law_n"] 5 (spLet20 C)) (M_words : CalM P w K mg base C "words" ["self"] 1 (spMWords C)) : FnOk P w K mg base CX0 12 f fd ["_law_box_here"] spRight20 := by
  refine F.ok sc_law_right (fun vs H Q E h => ?_) (fun cdv A outer s H vs Q E hr h => ?_)
  · obtain ⟨b, m, rfl, _⟩ := h
    rfl
  obtain ⟨b, m, rfl, hb, hm, q⟩ := h
  refine ⟨_, (pss_cons (ps_asg (C_law_sizes.pe (hr.mono (by decide)) (by rfl) (pa_cons (pv 0) pa_nil)) (pg_tup (by rfl) (pgs_cons (pg_name (i := 1) sc_law_right.nd rfl (Or.inl rfl)) (pgs_cons (pg_name (i := 2) sc_law_right.nd rfl (Or.inl rfl)) pgs_nil))))
      (pss_cons (ps_par (i := 3) (j := 4) (by rfl) sc_law_right.nd rfl rfl (by decide) rfl rfl (pa_cons (I_Ground.pe (hr.mono (by decide)) (by rfl) (pa_cons (pv 1) (pa_cons (pv 2) pa_nil))) (pa_cons (C_law_word.pe (hr.mono (by decide)) (by rfl) (pa_cons (pv 0) (pa_cons (pv 1) (pa_cons pe_int pa_nil)))) pa_nil)) (by rfl))
      (pss_cons (ps_asg (pe_lc (own := [("_law_one", 16)]) (by rfl) sc_law_right.nd (pi_tup (pe_tupN (pa_cons (C_law_number.pe (hr.mono (by decide)) (by rfl) (pa_cons (pv 0) pa_nil)) (pa_cons (C_law_number.pe (hr.mono (by decide)) (by rfl) (pa_cons (pv 0) pa_nil)) pa_nil)))) (blkOk_by (own := [("_law_one", 16)]) (N := ["_law_box_here", "_law_letters", "_law_depth", "_law_ground", "_law_word_here", "_law_n", "_law_m", "_law_most", "_law_few", "_law_sums", "_law_kept", "_law_times", "_law_due", "_law_handed", "_law_back", "_law_more", "_law_one", "_law_other", "_law_both", "_law_by_both"]) (sc := defScope s_law_right) (by decide +kernel)) (fun _ _ _ _ _ => (pg_name (i := 16) sc_law_right.nd rfl (Or.inl rfl))) (fun _ _ _ _ _ => pts_nil) (fun _ _ _ _ _ => (pe_ifExp (pt_cmpR op_lt (pe_callB call_abs (by rfl) T.b_abs (by decide +kernel) (pa_cons (pv 16) pa_nil)) (pe_op op_pow pe_int pe_int) (nomark _)) (pv 16) (pe_op op_fdivS (pv 16) (pe_op op_pow pe_int pe_int))))) (R5.pg_lst (by rfl) (pgs_cons (pg_name (i := 5) sc_law_right.nd rfl (Or.inl rfl)) (pgs_cons (pg_name (i := 6) sc_law_right.nd rfl (Or.inl rfl)) pgs_nil))))
      (pss_cons (ps_set (i := 7) sc_law_right.nd rfl (Or.inl rfl) (pe_op op_fdiv pe_int (pe_callB (call_max2 rfl) (by rfl) T.b_max (by decide +kernel) (pa_cons pe_int (pa_cons (pe_callB (r := rLen K) (id := "len") c_len (by rfl) T.b_len (by decide +kernel) (pa_cons (pv 4) pa_nil)) pa_nil)))))
      (pss_cons (ps_set (i := 8) sc_law_right.nd rfl (Or.inl rfl) (pe_op op_sub (C_law_take.pe (hr.mono (by decide)) (by rfl) (pa_cons (pv 0) (pa_cons (pe_op op_add (pe_op op_mul pe_int (pe_callB (call_min2 rfl) (by rfl) T.b_min (by decide +kernel) (pa_cons pe_int (pa_cons (pv 7) pa_nil)))) pe_int) pa_nil))) (pe_callB (call_min2 rfl) (by rfl) T.b_min (by decide +kernel) (pa_cons pe_int (pa_cons (pv 7) pa_nil)))))
      (pss_cons (ps_set (i := 9) sc_law_right.nd rfl (Or.inl rfl) (C_scattered.pe (hr.mono (by decide)) (by rfl) (pa_cons (pv 3) (pa_cons (pv 4) pa_nil))))
      (pss_cons (ps_set (i := 10) sc_law_right.nd rfl (Or.inl rfl) (pe_callTy (r := rListOf K) (T := "list") c_list (by rfl) T.b_list (by decide +kernel) (pa_cons (pv 9) pa_nil)))
      (pss_cons (ps_for PassesOwn.never rfl (pi_tup (pe_tupN (pa_cons pe_int (pa_cons pe_int (pa_cons pe_int (pa_cons (pv 8) (pa_cons (pe_un un_neg pe_int) pa_nil))))))) (pg_name (i := 11) sc_law_right.nd rfl (Or.inl rfl)) (pss_cons (ps_set (i := 12) sc_law_right.nd rfl (Or.inl rfl) (pe_callTy (r := rStrD K) (T := "str") (cr_strD hr.gd hr.units) (by rfl) T.b_str (by decide +kernel) (pa_cons (C_scattered.pe (hr.mono (by decide)) (by rfl) (pa_cons (pv 3) (pa_cons (C_repeated.pe (hr.mono (by decide)) (by rfl) (pa_cons (pv 4) (pa_cons (pv 11) pa_nil))) pa_nil))) pa_nil)))
      (pss_cons (ps_set (i := 13) sc_law_right.nd rfl (Or.inl rfl) (pe_ix (r := rIxL K) ix_list (pe_lstN (pa_cons (pv 9) (pa_cons (pe_callTy (r := rTupleOf K) (T := "tuple") c_tuple (by rfl) T.b_tuple (by decide +kernel) (pa_cons (pv 9) pa_nil)) pa_nil))) (C_law_take.pe (hr.mono (by decide)) (by rfl) (pa_cons (pv 0) (pa_cons pe_int pa_nil))) (fun _ _ => rfl)))
      (pss_one (ps_if (PW.pt (pw_or (pt_cmpR op_ne (pe_callTy (r := rStrD K) (T := "str") (cr_strD hr.gd hr.units) (by rfl) T.b_str (by decide +kernel) (pa_cons (C_sums_repeated.pe (hr.mono (by decide)) (by rfl) (pa_cons (pv 3) (pa_cons (pv 13) (pa_cons (pv 11) pa_nil)))) pa_nil)) (pv 12) (nomark _)) (pw_or1 (pt_cmpR (r := rNeD K) (op_neD hr.units) (pv 9) (pv 10) (nomark _))))) (pss_one (ps_ret pe_bl)) pss_nil)))))
      (pss_cons (ps_set (i := 14) sc_law_right.nd rfl (Or.inl rfl) (C_sums_backed.pe (hr.mono (by decide)) (by rfl) (pa_cons (pv 3) (pa_cons (pe_ix (r := rIxL K) ix_list (pe_lstN (pa_cons (pv 9) (pa_cons (pe_callTy (r := rTupleOf K) (T := "tuple") c_tuple (by rfl) T.b_tuple (by decide +kernel) (pa_cons (pv 9) pa_nil)) pa_nil))) (C_law_take.pe (hr.mono (by decide)) (by rfl) (pa_cons (pv 0) (pa_cons pe_int pa_nil))) (fun _ _ => rfl)) pa_nil))))
      (pss_cons (ps_if (PW.pt (pw_or (pt_not (pt_val (pe_callB (r := R1.rInst K) (id := "isinstance") R1.cr_inst (by rfl) T.b_isinstance (by decide +kernel) (pa_cons (pv 14) (pa_cons (pe_bltn (v := .ty "list") (by rfl) T.b_list (by decide +kernel) rfl) pa_nil))))) (pw_or (pt_cmpR op_ne (pe_callTy (r := rStrD K) (T := "str") (cr_strD hr.gd hr.units) (by rfl) T.b_str (by decide +kernel) (pa_cons (pv 14) pa_nil)) (pe_callTy (r := rStrD K) (T := "str") (cr_strD hr.gd hr.units) (by rfl) T.b_str (by decide +kernel) (pa_cons (C_scattered.pe (hr.mono (by decide)) (by rfl) (pa_cons (pv 3) (pa_cons (C_backed.pe (hr.mono (by decide)) (by rfl) (pa_cons (pv 4) pa_nil)) pa_nil))) pa_nil)) (nomark _)) (pw_or1 (pt_cmpR (r := rNeD K) (op_neD hr.units) (pv 9) (pv 10) (nomark _)))))) (pss_one (ps_ret pe_bl)) pss_nil)
      (pss_cons (ps_par (i := 13) (j := 15) (by rfl) sc_law_right.nd rfl rfl (by decide) rfl rfl (pa_cons (pe_callTy (r := rListOf K) (T := "list") c_list (by rfl) T.b_list (by decide +kernel) (pa_cons (pv 9) pa_nil)) (pa_cons (C_scattered.pe (hr.mono (by decide)) (by rfl) (pa_cons (pv 3) (pa_cons (C_law_word.pe (hr.mono (by decide)) (by rfl) (pa_cons (pv 0) (pa_cons (pv 1) (pa_cons pe_int pa_nil)))) pa_nil))) pa_nil)) (by rfl))
      (pss_cons (ps_expr (C_sums_backed.pe (hr.mono (by decide)) (by rfl) (pa_cons (pv 3) (pa_cons (pv 13) pa_nil))))
      (pss_cons (ps_expr (C_sums_repeated.pe (hr.mono (by decide)) (by rfl) (pa_cons (pv 3) (pa_cons (pv 13) (pa_cons (pv 5) pa_nil)))))
      (pss_cons (ps_expr (pe_bm0 PySem.F.plainAttrs_list PySem.F.slot_list_clear PySem.F.type_list_clear mt_clear (pv 13)))
      (pss_cons (ps_expr (pe_bm PySem.F.plainAttrs_list PySem.F.slot_list_extend PySem.F.type_list_extend mt_extend (pv 13) (pa_cons (pv 15) pa_nil)))
      (pss_cons (ps_if (pt_cmpR op_ne (pe_callTy (r := rStrD K) (T := "str") (cr_strD hr.gd hr.units) (by rfl) T.b_str (by decide +kernel) (pa_cons (C_sums_repeated.pe (hr.mono (by decide)) (by rfl) (pa_cons (pv 3) (pa_cons (pv 13) (pa_cons (pv 5) pa_nil)))) pa_nil)) (pe_callTy (r := rStrD K) (T := "str") (cr_strD hr.gd hr.units) (by rfl) T.b_str (by decide +kernel) (pa_cons (C_sums_repeated.pe (hr.mono (by decide)) (by rfl) (pa_cons (pv 3) (pa_cons (pe_callTy (r := rTupleOf K) (T := "tuple") c_tuple (by rfl) T.b_tuple (by decide +kernel) (pa_cons (pv 15) pa_nil)) (pa_cons (pv 5) pa_nil)))) pa_nil)) (nomark _)) (pss_one (ps_ret pe_bl)) pss_nil)
      (pss_cons (ps_if (pt_cmpR op_ne (pe_callTy (r := rStrD K) (T := "str") (cr_strD hr.gd hr.units) (by rfl) T.b_str (by decide +kernel) (pa_cons (C_sums_backed.pe (hr.mono (by decide)) (by rfl) (pa_cons (pv 3) (pa_cons (pv 13) pa_nil))) pa_nil)) (pe_callTy (r := rStrD K) (T := "str") (cr_strD hr.gd hr.units) (by rfl) T.b_str (by decide +kernel) (pa_cons (C_sums_backed.pe (hr.mono (by decide)) (by rfl) (pa_cons (pv 3) (pa_cons (pe_callTy (r := rTupleOf K) (T := "tuple") c_tuple (by rfl) T.b_tuple (by decide +kernel) (pa_cons (pv 15) pa_nil)) pa_nil))) pa_nil)) (nomark _)) (pss_one (ps_ret pe_bl)) pss_nil)
      (pss_cons (ps_par (i := 16) (j := 17) (by rfl) sc_law_right.nd rfl rfl (by decide) rfl rfl (pa_cons (C_sums_repeated.pe (hr.mono (by decide)) (by rfl) (pa_cons (pv 3) (pa_cons (pv 9) (pa_cons (pv 5) pa_nil)))) (pa_cons (C_sums_repeated.pe (hr.mono (by decide)) (by rfl) (pa_cons (pv 3) (pa_cons (pv 9) (pa_cons (pv 6) pa_nil)))) pa_nil)) (by rfl))
      (pss_cons (ps_par (i := 18) (j := 19) (by rfl) sc_law_right.nd rfl rfl (by decide) rfl rfl (pa_cons (C_sums_repeated.pe (hr.mono (by decide)) (by rfl) (pa_cons (pv 3) (pa_cons (pv 9) (pa_cons (pe_op op_add (pv 5) (pv 6)) pa_nil)))) (pa_cons (C_sums_repeated.pe (hr.mono (by decide)) (by rfl) (pa_cons (pv 3) (pa_cons (pv 9) (pa_cons (pe_op R9.op_mulB (pv 5) (pv 6)) pa_nil)))) pa_nil)) (by rfl))
      (pss_cons (ps_if (PW.pt (pw_or (pt_cmpR op_ne (pe_callTy (r := rStrD K) (T := "str") (cr_strD hr.gd hr.units) (by rfl) T.b_str (by decide +kernel) (pa_cons (C_sums_joined.pe (hr.mono (by decide)) (by rfl) (pa_cons (pv 3) (pa_cons (pv 16) (pa_cons (pv 17) pa_nil)))) pa_nil)) (pe_callTy (r := rStrD K) (T := "str") (cr_strD hr.gd hr.units) (by rfl) T.b_str (by decide +kernel) (pa_cons (pv 18) pa_nil)) (nomark _)) (pw_or1 (pt_cmpR op_ne (pe_callTy (r := rStrD K) (T := "str") (cr_strD hr.gd hr.units) (by rfl) T.b_str (by decide +kernel) (pa_cons (C_sums_repeated.pe (hr.mono (by decide)) (by rfl) (pa_cons (pv 3) (pa_cons (pv 16) (pa_cons (pv 6) pa_nil)))) pa_nil)) (pe_callTy (r := rStrD K) (T := "str") (cr_strD hr.gd hr.units) (by rfl) T.b_str (by decide +kernel) (pa_cons (pv 19) pa_nil)) (nomark _))))) (pss_one (ps_ret pe_bl)) pss_nil)
      (pss_cons (ps_if (PW.pt (pw_or (pt_cmpR op_ne (pe_callTy (r := rStrD K) (T := "str") (cr_strD hr.gd hr.units) (by rfl) T.b_str (by decide +kernel) (pa_cons (C_sums_backed.pe (hr.mono (by decide)) (by rfl) (pa_cons (pv 3) (pa_cons (pv 16) pa_nil))) pa_nil)) (pe_callTy (r := rStrD K) (T := "str") (cr_strD hr.gd hr.units) (by rfl) T.b_str (by decide +kernel) (pa_cons (C_sums_repeated.pe (hr.mono (by decide)) (by rfl) (pa_cons (pv 3) (pa_cons (pv 9) (pa_cons (pe_un un_neg (pv 5)) pa_nil)))) pa_nil)) (nomark _)) (pw_or1 (pt_cmpR (r := rNeD K) (op_neD hr.units) (pv 9) (pv 10) (nomark _))))) (pss_one (ps_ret pe_bl)) pss_nil)
      (pss_one (ps_ret (C_law_letter_right.pe (hr.mono (by decide)) (by rfl) (pa_cons (pv 3) (pa_cons (M_words.pe0 TG.cl (hr.mono (by decide)) (pv 3)) (pa_cons (pe_op op_add pe_int (C_law_take.pe (hr.mono (by decide)) (by rfl) (pa_cons (pv 0) (pa_cons (pv 1) pa_nil)))) (pa_cons (C_law_number.pe (hr.mono (by decide)) (by rfl) (pa_cons (pv 0) pa_nil)) pa_nil)))))))))))))))))))))))))))), ?_⟩
  refine ⟨_, rfl, b, _, rfl, hb, by omega, fun t l d H1 ok ht hb1 sb1 => ?_⟩
  refine ⟨t, _, rfl, SqT.of ht, rfl, _, _, rfl, _, _, rfl, rfl, ?_⟩
  dsimp only [gName]
  have l1 := ok.l1
  have l4 := ok.l4
  have d1 := ok.d1
  have d5 := ok.d5
  have lgw := (gw_fin ok).2
  refine st_split (t := tPar _ _ _) (fun σ HH => ∃ (g tw : Addr) (wd : List Int), σ = [some (.ref b), some (.int (l : Nat)), some (.int (d : Nat)), some (.ref g), some (.ref tw), none, none, none, none, none, none, none, none, none, none, none, none, none, none, none] ∧ Gr C HH g l d ∧ WT HH tw wd ∧ wd.length ≤ 30 ∧ (∀ x ∈ wd, x ≠ 0) ∧ Bx HH b 2200 ∧ SameB b H HH) (fun nx NX => ?_) ?_
  · refine ⟨_, rfl, _, rfl, fun g dx nx1 nd ne => ⟨g, dx, l, d, rfl, upd_same, ok, fun H5 G5 sb5 => ⟨rfl, ?_⟩⟩⟩
    have s5 := made_same nx1 nd sb5
    have hb5 := hb1.same s5
    refine ⟨_, rfl, _, rfl, b, (l : Int), 30, _, rfl, hb5, by omega, by omega, by omega, by omega, by omega, fun tw wd H6 lw sw hw hb6 sb6 => ?_⟩
    dsimp only [tNil]
    exact ⟨_, _, rfl, NX _ _ ⟨g, tw, wd, rfl, G5.g (.box hb5 sb6), hw, by omega, fun x hx => step_nz (sw x hx), hb6.mono (by omega), (sb1.same s5).trans sb6⟩⟩
  rintro _ H2 ⟨g, tw, wd, rfl, G2, hw2, lw, nw, hb2, sb2⟩
  refine st_split (t := tAsg _ _) (fun σ HH => ∃ (n1 n2 : Int), σ = [some (.ref b), some (.int (l : Nat)), some (.int (d : Nat)), some (.ref g), some (.ref tw), some (.int n1), some (.int n2), none, none, none, none, none, none, none, none, none, none, none, none, none] ∧ n1.natAbs ≤ 2 ^ 98 ∧ n2.natAbs ≤ 2 ^ 98 ∧ Bx HH b 2300 ∧ SameB b H2 HH) (fun nx NX => ?_) ?_
  · refine ⟨_, rfl, b, _, rfl, hb2, by omega, fun m1 H3 z1 hb3 sb3 => ?_⟩
    refine ⟨_, rfl, b, _, rfl, hb3, by omega, fun m2 H4 z2 hb4 sb4 => ?_⟩
    dsimp only [tNil]
    refine ⟨(by show 2 ≤ sizeLine; decide), fun y H5 fy hy sy => ?_⟩
    refine ⟨y, rfl, ⟨_, SqT.of hy⟩, fun D hD => ?_⟩
    refine lc_tup (K := K) (a := y) (xs := [V.int m1, V.int m2]) (fun j HH => j ≤ 2 ∧ Same H5 HH ∧ ∃ vs : List Int, vs.length = j ∧ (∀ v ∈ vs, v.natAbs ≤ 2 ^ 98) ∧ WL HH D vs) ⟨Nat.zero_le _, same_new hD _, [], rfl, fun v hv => by simp at hv, upd_same⟩ (fun j HH _ z => SqT.of (z.2.1 _ _ hy)) ?_ ?_
    · rintro j x HH hx ⟨_, z, vs, lv, nv, hv⟩
      have hj : j < 2 := (List.getElem?_eq_some_iff.mp hx).1
      obtain ⟨xi, rfl, zx⟩ : ∃ xi : Int, x = .int xi ∧ Sz 200 xi := by
        have : j = 0 ∨ j = 1 := by omega
        rcases this with rfl | rfl
        · exact ⟨m1, by cases hx; rfl, z1⟩
        · exact ⟨m2, by cases hx; rfl, z2⟩
      have fin : ∀ v : Int, v.natAbs ≤ 2 ^ 98 → ∃ acc, HH D = some (.lst acc) ∧ acc.length < sizeLine ∧ (j + 1 ≤ 2 ∧ Same H5 (upd HH D (.lst (acc ++ [.int v]))) ∧ ∃ vs' : List Int, vs'.length = j + 1 ∧ (∀ v ∈ vs', v.natAbs ≤ 2 ^ 98) ∧ WL (upd HH D (.lst (acc ++ [.int v]))) D vs') := fun v bv => by
        refine ⟨_, hv, by rw [List.length_map]; exact Nat.lt_of_le_of_lt (show _ ≤ 1000 by omega) (by decide), by omega, same_upd hD z, vs ++ [v], by rw [List.length_append, lv]; rfl, fun w hw => ?_, ?_⟩
        · rcases List.mem_append.mp hw with h | h
          · exact nv w h
          · rw [List.mem_singleton.mp h]; exact bv
        · unfold WL
          rw [upd_same, List.map_append]
          rfl
      refine ⟨rfl, ?_⟩
      refine ⟨_, rfl, ?_⟩
      dsimp only [tNil]
      refine ⟨_, rfl, _, _, rfl, rfl, ⟨by decide, by decide, by decide⟩, _, _, rfl, rfl, _, rfl, ?_⟩
      refine ite2 (fun c => ?_) (fun c => ?_)
      · exact ⟨_, rfl, fin xi (num_lt (of_decide_eq_true c))⟩
      · exact ⟨_, rfl, _, _, rfl, rfl, ⟨by decide, by decide, by decide⟩, _, _, rfl, rfl, ⟨by decide, zx.mono (by decide)⟩, fin _ (num_div zx)⟩
    · rintro HH ⟨_, z, vs, lv, nv, hv⟩
      match vs, lv with
      | [v1, v2], _ =>
        refine ⟨D, _, rfl, SqL.of hv, rfl, _, _, rfl, _, _, rfl, rfl, ?_⟩
        exact NX _ _ ⟨v1, v2, rfl, nv v1 (by simp), nv v2 (by simp), (hb4.same (sy.trans z)).mono (by omega), (sb3.trans sb4).same (sy.trans z)⟩
  rintro _ H3 ⟨n1, n2, rfl, bn1, bn2, hb3, sb3⟩
  have hw3 := hw2.sameB hb2 sb3
  have G3 := G2.g (.box hb2 sb3)
  have sbH3 := sb2.trans sb3
  refine st_split (t := tAsg _ _) (fun σ HH => ∃ D : Int, σ = [some (.ref b), some (.int (l : Nat)), some (.int (d : Nat)), some (.ref g), some (.ref tw), some (.int n1), some (.int n2), some (.int D), none, none, none, none, none, none, none, none, none, none, none, none] ∧ 2 ≤ D ∧ D ≤ 60 ∧ H3 = HH) (fun nx NX => ?_) ?_
  · refine ⟨_, rfl, ?_⟩
    dsimp only [tNil]
    refine len_rd (.inl hw3) ?_
    refine ⟨_, _, rfl, ?_⟩
    obtain ⟨mx, emx, m1, m30⟩ : ∃ mx : Int, mx = (if ((wd.length : Nat) : Int) > 1 then ((wd.length : Nat) : Int) else 1) ∧ 1 ≤ mx ∧ mx ≤ 30 := ⟨_, rfl, by split <;> omega, by split <;> omega⟩
    rw [← emx]
    refine ⟨_, _, rfl, rfl, ⟨by omega, by omega⟩, ?_⟩
    have m2 : 2 ≤ 60 / mx := Int.le_ediv_of_mul_le (by omega) (by omega)
    have m60 : 60 / mx ≤ 60 := Int.ediv_le_self _ (by decide)
    exact NX _ _ ⟨60 / mx, rfl, m2, m60, rfl⟩
  rintro _ _ ⟨D, rfl, D2, D60, rfl⟩
  refine st_split (t := tAsg _ _) (fun σ HH => ∃ few : Int, σ = [some (.ref b), some (.int (l : Nat)), some (.int (d : Nat)), some (.ref g), some (.ref tw), some (.int n1), some (.int n2), some (.int D), some (.int few), none, none, none, none, none, none, none, none, none, none, none] ∧ few.natAbs ≤ 20 ∧ Bx HH b 2301 ∧ SameB b H3 HH) (fun nx NX => ?_) ?_
  · refine ⟨_, rfl, _, rfl, ?_⟩
    dsimp only [tNil]
    refine ⟨_, _, rfl, ?_⟩
    obtain ⟨M, eM, M1, M20⟩ : ∃ M : Int, M = (if D < 20 then D else 20) ∧ 2 ≤ M ∧ M ≤ 20 := ⟨_, rfl, by split <;> omega, by split <;> omega⟩
    rw [← eM]
    refine ⟨_, _, rfl, rfl, .inl ⟨by decide, by decide⟩, _, _, rfl, rfl, ?_⟩
    refine ⟨b, 2 * M + 1, _, rfl, hb3, by omega, by omega, by omega, fun v H4 v0 v1 hb4 sb4 => ?_⟩
    refine ⟨_, rfl, ?_⟩
    refine ⟨_, _, rfl, ?_⟩
    rw [← eM]
    refine ⟨_, _, rfl, rfl, ?_⟩
    exact NX _ _ ⟨v - M, rfl, by omega, hb4.mono (by omega), sb4⟩
  rintro _ H4 ⟨few, rfl, few20, hb4, sb4⟩
  have hw4 := hw3.sameB hb3 sb4
  have G4 := G3.g (.box hb3 sb4)
  have sbH4 := sbH3.trans sb4
  have lm : ∀ f : Ser, ((gw l d).map f).length ≤ 5000 := fun f => by rw [List.length_map]; omega
  refine st_split (t := tAsg _ _) (fun σ HH => ∃ sm : Addr, σ = [some (.ref b), some (.int (l : Nat)), some (.int (d : Nat)), some (.ref g), some (.ref tw), some (.int n1), some (.int n2), some (.int D), some (.int few), some (.ref sm), none, none, none, none, none, none, none, none, none, none] ∧ WL HH sm ((gw l d).map (scF wd)) ∧ sm ≠ b ∧ Same H4 HH) (fun nx NX => ?_) ?_
  · refine ⟨_, rfl, _, rfl, ?_⟩
    dsimp only [tNil]
    refine ⟨g, tw, wd, l, d, rfl, G4.p, .inl hw4, by omega, fun sm H5 f5 h5 s5 => ?_⟩
    rw [scatW_map ok] at h5
    exact NX _ _ ⟨sm, rfl, h5, hb4.ne f5, s5⟩
  rintro _ H5 ⟨sm, rfl, hs5, nsb, s45⟩
  refine st_split (t := tAsg _ _) (fun σ HH => ∃ kp : Addr, σ = [some (.ref b), some (.int (l : Nat)), some (.int (d : Nat)), some (.ref g), some (.ref tw), some (.int n1), some (.int n2), some (.int D), some (.int few), some (.ref sm), some (.ref kp), none, none, none, none, none, none, none, none, none] ∧ I20 C b sm kp g tw l d wd 2400 H HH) (fun nx NX => ?_) ?_
  · refine ⟨_, rfl, ?_⟩
    dsimp only [tNil]
    refine list_rd (.inr hs5) fun kp H6 f6 h6 s6 => ?_
    have s46 := s45.trans s6
    exact NX _ _ ⟨kp, rfl, G4.same s46, hw4.same s46, s6 _ _ hs5, h6, (hb4.same s46).mono (by omega), sbH4.same s46, nsb, (hb4.same s45).ne f6⟩
  rintro _ H6 ⟨kp, rfl, I6⟩
  have f1 : scF wd [] = 1 := scF_at_nil _
  have wbf : WB 1 (2 ^ 5) (scF wd) := (WB.sc wd).mono (Nat.le_refl 1) (by show wd.length ≤ 32; omega)
  have bF := WB.bds1 ok wbf
  have pS : ∀ u : List Int, u.length ≤ 600 → Smalls ((gw l d).map (scF u)) := fun u hu => by rw [← scatW_map ok]; exact scat_smalls ok u hu
  have lrep : ∀ ti : Int, ti.natAbs ≤ 20 → (repW wd ti).length ≤ 600 := fun ti h => by rw [repW_len]; have := Nat.mul_le_mul h lw; omega
  refine st_split (t := tFor _ _ _) (fun σ HH => ∃ (v11 v12 v13 : Option V), σ = [some (.ref b), some (.int (l : Nat)), some (.int (d : Nat)), some (.ref g), some (.ref tw), some (.int n1), some (.int n2), some (.int D), some (.int few), some (.ref sm), some (.ref kp), v11, v12, v13, none, none, none, none, none, none] ∧ I20 C b sm kp g tw l d wd 2500 H HH) (fun nx NX => ?_) ?_
  · refine ⟨_, rfl, _, rfl, ?_⟩
    dsimp only [tNil]
    refine ⟨(by show 5 ≤ sizeLine; decide), fun y Hy fy hy sy => ?_⟩
    refine ⟨y, rfl, ⟨_, SqT.of hy⟩, ?_⟩
    have nyb := I6.bx.ne fy
    refine for_tup (D := { nx := nx, rt := Q }) (K := K) (a := y) (xs := [V.int 0, V.int 1, V.int 2, V.int few, V.int (-1)]) (fun i σ HH => ∃ (v11 v12 v13 : Option V), σ = [some (.ref b), some (.int (l : Nat)), some (.int (d : Nat)), some (.ref g), some (.ref tw), some (.int n1), some (.int n2), some (.int D), some (.int few), some (.ref sm), some (.ref kp), v11, v12, v13, none, none, none, none, none, none] ∧ i ≤ 5 ∧ SameB b Hy HH ∧ I20 C b sm kp g tw l d wd (2400 + i) H HH) ⟨none, none, none, rfl, Nat.zero_le _, .refl _, I6.same sy⟩ (fun i σ HH _ ⟨_, _, _, _, _, z, _⟩ => SqT.of (z _ _ nyb hy)) ?_ ?_
    · rintro i x σ HH hx ⟨v11, v12, v13, rfl, _, zy, I⟩
      have hi : i < 5 := (List.getElem?_eq_some_iff.mp hx).1
      obtain ⟨ti, rfl, ht20⟩ : ∃ ti : Int, x = .int ti ∧ ti.natAbs ≤ 20 := by
        rcases (show i = 0 ∨ i = 1 ∨ i = 2 ∨ i = 3 ∨ i = 4 by omega) with rfl | rfl | rfl | rfl | rfl
        · exact ⟨0, by cases hx; rfl, by decide⟩
        · exact ⟨1, by cases hx; rfl, by decide⟩
        · exact ⟨2, by cases hx; rfl, by decide⟩
        · exact ⟨few, by cases hx; rfl, few20⟩
        · exact ⟨-1, by cases hx; rfl, by decide⟩
      have lr := lrep ti ht20
      have lt : wd.length * ti.natAbs ≤ 30 * 20 := Nat.mul_le_mul lw ht20
      have eqp := map_al ok (pw7_repW wd nw ti)
      dsimp only [gName]
      refine st_split (t := tAsg _ _) (fun σ H1' => σ = [some (.ref b), some (.int (l : Nat)), some (.int (d : Nat)), some (.ref g), some (.ref tw), some (.int n1), some (.int n2), some (.int D), some (.int few), some (.ref sm), some (.ref kp), some (.int ti), some (.str (txtI ((gw l d).map (scF (repW wd ti))))), v13, none, none, none, none, none, none] ∧ Same HH H1') (fun nx2 NX2 => ?_) ?_
      · refine ⟨_, rfl, _, rfl, _, rfl, ?_⟩
        dsimp only [tNil]
        refine ⟨tw, wd, ti, rfl, .inl I.hw, by omega, by omega, by omega, by omega, fun r1 Ha h1 sa => ?_⟩
        refine ⟨g, r1, repW wd ti, l, d, rfl, (I.gr.same sa).p, .inl h1, by omega, fun r2 Hb fb hb2 sb => ?_⟩
        rw [scatW_map ok] at hb2
        exact strI_rd hb2 (pS _ lr) (lm _) (NX2 _ _ ⟨rfl, sa.trans sb⟩)
      rintro _ H7 ⟨rfl, s7⟩
      have I7 := I.same s7
      refine st_split (t := tAsg _ _) (fun σ H1' => ∃ hd : Addr, σ = [some (.ref b), some (.int (l : Nat)), some (.int (d : Nat)), some (.ref g), some (.ref tw), some (.int n1), some (.int n2), some (.int D), some (.int few), some (.ref sm), some (.ref kp), some (.int ti), some (.str (txtI ((gw l d).map (scF (repW wd ti))))), some (.ref hd), none, none, none, none, none, none] ∧ Wd H1' hd ((gw l d).map (scF wd)) ∧ I20 C b sm kp g tw l d wd (2400 + i + 1) H H1' ∧ SameB b H7 H1') (fun nx2 NX2 => ?_) ?_
      · refine ⟨_, rfl, _, rfl, ?_⟩
        dsimp only [tNil]
        refine tup_rd (.inr I7.hs) fun pt Ha ha sa => ?_
        try dsimp only [tNil]
        refine ⟨(by show 2 ≤ sizeLine; decide), fun py Hb fb hyb sb => ?_⟩
        have Ib := I7.same (sa.trans sb)
        refine ⟨_, rfl, b, 2, _, rfl, Ib.bx, by omega, by decide, by decide, fun pv Hc v0 v1 hbc sbc => ?_⟩
        have Ic := Ib.box sbc hbc
        have pne := (I7.bx.same sa).ne fb
        obtain ⟨hd, hat, hhd⟩ : ∃ hd : Addr, atI [V.ref sm, V.ref pt] pv = some (.ref hd) ∧ Wd Hc hd ((gw l d).map (scF wd)) := by
          rcases (show pv = 0 ∨ pv = 1 by omega) with rfl | rfl
          · exact ⟨sm, rfl, .inr Ic.hs⟩
          · exact ⟨pt, rfl, .inl ((WT.same ha sb).sameB Ib.bx sbc)⟩
        refine ⟨py, [V.ref sm, V.ref pt], pv, _, rfl, rfl, SqL.of (sbc _ _ pne hyb), hat, ?_⟩
        exact NX2 _ _ ⟨hd, rfl, hhd, Ic, (SameB.of (sa.trans sb)).trans sbc⟩
      rintro _ H8 ⟨hd, rfl, hhd, I8, sb8⟩
      refine ⟨_, rfl, _, rfl, _, rfl, ?_⟩
      dsimp only [tNil]
      refine ⟨g, hd, scF wd, ti, l, d, _, 10, rfl, I8.gr.p, hhd, bF, by omega, sz_small (by omega) (by omega) (by omega), by omega, by omega, fun r H9 f9 h9 s9 => ?_⟩
      rw [eqp] at h9
      refine strI_rd h9 (pS _ lr) (lm _) ⟨_, rfl, rfl, _, rfl, ?_⟩
      rw [decide_eq_true rfl]
      refine iteF ?_
      have I9 := I8.same s9
      refine ⟨_, rfl, _, rfl, neL_rd I9.hs I9.hk ⟨_, rfl, ?_⟩⟩
      rw [decide_eq_true rfl]
      refine iteF ?_
      dsimp only [tNext]
      exact ⟨_, _, _, rfl, by omega, ((zy.trans (.of s7)).trans sb8).trans (.of s9), I9.mono (by omega)⟩
    · rintro σ HH ⟨v11, v12, v13, rfl, _, zy, I⟩
      exact NX _ _ ⟨v11, v12, v13, rfl, I.mono (by show 2400 + 5 ≤ 2500; omega)⟩
  rintro _ H7 ⟨v11, v12, v13, rfl, I7⟩
  refine st_split (t := tAsg _ _) (fun σ HH => ∃ bk : Addr, σ = [some (.ref b), some (.int (l : Nat)), some (.int (d : Nat)), some (.ref g), some (.ref tw), some (.int n1), some (.int n2), some (.int D), some (.int few), some (.ref sm), some (.ref kp), v11, v12, v13, some (.ref bk), none, none, none, none, none] ∧ WL HH bk ((gw l d).map (inv (scF wd))) ∧ I20 C b sm kp g tw l d wd 2600 H HH) (fun nx NX => ?_) ?_
  · refine ⟨_, rfl, ?_⟩
    refine ⟨_, rfl, _, rfl, ?_⟩
    dsimp only [tNil]
    refine tup_rd (.inr I7.hs) fun pt Ha ha sa => ?_
    try dsimp only [tNil]
    refine ⟨(by show 2 ≤ sizeLine; decide), fun py Hb fb hyb sb => ?_⟩
    have Ib := I7.same (sa.trans sb)
    refine ⟨_, rfl, b, 2, _, rfl, Ib.bx, by omega, by decide, by decide, fun pv Hc v0 v1 hbc sbc => ?_⟩
    have Ic := Ib.box sbc hbc
    have pne := (I7.bx.same sa).ne fb
    obtain ⟨hd, hat, hhd⟩ : ∃ hd : Addr, atI [V.ref sm, V.ref pt] pv = some (.ref hd) ∧ Wd Hc hd ((gw l d).map (scF wd)) := by
      rcases (show pv = 0 ∨ pv = 1 by omega) with rfl | rfl
      · exact ⟨sm, rfl, .inr Ic.hs⟩
      · exact ⟨pt, rfl, .inl ((WT.same ha sb).sameB Ib.bx sbc)⟩
    refine ⟨py, [V.ref sm, V.ref pt], pv, _, rfl, rfl, SqL.of (sbc _ _ pne hyb), hat, ?_⟩
    try dsimp only [tNil]
    refine ⟨g, hd, scF wd, l, d, _, rfl, Ic.gr.p, hhd, bF, by omega, fun bk Hd fd' hbk sd => ?_⟩
    exact NX _ _ ⟨bk, rfl, hbk, (Ic.same sd).mono (by omega)⟩
  rintro _ H8 ⟨bk, rfl, hbk8, I8⟩
  have lbk : (back wd).length ≤ 600 := by rw [back_len]; omega
  have eqb := map_al ok (sc_back nw)
  rw [eqb] at hbk8
  refine st_split (t := tIfS _ _ _) (fun σ HH => σ = [some (.ref b), some (.int (l : Nat)), some (.int (d : Nat)), some (.ref g), some (.ref tw), some (.int n1), some (.int n2), some (.int D), some (.int few), some (.ref sm), some (.ref kp), v11, v12, v13, some (.ref bk), none, none, none, none, none] ∧ Same H8 HH) (fun nx NX => ?_) ?_
  · refine ⟨_, rfl, _, _, _, true, rfl, .lst hbk8, kit_ll, _, rfl, ?_⟩
    refine iteF ?_
    refine ⟨_, rfl, ?_⟩
    dsimp only [tNil]
    refine strI_rd hbk8 (pS _ lbk) (lm _) ⟨_, rfl, _, rfl, ?_⟩
    dsimp only [tNil]
    refine ⟨tw, wd, rfl, .inl I8.hw, by omega, fun bt Ha ha sa => ?_⟩
    refine ⟨g, bt, back wd, l, d, rfl, (I8.gr.same sa).p, .inl ha, by omega, fun r Hb fb hb2 sb => ?_⟩
    rw [scatW_map ok] at hb2
    refine strI_rd hb2 (pS _ lbk) (lm _) ⟨rfl, _, rfl, ?_⟩
    rw [decide_eq_true rfl]
    refine iteF ?_
    have I9 := I8.same (sa.trans sb)
    refine ⟨_, rfl, _, rfl, neL_rd I9.hs I9.hk ⟨_, rfl, ?_⟩⟩
    rw [decide_eq_true rfl]
    refine iteF ?_
    dsimp only [tNext]
    exact NX _ _ ⟨rfl, sa.trans sb⟩
  rintro _ H9 ⟨rfl, s89⟩
  have I9 := I8.same s89
  refine st_split (t := tPar _ _ _) (fun σ HH => ∃ (hd mo : Addr) (we : List Int), σ = [some (.ref b), some (.int (l : Nat)), some (.int (d : Nat)), some (.ref g), some (.ref tw), some (.int n1), some (.int n2), some (.int D), some (.int few), some (.ref sm), some (.ref kp), v11, v12, some (.ref hd), some (.ref bk), some (.ref mo), none, none, none, none] ∧ we.length ≤ 30 ∧ (∀ x ∈ we, x ≠ 0) ∧ WL HH hd ((gw l d).map (scF wd)) ∧ WL HH mo ((gw l d).map (scF we)) ∧ hd ≠ b ∧ mo ≠ hd ∧ sm ≠ hd ∧ kp ≠ hd ∧ H9 hd = none ∧ I20 C b sm kp g tw l d wd 5000 H HH) (fun nx NX => ?_) ?_
  · refine ⟨_, rfl, ?_⟩
    dsimp only [tNil]
    refine list_rd (.inr I9.hs) fun hd Ha fa ha sa => ?_
    have Ia := I9.same sa
    have nhb := I9.bx.ne fa
    refine ⟨_, rfl, _, rfl, _, rfl, ?_⟩
    dsimp only [tNil]
    refine ⟨b, (l : Int), 30, _, rfl, Ia.bx, by omega, by omega, by omega, by omega, by omega, fun w2 we Hb lw2 sw2 hw2' hbb sbb => ?_⟩
    have Ib := Ia.box sbb hbb
    refine ⟨g, w2, we, l, d, rfl, Ib.gr.p, .inl hw2', by omega, fun mo Hc fc hc sc => ?_⟩
    rw [scatW_map ok] at hc
    have hdb : WL Hb hd ((gw l d).map (scF wd)) := sbb _ _ nhb ha
    exact ⟨_, _, rfl, NX _ _ ⟨hd, mo, we, rfl, by omega, fun x hx => step_nz (sw2 x hx), sc _ _ hdb, hc, nhb, (fun e => by rw [e] at fc; rw [hdb] at fc; cases fc), ne_of_none I9.hs fa, ne_of_none I9.hk fa, fa, (Ib.same sc).mono (by omega)⟩⟩
  rintro _ H10 ⟨hd, mo, we, rfl, lwe, nwe, hh10, hm10, nhb, nmh, nsh, nkh, f9, I10⟩
  have sz98 : ∀ n : Int, n.natAbs ≤ 2 ^ 98 → Sz 200 n := fun n h => Nat.lt_of_le_of_lt h (by decide)
  have sn1 := sz98 n1 bn1
  have sn2 := sz98 n2 bn2
  refine st_split (t := tDrop _) (fun σ HH => σ = [some (.ref b), some (.int (l : Nat)), some (.int (d : Nat)), some (.ref g), some (.ref tw), some (.int n1), some (.int n2), some (.int D), some (.int few), some (.ref sm), some (.ref kp), v11, v12, some (.ref hd), some (.ref bk), some (.ref mo), none, none, none, none] ∧ Same H10 HH) (fun nx NX => ?_) ?_
  · refine ⟨_, rfl, _, rfl, ?_⟩
    dsimp only [tNil]
    refine ⟨g, hd, scF wd, l, d, _, rfl, I10.gr.p, .inr hh10, bF, by omega, fun r Ha fa ha sa => ?_⟩
    exact NX _ _ ⟨rfl, sa⟩
  rintro _ H11 ⟨rfl, s1011⟩
  have I11 := I10.same s1011
  refine st_split (t := tDrop _) (fun σ HH => σ = [some (.ref b), some (.int (l : Nat)), some (.int (d : Nat)), some (.ref g), some (.ref tw), some (.int n1), some (.int n2), some (.int D), some (.int few), some (.ref sm), some (.ref kp), v11, v12, some (.ref hd), some (.ref bk), some (.ref mo), none, none, none, none] ∧ Same H11 HH) (fun nx NX => ?_) ?_
  · refine ⟨_, rfl, _, rfl, _, rfl, ?_⟩
    dsimp only [tNil]
    refine ⟨g, hd, scF wd, n1, l, d, _, 200, rfl, I11.gr.p, .inr (s1011 _ _ hh10), bF, by omega, sn1, by omega, by omega, fun r Ha fa ha sa => ?_⟩
    exact NX _ _ ⟨rfl, sa⟩
  rintro _ H12 ⟨rfl, s1112⟩
  have I12 := I11.same s1112
  have hh12 := s1112 _ _ (s1011 _ _ hh10)
  have hm12 := s1112 _ _ (s1011 _ _ hm10)
  have n0 : H hd = none := by
    cases e : H hd with
    | none => rfl
    | some o => rw [I9.sb _ _ nhb e] at f9; cases f9
  refine st_split (t := tDrop _) (fun σ HH => σ = [some (.ref b), some (.int (l : Nat)), some (.int (d : Nat)), some (.ref g), some (.ref tw), some (.int n1), some (.int n2), some (.int D), some (.int few), some (.ref sm), some (.ref kp), v11, v12, some (.ref hd), some (.ref bk), some (.ref mo), none, none, none, none] ∧ HH hd = some (.lst []) ∧ SameB hd H12 HH) (fun nx NX => ?_) ?_
  · refine ⟨_, rfl, .inl ⟨rfl, _, SqL.of hh12⟩, hd, _, rfl, rfl, hh12, ?_⟩
    exact NX _ _ ⟨rfl, upd_same, fun c o n h => by rw [upd_ne n]; exact h⟩
  rintro _ H13 ⟨rfl, hh13, z13⟩
  have hm13 := z13 _ _ nmh hm12
  refine st_split (t := tDrop _) (fun σ HH => σ = [some (.ref b), some (.int (l : Nat)), some (.int (d : Nat)), some (.ref g), some (.ref tw), some (.int n1), some (.int n2), some (.int D), some (.int few), some (.ref sm), some (.ref kp), v11, v12, some (.ref hd), some (.ref bk), some (.ref mo), none, none, none, none] ∧ WL HH hd ((gw l d).map (scF we)) ∧ SameB hd H13 HH) (fun nx NX => ?_) ?_
  · refine ⟨_, rfl, .inl ⟨rfl, _, SqL.of hh13⟩, _, rfl, ?_⟩
    dsimp only [tNil]
    refine ⟨hd, mo, _, _, rfl, rfl, hh13, hm13, by rw [List.length_map]; exact Nat.le_trans (show 0 + _ ≤ 5000 by have := lm (scF we); omega) (by decide), ?_⟩
    exact NX _ _ ⟨rfl, upd_same, fun c o n h => by rw [upd_ne n]; exact h⟩
  rintro _ H14 ⟨rfl, hh14, z14⟩
  have z1214 := z13.trans z14
  have I14 : I20 C b sm kp g tw l d wd 5000 H H14 := I12.chg hh12 z1214 nsh nkh (fun e => nhb e.symm) (fun c o n h => z1214 _ _ (fun e => by rw [e, n0] at h; cases h) (I12.sb _ _ n h))
  have hm14 := z1214 _ _ nmh hm12
  have wbe : WB 1 (2 ^ 5) (scF we) := (WB.sc we).mono (Nat.le_refl 1) (by show we.length ≤ 32; omega)
  have bE := WB.bds1 ok wbe
  have e1 : scF we [] = 1 := scF_at_nil _
  have smE := Bds.smalls (pw_bdsS ok e1 wbe (show 3 ≤ 98 by decide) bn1) (by decide)
  refine st_split (t := tIfS _ _ _) (fun σ HH => σ = [some (.ref b), some (.int (l : Nat)), some (.int (d : Nat)), some (.ref g), some (.ref tw), some (.int n1), some (.int n2), some (.int D), some (.int few), some (.ref sm), some (.ref kp), v11, v12, some (.ref hd), some (.ref bk), some (.ref mo), none, none, none, none] ∧ Same H14 HH) (fun nx NX => ?_) ?_
  · refine ⟨_, rfl, _, rfl, _, rfl, ?_⟩
    dsimp only [tNil]
    refine ⟨g, hd, scF we, n1, l, d, _, 200, rfl, I14.gr.p, .inr hh14, bE, by omega, sn1, by omega, by omega, fun r Ha fa ha sa => ?_⟩
    refine strI_rd ha smE (lm _) ⟨_, rfl, _, rfl, ?_⟩
    dsimp only [tNil]
    refine tup_rd (.inr (sa _ _ hm14)) fun pt Hb hb2 sb => ?_
    refine ⟨_, rfl, ?_⟩
    try dsimp only [tNil]
    refine ⟨g, pt, scF we, n1, l, d, _, 200, rfl, (I14.gr.same (sa.trans sb)).p, .inl hb2, bE, by omega, sn1, by omega, by omega, fun r2 Hc fc hc sc => ?_⟩
    refine strI_rd hc smE (lm _) ⟨rfl, _, rfl, ?_⟩
    rw [decide_eq_true rfl]
    refine iteF ?_
    dsimp only [tNext]
    exact NX _ _ ⟨rfl, sa.trans (sb.trans sc)⟩
  rintro _ H15 ⟨rfl, s15⟩
  have I15 := I14.same s15
  have hh15 := s15 _ _ hh14
  have hm15 := s15 _ _ hm14
  have smB : Smalls ((gw l d).map (inv (scF we))) := by
    rw [map_al ok (sc_back nwe)]
    exact pS _ (by rw [back_len]; omega)
  refine st_split (t := tIfS _ _ _) (fun σ HH => σ = [some (.ref b), some (.int (l : Nat)), some (.int (d : Nat)), some (.ref g), some (.ref tw), some (.int n1), some (.int n2), some (.int D), some (.int few), some (.ref sm), some (.ref kp), v11, v12, some (.ref hd), some (.ref bk), some (.ref mo), none, none, none, none] ∧ Same H15 HH) (fun nx NX => ?_) ?_
  · refine ⟨_, rfl, _, rfl, ?_⟩
    dsimp only [tNil]
    refine ⟨g, hd, scF we, l, d, _, rfl, I15.gr.p, .inr hh15, bE, by omega, fun r Ha fa ha sa => ?_⟩
    refine strI_rd ha smB (lm _) ⟨_, rfl, _, rfl, ?_⟩
    dsimp only [tNil]
    refine tup_rd (.inr (sa _ _ hm15)) fun pt Hb hb2 sb => ?_
    try dsimp only [tNil]
    refine ⟨g, pt, scF we, l, d, _, rfl, (I15.gr.same (sa.trans sb)).p, .inl hb2, bE, by omega, fun r2 Hc fc hc sc => ?_⟩
    refine strI_rd hc smB (lm _) ⟨rfl, _, rfl, ?_⟩
    rw [decide_eq_true rfl]
    refine iteF ?_
    dsimp only [tNext]
    exact NX _ _ ⟨rfl, sa.trans (sb.trans sc)⟩
  rintro _ H16 ⟨rfl, s16⟩
  have I16 := I15.same s16
  have b1 := pw_bdsS ok f1 wbf (show 3 ≤ 98 by decide) bn1
  have b2 := pw_bdsS ok f1 wbf (show 3 ≤ 98 by decide) bn2
  have ba : (n1 + n2).natAbs ≤ 2 ^ 99 := by have := Int.natAbs_add_le n1 n2; omega
  have bm : (n1 * n2).natAbs ≤ 2 ^ 196 := by
    rw [Int.natAbs_mul]
    exact Nat.le_trans (Nat.mul_le_mul bn1 bn2) (by decide)
  have bng : (-n1).natAbs ≤ 2 ^ 98 := by rw [Int.natAbs_neg]; exact bn1
  have sma := Bds.smalls (pw_bdsS ok f1 wbf (show 3 ≤ 99 by decide) ba) (by decide)
  have smm := Bds.smalls (pw_bdsS ok f1 wbf (show 3 ≤ 196 by decide) bm) (by decide)
  have smn := Bds.smalls (pw_bdsS ok f1 wbf (show 3 ≤ 98 by decide) bng) (by decide)
  have sza : Sz 200 (n1 + n2) := Nat.lt_of_le_of_lt ba (by decide)
  have szm : Sz 200 (n1 * n2) := Nat.lt_of_le_of_lt bm (by decide)
  refine st_split (t := tPar _ _ _) (fun σ HH => ∃ (on ot : Addr), σ = [some (.ref b), some (.int (l : Nat)), some (.int (d : Nat)), some (.ref g), some (.ref tw), some (.int n1), some (.int n2), some (.int D), some (.int few), some (.ref sm), some (.ref kp), v11, v12, some (.ref hd), some (.ref bk), some (.ref mo), some (.ref on), some (.ref ot), none, none] ∧ WL HH on ((gw l d).map (pw7 (scF wd) n1)) ∧ WL HH ot ((gw l d).map (pw7 (scF wd) n2)) ∧ Same H16 HH) (fun nx NX => ?_) ?_
  · refine ⟨_, rfl, _, rfl, _, rfl, ?_⟩
    dsimp only [tNil]
    refine ⟨g, sm, scF wd, n1, l, d, _, 200, rfl, I16.gr.p, .inr I16.hs, bF, by omega, sn1, by omega, by omega, fun on Ha fa ha sa => ?_⟩
    have Ia := I16.same sa
    refine ⟨_, rfl, _, rfl, _, rfl, ?_⟩
    dsimp only [tNil]
    refine ⟨g, sm, scF wd, n2, l, d, _, 200, rfl, Ia.gr.p, .inr Ia.hs, bF, by omega, sn2, by omega, by omega, fun ot Hb fb hb2 sb => ?_⟩
    exact ⟨_, _, rfl, NX _ _ ⟨on, ot, rfl, sb _ _ ha, hb2, sa.trans sb⟩⟩
  rintro _ H17 ⟨on, ot, rfl, ho17, ht17, s17⟩
  have I17 := I16.same s17
  refine st_split (t := tPar _ _ _) (fun σ HH => ∃ (bo by_ : Addr), σ = [some (.ref b), some (.int (l : Nat)), some (.int (d : Nat)), some (.ref g), some (.ref tw), some (.int n1), some (.int n2), some (.int D), some (.int few), some (.ref sm), some (.ref kp), v11, v12, some (.ref hd), some (.ref bk), some (.ref mo), some (.ref on), some (.ref ot), some (.ref bo), some (.ref by_)] ∧ WL HH bo ((gw l d).map (pw7 (scF wd) (n1 + n2))) ∧ WL HH by_ ((gw l d).map (pw7 (scF wd) (n1 * n2))) ∧ Same H17 HH) (fun nx NX => ?_) ?_
  · refine ⟨_, rfl, _, rfl, _, rfl, _, rfl, _, _, rfl, rfl, ?_⟩
    dsimp only [tNil]
    refine ⟨g, sm, scF wd, n1 + n2, l, d, _, 200, rfl, I17.gr.p, .inr I17.hs, bF, by omega, sza, by omega, by omega, fun on2 Ha fa ha sa => ?_⟩
    have Ia := I17.same sa
    refine ⟨_, rfl, _, rfl, _, rfl, _, rfl, _, _, rfl, rfl, ⟨200, 200, by omega, by omega, sn1.bd, sn2.bd⟩, ?_⟩
    dsimp only [tNil]
    refine ⟨g, sm, scF wd, n1 * n2, l, d, _, 200, rfl, Ia.gr.p, .inr Ia.hs, bF, by omega, szm, by omega, by omega, fun ot2 Hb fb hb2 sb => ?_⟩
    exact ⟨_, _, rfl, NX _ _ ⟨on2, ot2, rfl, sb _ _ ha, hb2, sa.trans sb⟩⟩
  rintro _ H18 ⟨bo, by_, rfl, hbo, hby, s18⟩
  have I18 := I17.same s18
  have ho18 := s18 _ _ ho17
  have ht18 := s18 _ _ ht17
  have lpw : ∀ f : Ser, ((gw l d).map f).length = (gw l d).length := fun f => List.length_map _
  refine st_split (t := tIfS _ _ _) (fun σ HH => σ = [some (.ref b), some (.int (l : Nat)), some (.int (d : Nat)), some (.ref g), some (.ref tw), some (.int n1), some (.int n2), some (.int D), some (.int few), some (.ref sm), some (.ref kp), v11, v12, some (.ref hd), some (.ref bk), some (.ref mo), some (.ref on), some (.ref ot), some (.ref bo), some (.ref by_)] ∧ Same H18 HH) (fun nx NX => ?_) ?_
  · refine ⟨_, rfl, _, rfl, _, rfl, ?_⟩
    dsimp only [tNil]
    refine ⟨g, on, ot, _, _, l, d, _, _, rfl, I18.gr.p, .inr ho18, .inr ht18, lpw _, lpw _, b1, b2, by omega, by omega, fun r Ha fa ha sa => ?_⟩
    rw [joinW_map (gw_cl ok), ← map_al ok (pw7_add (scF wd) f1 n1 n2)] at ha
    refine strI_rd ha sma (lm _) ⟨_, rfl, ?_⟩
    dsimp only [tNil]
    refine strI_rd (sa _ _ hbo) sma (lm _) ⟨rfl, _, rfl, ?_⟩
    rw [decide_eq_true rfl]
    refine iteF ?_
    have Ia := I18.same sa
    refine ⟨_, rfl, _, rfl, _, rfl, ?_⟩
    dsimp only [tNil]
    refine ⟨g, on, pw7 (scF wd) n1, n2, l, d, _, 200, rfl, Ia.gr.p, .inr (sa _ _ ho18), b1, by omega, sn2, by omega, by omega, fun r2 Hb fb hb2 sb => ?_⟩
    rw [map_al ok (pw7_mul (scF wd) f1 n1 n2)] at hb2
    refine strI_rd hb2 smm (lm _) ⟨_, rfl, ?_⟩
    dsimp only [tNil]
    refine strI_rd ((sa.trans sb) _ _ hby) smm (lm _) ⟨rfl, _, rfl, ?_⟩
    rw [decide_eq_true rfl]
    refine iteF ?_
    dsimp only [tNext]
    exact NX _ _ ⟨rfl, sa.trans sb⟩
  rintro _ H19 ⟨rfl, s19⟩
  have I19 := I18.same s19
  have ei : Al (inv (pw7 (scF wd) n1)) (pw7 (scF wd) (-n1)) := by
    have := pw7_mul (scF wd) f1 n1 (-1)
    rw [Int.mul_neg_one] at this
    exact this
  refine st_split (t := tIfS _ _ _) (fun σ HH => σ = [some (.ref b), some (.int (l : Nat)), some (.int (d : Nat)), some (.ref g), some (.ref tw), some (.int n1), some (.int n2), some (.int D), some (.int few), some (.ref sm), some (.ref kp), v11, v12, some (.ref hd), some (.ref bk), some (.ref mo), some (.ref on), some (.ref ot), some (.ref bo), some (.ref by_)] ∧ Same H19 HH) (fun nx NX => ?_) ?_
  · refine ⟨_, rfl, _, rfl, ?_⟩
    dsimp only [tNil]
    refine ⟨g, on, pw7 (scF wd) n1, l, d, _, rfl, I19.gr.p, .inr (s19 _ _ ho18), b1, by omega, fun r Ha fa ha sa => ?_⟩
    rw [map_al ok ei] at ha
    refine strI_rd ha smn (lm _) ⟨_, rfl, _, rfl, _, rfl, _, rfl, ?_⟩
    dsimp only [tNil]
    have Ia := I19.same sa
    refine ⟨g, sm, scF wd, -n1, l, d, _, 200, rfl, Ia.gr.p, .inr Ia.hs, bF, by omega, sz98 _ bng, by omega, by omega, fun r2 Hb fb hb2 sb => ?_⟩
    refine strI_rd hb2 smn (lm _) ⟨rfl, _, rfl, ?_⟩
    rw [decide_eq_true rfl]
    refine iteF ?_
    have Ib := Ia.same sb
    refine ⟨_, rfl, _, rfl, neL_rd Ib.hs Ib.hk ⟨_, rfl, ?_⟩⟩
    rw [decide_eq_true rfl]
    refine iteF ?_
    dsimp only [tNext]
    exact NX _ _ ⟨rfl, sa.trans sb⟩
  rintro _ H20 ⟨rfl, s20⟩
  have I20' := I19.same s20
  obtain ⟨dxw, fsw, hgw, hlw⟩ := I20'.gr.at_ "words"
  refine ⟨_, rfl, _, rfl, g, dxw, fsw, rfl, hgw, hlw, g, l, d, rfl, I20'.gr.p, fun ws Ha fa ha sa => ?_⟩
  have Ia := I20'.same sa
  have nwb := I20'.bx.ne fa
  refine ⟨_, rfl, _, rfl, ?_⟩
  dsimp only [tNil]
  refine ⟨b, (l : Int), _, rfl, Ia.bx, by omega, by omega, by omega, fun v Hb v0 v1 hbb sbb => ⟨_, _, rfl, rfl, ?_⟩⟩
  have Ib := Ia.box sbb hbb
  refine ⟨_, rfl, b, _, rfl, Ib.bx, by omega, fun nn Hc zn hbc sbc => ?_⟩
  dsimp only [tNil]
  have Ic := Ib.box sbc hbc
  have haw : Ws Hc ws (gw l d) := by
    obtain ⟨ps, hps, hws⟩ := ha
    exact ⟨ps, sbc _ _ nwb (sbb _ _ nwb hps), (hws.sameB Ia.bx sbb).sameB Ib.bx sbc⟩
  exact ⟨g, ws, 1 + v, nn, l, d, rfl, Ic.gr, haw, by omega, by omega, zn, fun Hd sd => q Hd (Ic.sb.same sd)⟩
abbrev s_law : Stmt := top 43
theorem sc_law : FnScope ["_law_script", "_law_cells", "_law_k"] ["_law_script"] (defScope s_law) := ⟨rfl, rfl, rfl, by decide +kernel, rfl, by decide +kernel, by decide +kernel⟩
theorem ok_law {f : Addr} {fd : FuncData} (F : Fun K "law" "law" s_law f fd) (T : Txt mg)  (C_law_folded : Cal P w K mg base "_law_folded" ["_law_script", "_law_size"] 1 (spFolded K)) (C_law_box : Cal P w K mg base "_law_box" ["_law_script", "_law_k"] 1 (spBox K)) (C_law_right : Cal P w K mg base "_law_right" ["_law_box_here"] 12 spRight20) : FnOk P w K mg base CX0 13 f fd ["_law_script"] (spLaw K) := by
  refine F.ok sc_law (fun vs H Q E h => ?_) (fun cdv A outer s H vs Q E hr h => ?_)
  · obtain ⟨a, ns, rfl, _⟩ := h
    rfl
  obtain ⟨a, ns, rfl, hS, hn, q⟩ := h
  refine ⟨_, (pss_cons (ps_set (i := 1) sc_law.nd rfl (Or.inr rfl) (C_law_folded.pe (hr.mono (by decide)) (by rfl) (pa_cons (pv 0) (pa_cons pe_int pa_nil))))
      (pss_one (ps_ret (pe_callB (r := rAll K) (id := "all") (cr_all rfl) (by rfl) T.b_all (by decide +kernel) (pa_cons (pe_lc (own := [("_law_k", 2)]) (by rfl) sc_law.nd (pi_range1 (by rfl) T.b_range (pa_cons (pe_callB (call_max2 rfl) (by rfl) T.b_max (by decide +kernel) (pa_cons pe_int (pa_cons (pe_callB (r := rLen K) (id := "len") c_len (by rfl) T.b_len (by decide +kernel) (pa_cons (pv 1) pa_nil)) pa_nil))) pa_nil)) (blkOk_by (own := [("_law_k", 2)]) (N := ["_law_script", "_law_cells", "_law_k"]) (sc := defScope s_law) (by decide +kernel)) (fun _ _ _ _ _ => (pg_name (i := 2) sc_law.nd rfl (Or.inl rfl))) (fun _ _ _ _ _ => pts_nil) (fun _ _ _ _ _ => (C_law_right.pe (hr.mono (by decide)) (by rfl) (pa_cons (C_law_box.pe (hr.mono (by decide)) (by rfl) (pa_cons (pv 1) (pa_cons (pv 2) pa_nil))) pa_nil)))) pa_nil))))), ?_⟩
  refine ⟨_, rfl, a, ns, _, rfl, hS, hn, by decide, by decide, fun r ms H1 hm hr1 hs1 => ?_⟩
  have e0 : (ms.map V.int).length = ms.length := List.length_map _
  refine ⟨_, rfl, r, _, rfl, .inl (SqL.of hr1), _, _, rfl, _, rfl, (by show -(2 ^ 62) ≤ if (((ms.map V.int).length : Nat) : Int) > 1 then (((ms.map V.int).length : Nat) : Int) else 1; split <;> omega), (by show (if (((ms.map V.int).length : Nat) : Int) > 1 then (((ms.map V.int).length : Nat) : Int) else 1) < 2 ^ 62; rw [e0]; split <;> omega), fun D hD => ?_⟩
  have hN : (if (((ms.map V.int).length : Nat) : Int) > 1 then (((ms.map V.int).length : Nat) : Int) else 1).toNat ≤ 63 := by rw [e0]; split <;> omega
  generalize (if (((ms.map V.int).length : Nat) : Int) > 1 then (((ms.map V.int).length : Nat) : Int) else 1) = N at hN
  refine lc_range (lo := 0) (n := N.toNat) (fun i H2 => i ≤ 63 ∧ H2 r = some (.lst (ms.map V.int)) ∧ H2 D = some (.lst ((List.replicate i true).map V.bl))) ⟨by omega, same_new hD _ _ _ hr1, upd_same⟩ ?_ ?_
  · rintro i H2 hi ⟨_, hr2, hD2⟩
    refine ⟨rfl, ?_⟩
    refine ⟨_, rfl, _, rfl, r, ms, _, rfl, SqL.of hr2, by omega, by omega, fun b H3 nb hb hs => ?_⟩
    dsimp only [tNil]
    have nr : r ≠ b := ne_of_none hr2 nb
    have nD : D ≠ b := ne_of_none hD2 nb
    refine ⟨b, 0, rfl, hb, by omega, fun H4 hs4 => ?_⟩
    have hD4 := hs4 _ _ nD (hs _ _ hD2)
    refine ⟨_, hD4, by rw [List.length_map, List.length_replicate]; exact Nat.lt_of_le_of_lt (show i ≤ 63 by omega) (by decide), by omega, ?_, ?_⟩
    · rw [upd_ne (ne_of_none hr1 hD)]; exact hs4 _ _ nr (hs _ _ hr2)
    · rw [upd_same, List.replicate_succ', List.map_append]; rfl
  · rintro H2 ⟨_, hr2, hD2⟩
    refine ⟨D, _, rfl, SqL.of hD2, ?_⟩
    have e1 : ((List.replicate N.toNat true).all id) = true := by rw [List.all_replicate]; simp
    rw [e1]
    exact q H2
end
theorem all_mk {l : PySem.W.OpenLaw} {w : World} {K : PySem.W.Frag} {h : Heap} {mg : Str → Option Value} {fa f0 f1 f2 f3 f4 f5 f6 f7 f8 f9 f10 f11 f12 f13 f14 f15 f16 f17 f18 f19 f20 f21 f22 f23 f24 f25 f26 f27 f28 f29 f30 f31 f32 f33 f34 f35 f36 f37 f38 f39 C aD : Addr} (X : K.In h) (G : h.Ns mainGlobals mg) (hfa : mg "law" = some (.ref fa))
    {od0 an0 od1 an1 od2 an2 od3 an3 od4 an4 od5 an5 od6 an6 od7 an7 od8 an8 od9 an9 od10 an10 od11 an11 od12 an12 od13 an13 od14 an14 od15 an15 od16 an16 od17 an17 od18 an18 od19 an19 od20 an20 od21 an21 od22 an22 od23 an23 od24 an24 od25 an25 od26 an26 od27 an27 od28 an28 od29 an29 od30 an30 od31 an31 od32 an32 od33 an33 od34 an34 od35 an35 od36 an36 od37 an37 od38 an38 od39 an39 : Option Addr} {sl0 sl1 sl2 sl3 sl4 sl5 sl6 sl7 sl8 sl9 sl10 sl11 sl12 sl13 sl14 sl15 sl16 sl17 sl18 sl19 sl20 sl21 sl22 sl23 sl24 sl25 sl26 sl27 sl28 sl29 sl30 sl31 sl32 sl33 sl34 sl35 sl36 sl37 sl38 sl39 : Array (Option Value)} {oc0 kV0 dc0 pm0 cd0 ct0 oc1 kV1 dc1 pm1 cd1 ct1 oc2 kV2 dc2 pm2 cd2 ct2 oc3 kV3 dc3 pm3 cd3 ct3 oc4 kV4 dc4 pm4 cd4 ct4 oc5 kV5 dc5 pm5 cd5 ct5 oc6 kV6 dc6 pm6 cd6 ct6 oc7 kV7 dc7 pm7 cd7 ct7 oc8 kV8 dc8 pm8 cd8 ct8 oc9 kV9 dc9 pm9 cd9 ct9 oc10 kV10 dc10 pm10 cd10 ct10 oc11 kV11 dc11 pm11 cd11 ct11 oc12 kV12 dc12 pm12 cd12 ct12 oc13 kV13 dc13 pm13 cd13 ct13 oc14 kV14 dc14 pm14 cd14 ct14 oc15 kV15 dc15 pm15 cd15 ct15 oc16 kV16 dc16 pm16 cd16 ct16 oc17 kV17 dc17 pm17 cd17 ct17 oc18 kV18 dc18 pm18 cd18 ct18 oc19 kV19 dc19 pm19 cd19 ct19 oc20 kV20 dc20 pm20 cd20 ct20 oc21 kV21 dc21 pm21 cd21 ct21 oc22 kV22 dc22 pm22 cd22 ct22 oc23 kV23 dc23 pm23 cd23 ct23 oc24 kV24 dc24 pm24 cd24 ct24 oc25 kV25 dc25 pm25 cd25 ct25 oc26 kV26 dc26 pm26 cd26 ct26 oc27 kV27 dc27 pm27 cd27 ct27 oc28 kV28 dc28 pm28 cd28 ct28 oc29 kV29 dc29 pm29 cd29 ct29 oc30 kV30 dc30 pm30 cd30 ct30 oc31 kV31 dc31 pm31 cd31 ct31 oc32 kV32 dc32 pm32 cd32 ct32 oc33 kV33 dc33 pm33 cd33 ct33 oc34 kV34 dc34 pm34 cd34 ct34 oc35 kV35 dc35 pm35 cd35 ct35 oc36 kV36 dc36 pm36 cd36 ct36 oc37 kV37 dc37 pm37 cd37 ct37 oc38 kV38 dc38 pm38 cd38 ct38 oc39 kV39 dc39 pm39 cd39 ct39 : Value}
    {odD : Option Addr} {slD : Array (Option Value)} {ocD : Value} {itD : Array Value} {nD : Nat}
    (aC : PySem.W.nsIn K mainGlobals "Ground" = some (some (.ref C))) (pg : PySem.W.plainGet K C Str.empty = true) (hd : PySem.W.hasDictIn K C = true) (po : PySem.W.plainOver K C = true) (sa : PySem.W.findIn K (.ref C) "__setattr__" = some (some (.builtin "object.__setattr__"))) (mk : PySem.W.makesIn K C = true) (kc : PySem.W.keepIn K (.ref C) = true)
    (nf0 : PySem.W.findIn K (.ref C) "letter_count" = some none)
    (nf1 : PySem.W.findIn K (.ref C) "deepest" = some none)
    (nf2 : PySem.W.findIn K (.ref C) "plain" = some none)
    (nf3 : PySem.W.findIn K (.ref C) "turned" = some none)
    (nf4 : PySem.W.findIn K (.ref C) "numbered" = some none)
    (nf5 : PySem.W.findIn K (.ref C) "parted" = some none)
    (nf6 : PySem.W.findIn K (.ref C) "ended" = some none)
    (nf7 : PySem.W.findIn K (.ref C) "standing" = some none)
    (nf8 : PySem.W.findIn K (.ref C) "powered" = some none)
    (aDD : PySem.W.nsIn K mainGlobals "DEEPEST" = some (some (.ref aD))) (lD : K.lookup aD = some ⟨ocD, odD, .seq itD nD, slD⟩) (tD : ocD = .type "tuple") (zD : itD.size ≤ sizeLine) (vD : Vals [.int 0, .int 5, .int 5, .int 4, .int 3] itD.toList)
    (eX_set : PySem.W.nsIn K mainGlobals "set" = some none)
    (a0 : PySem.W.nsIn K mainGlobals "plain_words" = some (some (.ref f0))) (l0 : K.lookup f0 = some ⟨oc0, od0, .func (PySem.W.fnOf "plain_words" "plain_words" (defArgs s_plain_words) (defBody s_plain_words) (defScope s_plain_words) .none kV0 dc0 pm0 an0 cd0 ct0), sl0⟩) (c0 : PySem.W.codeIn K cd0 "plain_words" = true) (k0 : PySem.W.keepIn K (.ref f0) = true)
    (a1 : PySem.W.nsIn K mainGlobals "words_up_to" = some (some (.ref f1))) (l1 : K.lookup f1 = some ⟨oc1, od1, .func (PySem.W.fnOf "words_up_to" "words_up_to" (defArgs s_words_up_to) (defBody s_words_up_to) (defScope s_words_up_to) .none kV1 dc1 pm1 an1 cd1 ct1), sl1⟩) (c1 : PySem.W.codeIn K cd1 "words_up_to" = true) (k1 : PySem.W.keepIn K (.ref f1) = true)
    (a2 : PySem.W.nsIn K mainGlobals "joined" = some (some (.ref f2))) (l2 : K.lookup f2 = some ⟨oc2, od2, .func (PySem.W.fnOf "joined" "joined" (defArgs s_joined) (defBody s_joined) (defScope s_joined) .none kV2 dc2 pm2 an2 cd2 ct2), sl2⟩) (c2 : PySem.W.codeIn K cd2 "joined" = true) (k2 : PySem.W.keepIn K (.ref f2) = true)
    (a3 : PySem.W.nsIn K mainGlobals "turns" = some (some (.ref f3))) (l3 : K.lookup f3 = some ⟨oc3, od3, .func (PySem.W.fnOf "turns" "turns" (defArgs s_turns) (defBody s_turns) (defScope s_turns) .none kV3 dc3 pm3 an3 cd3 ct3), sl3⟩) (c3 : PySem.W.codeIn K cd3 "turns" = true) (k3 : PySem.W.keepIn K (.ref f3) = true)
    (a4 : PySem.W.nsIn K mainGlobals "is_turnword" = some (some (.ref f4))) (l4 : K.lookup f4 = some ⟨oc4, od4, .func (PySem.W.fnOf "is_turnword" "is_turnword" (defArgs s_is_turnword) (defBody s_is_turnword) (defScope s_is_turnword) .none kV4 dc4 pm4 an4 cd4 ct4), sl4⟩) (c4 : PySem.W.codeIn K cd4 "is_turnword" = true) (k4 : PySem.W.keepIn K (.ref f4) = true)
    (a5 : PySem.W.nsIn K mainGlobals "all_partings" = some (some (.ref f5))) (l5 : K.lookup f5 = some ⟨oc5, od5, .func (PySem.W.fnOf "all_partings" "all_partings" (defArgs s_all_partings) (defBody s_all_partings) (defScope s_all_partings) .none kV5 dc5 pm5 an5 cd5 ct5), sl5⟩) (c5 : PySem.W.codeIn K cd5 "all_partings" = true) (k5 : PySem.W.keepIn K (.ref f5) = true)
    (a6 : PySem.W.nsIn K mainGlobals "all_endings" = some (some (.ref f6))) (l6 : K.lookup f6 = some ⟨oc6, od6, .func (PySem.W.fnOf "all_endings" "all_endings" (defArgs s_all_endings) (defBody s_all_endings) (defScope s_all_endings) .none kV6 dc6 pm6 an6 cd6 ct6), sl6⟩) (c6 : PySem.W.codeIn K cd6 "all_endings" = true) (k6 : PySem.W.keepIn K (.ref f6) = true)
    (a7 : PySem.W.nsIn K mainGlobals "backed" = some (some (.ref f7))) (l7 : K.lookup f7 = some ⟨oc7, od7, .func (PySem.W.fnOf "backed" "backed" (defArgs s_backed) (defBody s_backed) (defScope s_backed) .none kV7 dc7 pm7 an7 cd7 ct7), sl7⟩) (c7 : PySem.W.codeIn K cd7 "backed" = true) (k7 : PySem.W.keepIn K (.ref f7) = true)
    (a8 : PySem.W.nsIn K mainGlobals "bracketed" = some (some (.ref f8))) (l8 : K.lookup f8 = some ⟨oc8, od8, .func (PySem.W.fnOf "bracketed" "bracketed" (defArgs s_bracketed) (defBody s_bracketed) (defScope s_bracketed) .none kV8 dc8 pm8 an8 cd8 ct8), sl8⟩) (c8 : PySem.W.codeIn K cd8 "bracketed" = true) (k8 : PySem.W.keepIn K (.ref f8) = true)
    (a9 : PySem.W.nsIn K mainGlobals "cut" = some (some (.ref f9))) (l9 : K.lookup f9 = some ⟨oc9, od9, .func (PySem.W.fnOf "cut" "cut" (defArgs s_cut) (defBody s_cut) (defScope s_cut) .none kV9 dc9 pm9 an9 cd9 ct9), sl9⟩) (c9 : PySem.W.codeIn K cd9 "cut" = true) (k9 : PySem.W.keepIn K (.ref f9) = true)
    (a10 : PySem.W.nsIn K mainGlobals "halves" = some (some (.ref f10))) (l10 : K.lookup f10 = some ⟨oc10, od10, .func (PySem.W.fnOf "halves" "halves" (defArgs s_halves) (defBody s_halves) (defScope s_halves) .none kV10 dc10 pm10 an10 cd10 ct10), sl10⟩) (c10 : PySem.W.codeIn K cd10 "halves" = true) (k10 : PySem.W.keepIn K (.ref f10) = true)
    (a11 : PySem.W.findIn K (.ref C) "size_at" = some (some (.ref f11))) (i11 : PySem.W.isFn K (.ref f11) = true) (l11 : K.lookup f11 = some ⟨oc11, od11, .func (PySem.W.fnOf "size_at" "Ground.size_at" (defArgs s_Ground_size_at) (defBody s_Ground_size_at) (defScope s_Ground_size_at) .none kV11 dc11 pm11 an11 cd11 ct11), sl11⟩) (c11 : PySem.W.codeIn K cd11 "Ground.size_at" = true) (k11 : PySem.W.keepIn K (.ref f11) = true)
    (a12 : PySem.W.findIn K (.ref C) "place_of" = some (some (.ref f12))) (i12 : PySem.W.isFn K (.ref f12) = true) (l12 : K.lookup f12 = some ⟨oc12, od12, .func (PySem.W.fnOf "place_of" "Ground.place_of" (defArgs s_Ground_place_of) (defBody s_Ground_place_of) (defScope s_Ground_place_of) .none kV12 dc12 pm12 an12 cd12 ct12), sl12⟩) (c12 : PySem.W.codeIn K cd12 "Ground.place_of" = true) (k12 : PySem.W.keepIn K (.ref f12) = true)
    (a13 : PySem.W.findIn K (.ref C) "parts_at" = some (some (.ref f13))) (i13 : PySem.W.isFn K (.ref f13) = true) (l13 : K.lookup f13 = some ⟨oc13, od13, .func (PySem.W.fnOf "parts_at" "Ground.parts_at" (defArgs s_Ground_parts_at) (defBody s_Ground_parts_at) (defScope s_Ground_parts_at) .none kV13 dc13 pm13 an13 cd13 ct13), sl13⟩) (c13 : PySem.W.codeIn K cd13 "Ground.parts_at" = true) (k13 : PySem.W.keepIn K (.ref f13) = true)
    (a14 : PySem.W.findIn K (.ref C) "bracket_at" = some (some (.ref f14))) (i14 : PySem.W.isFn K (.ref f14) = true) (l14 : K.lookup f14 = some ⟨oc14, od14, .func (PySem.W.fnOf "bracket_at" "Ground.bracket_at" (defArgs s_Ground_bracket_at) (defBody s_Ground_bracket_at) (defScope s_Ground_bracket_at) .none kV14 dc14 pm14 an14 cd14 ct14), sl14⟩) (c14 : PySem.W.codeIn K cd14 "Ground.bracket_at" = true) (k14 : PySem.W.keepIn K (.ref f14) = true)
    (a15 : PySem.W.findIn K (.ref C) "partings" = some (some (.ref f15))) (i15 : PySem.W.isFn K (.ref f15) = true) (l15 : K.lookup f15 = some ⟨oc15, od15, .func (PySem.W.fnOf "partings" "Ground.partings" (defArgs s_Ground_partings) (defBody s_Ground_partings) (defScope s_Ground_partings) .none kV15 dc15 pm15 an15 cd15 ct15), sl15⟩) (c15 : PySem.W.codeIn K cd15 "Ground.partings" = true) (k15 : PySem.W.keepIn K (.ref f15) = true)
    (a16 : PySem.W.findIn K (.ref C) "endings" = some (some (.ref f16))) (i16 : PySem.W.isFn K (.ref f16) = true) (l16 : K.lookup f16 = some ⟨oc16, od16, .func (PySem.W.fnOf "endings" "Ground.endings" (defArgs s_Ground_endings) (defBody s_Ground_endings) (defScope s_Ground_endings) .none kV16 dc16 pm16 an16 cd16 ct16), sl16⟩) (c16 : PySem.W.codeIn K cd16 "Ground.endings" = true) (k16 : PySem.W.keepIn K (.ref f16) = true)
    (a17 : PySem.W.nsIn K mainGlobals "empty_sums" = some (some (.ref f17))) (l17 : K.lookup f17 = some ⟨oc17, od17, .func (PySem.W.fnOf "empty_sums" "empty_sums" (defArgs s_empty_sums) (defBody s_empty_sums) (defScope s_empty_sums) .none kV17 dc17 pm17 an17 cd17 ct17), sl17⟩) (c17 : PySem.W.codeIn K cd17 "empty_sums" = true) (k17 : PySem.W.keepIn K (.ref f17) = true)
    (a18 : PySem.W.nsIn K mainGlobals "scattered" = some (some (.ref f18))) (l18 : K.lookup f18 = some ⟨oc18, od18, .func (PySem.W.fnOf "scattered" "scattered" (defArgs s_scattered) (defBody s_scattered) (defScope s_scattered) .none kV18 dc18 pm18 an18 cd18 ct18), sl18⟩) (c18 : PySem.W.codeIn K cd18 "scattered" = true) (k18 : PySem.W.keepIn K (.ref f18) = true)
    (a19 : PySem.W.nsIn K mainGlobals "sums_joined" = some (some (.ref f19))) (l19 : K.lookup f19 = some ⟨oc19, od19, .func (PySem.W.fnOf "sums_joined" "sums_joined" (defArgs s_sums_joined) (defBody s_sums_joined) (defScope s_sums_joined) .none kV19 dc19 pm19 an19 cd19 ct19), sl19⟩) (c19 : PySem.W.codeIn K cd19 "sums_joined" = true) (k19 : PySem.W.keepIn K (.ref f19) = true)
    (a20 : PySem.W.nsIn K mainGlobals "rest_powers" = some (some (.ref f20))) (l20 : K.lookup f20 = some ⟨oc20, od20, .func (PySem.W.fnOf "rest_powers" "rest_powers" (defArgs s_rest_powers) (defBody s_rest_powers) (defScope s_rest_powers) .none kV20 dc20 pm20 an20 cd20 ct20), sl20⟩) (c20 : PySem.W.codeIn K cd20 "rest_powers" = true) (k20 : PySem.W.keepIn K (.ref f20) = true)
    (a21 : PySem.W.nsIn K mainGlobals "all_powers" = some (some (.ref f21))) (l21 : K.lookup f21 = some ⟨oc21, od21, .func (PySem.W.fnOf "all_powers" "all_powers" (defArgs s_all_powers) (defBody s_all_powers) (defScope s_all_powers) .none kV21 dc21 pm21 an21 cd21 ct21), sl21⟩) (c21 : PySem.W.codeIn K cd21 "all_powers" = true) (k21 : PySem.W.keepIn K (.ref f21) = true)
    (a22 : PySem.W.findIn K (.ref C) "__init__" = some (some (.ref f22))) (i22 : PySem.W.isFn K (.ref f22) = true) (l22 : K.lookup f22 = some ⟨oc22, od22, .func (PySem.W.fnOf "__init__" "Ground.__init__" (defArgs s_Ground_init) (defBody s_Ground_init) (defScope s_Ground_init) .none kV22 dc22 pm22 an22 cd22 ct22), sl22⟩) (c22 : PySem.W.codeIn K cd22 "Ground.__init__" = true) (k22 : PySem.W.keepIn K (.ref f22) = true)
    (a23 : PySem.W.findIn K (.ref C) "words" = some (some (.ref f23))) (i23 : PySem.W.isFn K (.ref f23) = true) (l23 : K.lookup f23 = some ⟨oc23, od23, .func (PySem.W.fnOf "words" "Ground.words" (defArgs s_Ground_words) (defBody s_Ground_words) (defScope s_Ground_words) .none kV23 dc23 pm23 an23 cd23 ct23), sl23⟩) (c23 : PySem.W.codeIn K cd23 "Ground.words" = true) (k23 : PySem.W.keepIn K (.ref f23) = true)
    (a24 : PySem.W.findIn K (.ref C) "bracket_powers" = some (some (.ref f24))) (i24 : PySem.W.isFn K (.ref f24) = true) (l24 : K.lookup f24 = some ⟨oc24, od24, .func (PySem.W.fnOf "bracket_powers" "Ground.bracket_powers" (defArgs s_Ground_bracket_powers) (defBody s_Ground_bracket_powers) (defScope s_Ground_bracket_powers) .none kV24 dc24 pm24 an24 cd24 ct24), sl24⟩) (c24 : PySem.W.codeIn K cd24 "Ground.bracket_powers" = true) (k24 : PySem.W.keepIn K (.ref f24) = true)
    (a25 : PySem.W.nsIn K mainGlobals "repeated" = some (some (.ref f25))) (l25 : K.lookup f25 = some ⟨oc25, od25, .func (PySem.W.fnOf "repeated" "repeated" (defArgs s_repeated) (defBody s_repeated) (defScope s_repeated) .none kV25 dc25 pm25 an25 cd25 ct25), sl25⟩) (c25 : PySem.W.codeIn K cd25 "repeated" = true) (k25 : PySem.W.keepIn K (.ref f25) = true)
    (a26 : PySem.W.nsIn K mainGlobals "chosen" = some (some (.ref f26))) (l26 : K.lookup f26 = some ⟨oc26, od26, .func (PySem.W.fnOf "chosen" "chosen" (defArgs s_chosen) (defBody s_chosen) (defScope s_chosen) .none kV26 dc26 pm26 an26 cd26 ct26), sl26⟩) (c26 : PySem.W.codeIn K cd26 "chosen" = true) (k26 : PySem.W.keepIn K (.ref f26) = true)
    (a27 : PySem.W.nsIn K mainGlobals "powers_chosen" = some (some (.ref f27))) (l27 : K.lookup f27 = some ⟨oc27, od27, .func (PySem.W.fnOf "powers_chosen" "powers_chosen" (defArgs s_powers_chosen) (defBody s_powers_chosen) (defScope s_powers_chosen) .none kV27 dc27 pm27 an27 cd27 ct27), sl27⟩) (c27 : PySem.W.codeIn K cd27 "powers_chosen" = true) (k27 : PySem.W.keepIn K (.ref f27) = true)
    (a28 : PySem.W.nsIn K mainGlobals "sums_repeated" = some (some (.ref f28))) (l28 : K.lookup f28 = some ⟨oc28, od28, .func (PySem.W.fnOf "sums_repeated" "sums_repeated" (defArgs s_sums_repeated) (defBody s_sums_repeated) (defScope s_sums_repeated) .none kV28 dc28 pm28 an28 cd28 ct28), sl28⟩) (c28 : PySem.W.codeIn K cd28 "sums_repeated" = true) (k28 : PySem.W.keepIn K (.ref f28) = true)
    (a29 : PySem.W.nsIn K mainGlobals "sums_backed" = some (some (.ref f29))) (l29 : K.lookup f29 = some ⟨oc29, od29, .func (PySem.W.fnOf "sums_backed" "sums_backed" (defArgs s_sums_backed) (defBody s_sums_backed) (defScope s_sums_backed) .none kV29 dc29 pm29 an29 cd29 ct29), sl29⟩) (c29 : PySem.W.codeIn K cd29 "sums_backed" = true) (k29 : PySem.W.keepIn K (.ref f29) = true)
    (a30 : PySem.W.nsIn K mainGlobals "_law_box" = some (some (.ref f30))) (l30 : K.lookup f30 = some ⟨oc30, od30, .func (PySem.W.fnOf "_law_box" "_law_box" (defArgs s_law_box) (defBody s_law_box) (defScope s_law_box) .none kV30 dc30 pm30 an30 cd30 ct30), sl30⟩) (c30 : PySem.W.codeIn K cd30 "_law_box" = true) (k30 : PySem.W.keepIn K (.ref f30) = true)
    (a31 : PySem.W.nsIn K mainGlobals "_law_take" = some (some (.ref f31))) (l31 : K.lookup f31 = some ⟨oc31, od31, .func (PySem.W.fnOf "_law_take" "_law_take" (defArgs s_law_take) (defBody s_law_take) (defScope s_law_take) .none kV31 dc31 pm31 an31 cd31 ct31), sl31⟩) (c31 : PySem.W.codeIn K cd31 "_law_take" = true) (k31 : PySem.W.keepIn K (.ref f31) = true)
    (a32 : PySem.W.nsIn K mainGlobals "_law_folded" = some (some (.ref f32))) (l32 : K.lookup f32 = some ⟨oc32, od32, .func (PySem.W.fnOf "_law_folded" "_law_folded" (defArgs s_law_folded) (defBody s_law_folded) (defScope s_law_folded) .none kV32 dc32 pm32 an32 cd32 ct32), sl32⟩) (c32 : PySem.W.codeIn K cd32 "_law_folded" = true) (k32 : PySem.W.keepIn K (.ref f32) = true)
    (a33 : PySem.W.nsIn K mainGlobals "_law_sizes" = some (some (.ref f33))) (l33 : K.lookup f33 = some ⟨oc33, od33, .func (PySem.W.fnOf "_law_sizes" "_law_sizes" (defArgs s_law_sizes) (defBody s_law_sizes) (defScope s_law_sizes) .none kV33 dc33 pm33 an33 cd33 ct33), sl33⟩) (c33 : PySem.W.codeIn K cd33 "_law_sizes" = true) (k33 : PySem.W.keepIn K (.ref f33) = true)
    (a34 : PySem.W.nsIn K mainGlobals "_law_word" = some (some (.ref f34))) (l34 : K.lookup f34 = some ⟨oc34, od34, .func (PySem.W.fnOf "_law_word" "_law_word" (defArgs s_law_word) (defBody s_law_word) (defScope s_law_word) .none kV34 dc34 pm34 an34 cd34 ct34), sl34⟩) (c34 : PySem.W.codeIn K cd34 "_law_word" = true) (k34 : PySem.W.keepIn K (.ref f34) = true)
    (a35 : PySem.W.nsIn K mainGlobals "_law_number" = some (some (.ref f35))) (l35 : K.lookup f35 = some ⟨oc35, od35, .func (PySem.W.fnOf "_law_number" "_law_number" (defArgs s_law_number) (defBody s_law_number) (defScope s_law_number) .none kV35 dc35 pm35 an35 cd35 ct35), sl35⟩) (c35 : PySem.W.codeIn K cd35 "_law_number" = true) (k35 : PySem.W.keepIn K (.ref f35) = true)
    (a36 : PySem.W.nsIn K mainGlobals "_law_chosen" = some (some (.ref f36))) (l36 : K.lookup f36 = some ⟨oc36, od36, .func (PySem.W.fnOf "_law_chosen" "_law_chosen" (defArgs s_law_chosen) (defBody s_law_chosen) (defScope s_law_chosen) .none kV36 dc36 pm36 an36 cd36 ct36), sl36⟩) (c36 : PySem.W.codeIn K cd36 "_law_chosen" = true) (k36 : PySem.W.keepIn K (.ref f36) = true)
    (a37 : PySem.W.nsIn K mainGlobals "_law_letter_right" = some (some (.ref f37))) (l37 : K.lookup f37 = some ⟨oc37, od37, .func (PySem.W.fnOf "_law_letter_right" "_law_letter_right" (defArgs s_law_letter_right) (defBody s_law_letter_right) (defScope s_law_letter_right) .none kV37 dc37 pm37 an37 cd37 ct37), sl37⟩) (c37 : PySem.W.codeIn K cd37 "_law_letter_right" = true) (k37 : PySem.W.keepIn K (.ref f37) = true)
    (a38 : PySem.W.nsIn K mainGlobals "_law_right" = some (some (.ref f38))) (l38 : K.lookup f38 = some ⟨oc38, od38, .func (PySem.W.fnOf "_law_right" "_law_right" (defArgs s_law_right) (defBody s_law_right) (defScope s_law_right) .none kV38 dc38 pm38 an38 cd38 ct38), sl38⟩) (c38 : PySem.W.codeIn K cd38 "_law_right" = true) (k38 : PySem.W.keepIn K (.ref f38) = true)
    (a39 : PySem.W.nsIn K mainGlobals "law" = some (some (.ref f39))) (l39 : K.lookup f39 = some ⟨oc39, od39, .func (PySem.W.fnOf "law" "law" (defArgs s_law) (defBody s_law) (defScope s_law) .none kV39 dc39 pm39 an39 cd39 ct39), sl39⟩) (c39 : PySem.W.codeIn K cd39 "law" = true) (k39 : PySem.W.keepIn K (.ref f39) = true)
    (z_abs : PySem.W.nsIn K mainGlobals "abs" = some none) (z_all : PySem.W.nsIn K mainGlobals "all" = some none) (z_any : PySem.W.nsIn K mainGlobals "any" = some none) (z_bool : PySem.W.nsIn K mainGlobals "bool" = some none) (z_dict : PySem.W.nsIn K mainGlobals "dict" = some none) (z_divmod : PySem.W.nsIn K mainGlobals "divmod" = some none) (z_enumerate : PySem.W.nsIn K mainGlobals "enumerate" = some none) (z_int : PySem.W.nsIn K mainGlobals "int" = some none) (z_isinstance : PySem.W.nsIn K mainGlobals "isinstance" = some none) (z_len : PySem.W.nsIn K mainGlobals "len" = some none) (z_list : PySem.W.nsIn K mainGlobals "list" = some none) (z_max : PySem.W.nsIn K mainGlobals "max" = some none) (z_min : PySem.W.nsIn K mainGlobals "min" = some none) (z_range : PySem.W.nsIn K mainGlobals "range" = some none) (z_reversed : PySem.W.nsIn K mainGlobals "reversed" = some none) (z_sorted : PySem.W.nsIn K mainGlobals "sorted" = some none) (z_str : PySem.W.nsIn K mainGlobals "str" = some none) (z_sum : PySem.W.nsIn K mainGlobals "sum" = some none) (z_tuple : PySem.W.nsIn K mainGlobals "tuple" = some none) (z_zip : PySem.W.nsIn K mainGlobals "zip" = some none) :
    ∃ fd : FuncData, (∀ (s : Shared) (v : Value), BindsTo s fd ⟨[v], []⟩ [("_law_script", v)]) ∧ ∀ base : Heap, K.In base → base.Ns mainGlobals mg → FnOk l.prog w K mg base CX0 13 fa fd ["_law_script"] (spLaw K) := by
  have e := hfa.symm.trans (PySem.W.mg_of X G a39)
  cases e
  have T : Txt mg := ⟨PySem.W.mg_none_of X G z_abs, PySem.W.mg_none_of X G z_all, PySem.W.mg_none_of X G z_any, PySem.W.mg_none_of X G z_bool, PySem.W.mg_none_of X G z_dict, PySem.W.mg_none_of X G z_divmod, PySem.W.mg_none_of X G z_enumerate, PySem.W.mg_none_of X G z_int, PySem.W.mg_none_of X G z_isinstance, PySem.W.mg_none_of X G z_len, PySem.W.mg_none_of X G z_list, PySem.W.mg_none_of X G z_max, PySem.W.mg_none_of X G z_min, PySem.W.mg_none_of X G z_range, PySem.W.mg_none_of X G z_reversed, PySem.W.mg_none_of X G z_sorted, PySem.W.mg_none_of X G z_str, PySem.W.mg_none_of X G z_sum, PySem.W.mg_none_of X G z_tuple, PySem.W.mg_none_of X G z_zip⟩
  subst tD
  have TG : TxtG K mg C aD := ⟨⟨pg, hd, po, sa⟩, fun f hf => by
    simp only [List.mem_cons, List.not_mem_nil, or_false] at hf
    rcases hf with rfl | rfl | rfl | rfl | rfl | rfl | rfl | rfl | rfl
    · exact nf0
    · exact nf1
    · exact nf2
    · exact nf3
    · exact nf4
    · exact nf5
    · exact nf6
    · exact nf7
    · exact nf8, PySem.W.mg_of X G aDD, fun _ => .inr ⟨_, itD, nD, lD, rfl, rfl, zD, vD⟩⟩
  have E_set := PySem.W.mg_none_of X G eX_set
  have F0 := fun_mk (st := s_plain_words) l0 c0 k0
  have b0 := F0.binds (ps := ["letters", "size"]) fun _ _ _ _ _ _ us hl => match us, hl with | [_, _], _ => rfl
  have F1 := fun_mk (st := s_words_up_to) l1 c1 k1
  have b1 := F1.binds (ps := ["letters", "depth"]) fun _ _ _ _ _ _ us hl => match us, hl with | [_, _], _ => rfl
  have F2 := fun_mk (st := s_joined) l2 c2 k2
  have b2 := F2.binds (ps := ["one", "other"]) fun _ _ _ _ _ _ us hl => match us, hl with | [_, _], _ => rfl
  have F3 := fun_mk (st := s_turns) l3 c3 k3
  have b3 := F3.binds (ps := ["word"]) fun _ _ _ _ _ _ us hl => match us, hl with | [_], _ => rfl
  have F4 := fun_mk (st := s_is_turnword) l4 c4 k4
  have b4 := F4.binds (ps := ["word"]) fun _ _ _ _ _ _ us hl => match us, hl with | [_], _ => rfl
  have F5 := fun_mk (st := s_all_partings) l5 c5 k5
  have b5 := F5.binds (ps := ["words"]) fun _ _ _ _ _ _ us hl => match us, hl with | [_], _ => rfl
  have F6 := fun_mk (st := s_all_endings) l6 c6 k6
  have b6 := F6.binds (ps := ["words"]) fun _ _ _ _ _ _ us hl => match us, hl with | [_], _ => rfl
  have F7 := fun_mk (st := s_backed) l7 c7 k7
  have b7 := F7.binds (ps := ["word"]) fun _ _ _ _ _ _ us hl => match us, hl with | [_], _ => rfl
  have F8 := fun_mk (st := s_bracketed) l8 c8 k8
  have b8 := F8.binds (ps := ["one", "other"]) fun _ _ _ _ _ _ us hl => match us, hl with | [_, _], _ => rfl
  have F9 := fun_mk (st := s_cut) l9 c9 k9
  have b9 := F9.binds (ps := ["word"]) fun _ _ _ _ _ _ us hl => match us, hl with | [_], _ => rfl
  have F10 := fun_mk (st := s_halves) l10 c10 k10
  have b10 := F10.binds (ps := ["word"]) fun _ _ _ _ _ _ us hl => match us, hl with | [_], _ => rfl
  have F11 := fun_mk (st := s_Ground_size_at) l11 c11 k11
  have b11 := F11.binds (ps := ["self", "place"]) fun _ _ _ _ _ _ us hl => match us, hl with | [_, _], _ => rfl
  have F12 := fun_mk (st := s_Ground_place_of) l12 c12 k12
  have b12 := F12.binds (ps := ["self", "word"]) fun _ _ _ _ _ _ us hl => match us, hl with | [_, _], _ => rfl
  have F13 := fun_mk (st := s_Ground_parts_at) l13 c13 k13
  have b13 := F13.binds (ps := ["self", "place"]) fun _ _ _ _ _ _ us hl => match us, hl with | [_, _], _ => rfl
  have F14 := fun_mk (st := s_Ground_bracket_at) l14 c14 k14
  have b14 := F14.binds (ps := ["self", "place"]) fun _ _ _ _ _ _ us hl => match us, hl with | [_, _], _ => rfl
  have F15 := fun_mk (st := s_Ground_partings) l15 c15 k15
  have b15 := F15.binds (ps := ["self"]) fun _ _ _ _ _ _ us hl => match us, hl with | [_], _ => rfl
  have F16 := fun_mk (st := s_Ground_endings) l16 c16 k16
  have b16 := F16.binds (ps := ["self", "letter"]) fun _ _ _ _ _ _ us hl => match us, hl with | [_, _], _ => rfl
  have F17 := fun_mk (st := s_empty_sums) l17 c17 k17
  have b17 := F17.binds (ps := ["ground"]) fun _ _ _ _ _ _ us hl => match us, hl with | [_], _ => rfl
  have F18 := fun_mk (st := s_scattered) l18 c18 k18
  have b18 := F18.binds (ps := ["ground", "word"]) fun _ _ _ _ _ _ us hl => match us, hl with | [_, _], _ => rfl
  have F19 := fun_mk (st := s_sums_joined) l19 c19 k19
  have b19 := F19.binds (ps := ["ground", "one", "other"]) fun _ _ _ _ _ _ us hl => match us, hl with | [_, _, _], _ => rfl
  have F20 := fun_mk (st := s_rest_powers) l20 c20 k20
  have b20 := F20.binds (ps := ["ground", "one"]) fun _ _ _ _ _ _ us hl => match us, hl with | [_, _], _ => rfl
  have F21 := fun_mk (st := s_all_powers) l21 c21 k21
  have b21 := F21.binds (ps := ["ground", "place"]) fun _ _ _ _ _ _ us hl => match us, hl with | [_, _], _ => rfl
  have F22 := fun_mk (st := s_Ground_init) l22 c22 k22
  have b22 := F22.binds (ps := ["self", "letters", "depth"]) fun _ _ _ _ _ _ us hl => match us, hl with | [_, _, _], _ => rfl
  have F23 := fun_mk (st := s_Ground_words) l23 c23 k23
  have b23 := F23.binds (ps := ["self"]) fun _ _ _ _ _ _ us hl => match us, hl with | [_], _ => rfl
  have F24 := fun_mk (st := s_Ground_bracket_powers) l24 c24 k24
  have b24 := F24.binds (ps := ["self", "place"]) fun _ _ _ _ _ _ us hl => match us, hl with | [_, _], _ => rfl
  have F25 := fun_mk (st := s_repeated) l25 c25 k25
  have b25 := F25.binds (ps := ["word", "n"]) fun _ _ _ _ _ _ us hl => match us, hl with | [_, _], _ => rfl
  have F26 := fun_mk (st := s_chosen) l26 c26 k26
  have b26 := F26.binds (ps := ["n", "k"]) fun _ _ _ _ _ _ us hl => match us, hl with | [_, _], _ => rfl
  have F27 := fun_mk (st := s_powers_chosen) l27 c27 k27
  have b27 := F27.binds (ps := ["powers", "n"]) fun _ _ _ _ _ _ us hl => match us, hl with | [_, _], _ => rfl
  have F28 := fun_mk (st := s_sums_repeated) l28 c28 k28
  have b28 := F28.binds (ps := ["ground", "one", "n"]) fun _ _ _ _ _ _ us hl => match us, hl with | [_, _, _], _ => rfl
  have F29 := fun_mk (st := s_sums_backed) l29 c29 k29
  have b29 := F29.binds (ps := ["ground", "one"]) fun _ _ _ _ _ _ us hl => match us, hl with | [_, _], _ => rfl
  have F30 := fun_mk (st := s_law_box) l30 c30 k30
  have b30 := F30.binds (ps := ["_law_script", "_law_k"]) fun _ _ _ _ _ _ us hl => match us, hl with | [_, _], _ => rfl
  have F31 := fun_mk (st := s_law_take) l31 c31 k31
  have b31 := F31.binds (ps := ["_law_box_here", "_law_size"]) fun _ _ _ _ _ _ us hl => match us, hl with | [_, _], _ => rfl
  have F32 := fun_mk (st := s_law_folded) l32 c32 k32
  have b32 := F32.binds (ps := ["_law_script", "_law_size"]) fun _ _ _ _ _ _ us hl => match us, hl with | [_, _], _ => rfl
  have F33 := fun_mk (st := s_law_sizes) l33 c33 k33
  have b33 := F33.binds (ps := ["_law_box_here"]) fun _ _ _ _ _ _ us hl => match us, hl with | [_], _ => rfl
  have F34 := fun_mk (st := s_law_word) l34 c34 k34
  have b34 := F34.binds (ps := ["_law_box_here", "_law_letters", "_law_most"]) fun _ _ _ _ _ _ us hl => match us, hl with | [_, _, _], _ => rfl
  have F35 := fun_mk (st := s_law_number) l35 c35 k35
  have b35 := F35.binds (ps := ["_law_box_here"]) fun _ _ _ _ _ _ us hl => match us, hl with | [_], _ => rfl
  have F36 := fun_mk (st := s_law_chosen) l36 c36 k36
  have b36 := F36.binds (ps := ["_law_n", "_law_k"]) fun _ _ _ _ _ _ us hl => match us, hl with | [_, _], _ => rfl
  have F37 := fun_mk (st := s_law_letter_right) l37 c37 k37
  have b37 := F37.binds (ps := ["_law_ground", "_law_words", "_law_letter", "_law_n"]) fun _ _ _ _ _ _ us hl => match us, hl with | [_, _, _, _], _ => rfl
  have F38 := fun_mk (st := s_law_right) l38 c38 k38
  have b38 := F38.binds (ps := ["_law_box_here"]) fun _ _ _ _ _ _ us hl => match us, hl with | [_], _ => rfl
  have F39 := fun_mk (st := s_law) l39 c39 k39
  refine ⟨PySem.W.fnOf "law" "law" (defArgs s_law) (defBody s_law) (defScope s_law) .none kV39 dc39 pm39 an39 cd39 ct39, fun s v => .of_eq rfl, fun base _ _ => ?_⟩
  have C0 : Cal l.prog w K mg base "plain_words" ["letters", "size"] 1 spPW := ⟨_, _, ok_plain_words F0 T , b0, k0, PySem.W.mg_of X G a0⟩
  have C1 : Cal l.prog w K mg base "words_up_to" ["letters", "depth"] 2 spWordsUp := ⟨_, _, ok_words_up_to F1 T C0, b1, k1, PySem.W.mg_of X G a1⟩
  have C2 : Cal l.prog w K mg base "joined" ["one", "other"] 1 spJoined := ⟨_, _, ok_joined F2 T , b2, k2, PySem.W.mg_of X G a2⟩
  have C3 : Cal l.prog w K mg base "turns" ["word"] 2 spTurnsS := ⟨_, _, ok_turns F3 T C2, b3, k3, PySem.W.mg_of X G a3⟩
  have C4 : Cal l.prog w K mg base "is_turnword" ["word"] 3 spTwS := ⟨_, _, ok_is_turnword F4 T C3, b4, k4, PySem.W.mg_of X G a4⟩
  have C5 : Cal l.prog w K mg base "all_partings" ["words"] 1 spPartings := ⟨_, _, ok_all_partings F5 T , b5, k5, PySem.W.mg_of X G a5⟩
  have C6 : Cal l.prog w K mg base "all_endings" ["words"] 1 spEndings := ⟨_, _, ok_all_endings F6 T , b6, k6, PySem.W.mg_of X G a6⟩
  have C7 : Cal l.prog w K mg base "backed" ["word"] 1 spBacked := ⟨_, _, ok_backed F7 T , b7, k7, PySem.W.mg_of X G a7⟩
  have C8 : Cal l.prog w K mg base "bracketed" ["one", "other"] 2 spBracketed := ⟨_, _, ok_bracketed F8 T C7 C2, b8, k8, PySem.W.mg_of X G a8⟩
  have C9 : Cal l.prog w K mg base "cut" ["word"] 1 spCut := ⟨_, _, ok_cut F9 T , b9, k9, PySem.W.mg_of X G a9⟩
  have C10 : Cal l.prog w K mg base "halves" ["word"] 2 spHalves := ⟨_, _, ok_halves F10 T C9, b10, k10, PySem.W.mg_of X G a10⟩
  have C11 : CalM l.prog w K mg base C "size_at" ["self", "place"] 1 (spMSize C) := ⟨_, _, ok_Ground_size_at F11 T TG , b11, ⟨a11, i11, k11⟩⟩
  have C12 : CalM l.prog w K mg base C "place_of" ["self", "word"] 1 (spMPlace C) := ⟨_, _, ok_Ground_place_of F12 T TG , b12, ⟨a12, i12, k12⟩⟩
  have C13 : CalM l.prog w K mg base C "parts_at" ["self", "place"] 3 (spMParts C) := ⟨_, _, ok_Ground_parts_at F13 T TG C11 C12 C10, b13, ⟨a13, i13, k13⟩⟩
  have R14_0 : CalM l.prog w K mg base C "bracket_at" ["self", "place"] 3 (spMBr C 0) := ⟨_, _, ⟨fun vs H Q E h => (rec0 h).elim, fun A outer s H args us vs Q E _ _ _ _ h => (rec0 h).elim⟩, b14, ⟨a14, i14, k14⟩⟩
  have R14_1 : CalM l.prog w K mg base C "bracket_at" ["self", "place"] 4 (spMBr C 1) := ⟨_, _, ok_Ground_bracket_at F14 T TG C13 C8 (by decide) R14_0, b14, ⟨a14, i14, k14⟩⟩
  have R14_2 : CalM l.prog w K mg base C "bracket_at" ["self", "place"] 5 (spMBr C 2) := ⟨_, _, ok_Ground_bracket_at F14 T TG C13 C8 (by decide) R14_1, b14, ⟨a14, i14, k14⟩⟩
  have R14_3 : CalM l.prog w K mg base C "bracket_at" ["self", "place"] 6 (spMBr C 3) := ⟨_, _, ok_Ground_bracket_at F14 T TG C13 C8 (by decide) R14_2, b14, ⟨a14, i14, k14⟩⟩
  have R14_4 : CalM l.prog w K mg base C "bracket_at" ["self", "place"] 7 (spMBr C 4) := ⟨_, _, ok_Ground_bracket_at F14 T TG C13 C8 (by decide) R14_3, b14, ⟨a14, i14, k14⟩⟩
  have R14_5 : CalM l.prog w K mg base C "bracket_at" ["self", "place"] 8 (spMBr C 5) := ⟨_, _, ok_Ground_bracket_at F14 T TG C13 C8 (by decide) R14_4, b14, ⟨a14, i14, k14⟩⟩
  have C14 := R14_5
  have C15 : CalM l.prog w K mg base C "partings" ["self"] 1 (spMPart C) := ⟨_, _, ok_Ground_partings F15 T TG , b15, ⟨a15, i15, k15⟩⟩
  have C16 : CalM l.prog w K mg base C "endings" ["self", "letter"] 1 (spMEnd C) := ⟨_, _, ok_Ground_endings F16 T TG , b16, ⟨a16, i16, k16⟩⟩
  have C17 : Cal l.prog w K mg base "empty_sums" ["ground"] 2 (spEmpty C) := ⟨_, _, ok_empty_sums F17 T TG C15, b17, k17, PySem.W.mg_of X G a17⟩
  have C18 : Cal l.prog w K mg base "scattered" ["ground", "word"] 3 (spScat C) := ⟨_, _, ok_scattered F18 T TG C16 C17, b18, k18, PySem.W.mg_of X G a18⟩
  have C19 : Cal l.prog w K mg base "sums_joined" ["ground", "one", "other"] 2 (spJoin C) := ⟨_, _, ok_sums_joined F19 T TG C15, b19, k19, PySem.W.mg_of X G a19⟩
  have C20 : Cal l.prog w K mg base "rest_powers" ["ground", "one"] 3 (spRest C) := ⟨_, _, ok_rest_powers F20 T TG C17 C19, b20, k20, PySem.W.mg_of X G a20⟩
  have C21 : Cal l.prog w K mg base "all_powers" ["ground", "place"] 9 (spAllP C) := ⟨_, _, ok_all_powers F21 T TG C14 C18 C20, b21, k21, PySem.W.mg_of X G a21⟩
  have C22 : CalI l.prog w K mg base C "Ground" ["self", "letters", "depth"] 10 (spInit C) := ⟨_, _, ok_Ground_init F22 T TG C1 C4 C5 C6 C21, b22, ⟨mk, a22, i22, kc⟩, PySem.W.mg_of X G aC⟩
  have C23 : CalM l.prog w K mg base C "words" ["self"] 1 (spMWords C) := ⟨_, _, ok_Ground_words F23 T TG , b23, ⟨a23, i23, k23⟩⟩
  have C24 : CalM l.prog w K mg base C "bracket_powers" ["self", "place"] 1 (spMPow C) := ⟨_, _, ok_Ground_bracket_powers F24 T TG , b24, ⟨a24, i24, k24⟩⟩
  have C25 : Cal l.prog w K mg base "repeated" ["word", "n"] 2 spRepeated := ⟨_, _, ok_repeated F25 T C7, b25, k25, PySem.W.mg_of X G a25⟩
  have C26 : Cal l.prog w K mg base "chosen" ["n", "k"] 1 spChB := ⟨_, _, ok_chosen F26 T , b26, k26, PySem.W.mg_of X G a26⟩
  have C27 : Cal l.prog w K mg base "powers_chosen" ["powers", "n"] 2 spPowB := ⟨_, _, ok_powers_chosen F27 T C26, b27, k27, PySem.W.mg_of X G a27⟩
  have C28 : Cal l.prog w K mg base "sums_repeated" ["ground", "one", "n"] 4 (spRepB C) := ⟨_, _, ok_sums_repeated F28 T TG C20 C27, b28, k28, PySem.W.mg_of X G a28⟩
  have C29 : Cal l.prog w K mg base "sums_backed" ["ground", "one"] 5 (spBackB C) := ⟨_, _, ok_sums_backed F29 T TG C28, b29, k29, PySem.W.mg_of X G a29⟩
  have C30 : Cal l.prog w K mg base "_law_box" ["_law_script", "_law_k"] 1 (spBox K) := ⟨_, _, ok_law_box F30 T , b30, k30, PySem.W.mg_of X G a30⟩
  have C31 : Cal l.prog w K mg base "_law_take" ["_law_box_here", "_law_size"] 1 spTake := ⟨_, _, ok_law_take F31 T , b31, k31, PySem.W.mg_of X G a31⟩
  have C32 : Cal l.prog w K mg base "_law_folded" ["_law_script", "_law_size"] 1 (spFolded K) := ⟨_, _, ok_law_folded F32 T , b32, k32, PySem.W.mg_of X G a32⟩
  have C33 : Cal l.prog w K mg base "_law_sizes" ["_law_box_here"] 2 spSizes := ⟨_, _, ok_law_sizes F33 T C31, b33, k33, PySem.W.mg_of X G a33⟩
  have C34 : Cal l.prog w K mg base "_law_word" ["_law_box_here", "_law_letters", "_law_most"] 2 spWord := ⟨_, _, ok_law_word F34 T C31, b34, k34, PySem.W.mg_of X G a34⟩
  have C35 : Cal l.prog w K mg base "_law_number" ["_law_box_here"] 2 spNumber := ⟨_, _, ok_law_number F35 T C31, b35, k35, PySem.W.mg_of X G a35⟩
  have C36 : Cal l.prog w K mg base "_law_chosen" ["_law_n", "_law_k"] 1 spChB := ⟨_, _, ok_law_chosen F36 T , b36, k36, PySem.W.mg_of X G a36⟩
  have C37 : Cal l.prog w K mg base "_law_letter_right" ["_law_ground", "_law_words", "_law_letter", "_law_n"] 5 (spLet20 C) := ⟨_, _, ok_law_letter_right F37 T TG E_set C18 C28 C36, b37, k37, PySem.W.mg_of X G a37⟩
  have C38 : Cal l.prog w K mg base "_law_right" ["_law_box_here"] 12 spRight20 := ⟨_, _, ok_law_right F38 T TG C33 C22 C34 C35 C31 C18 C25 C28 C29 C7 C19 C37 C23, b38, k38, PySem.W.mg_of X G a38⟩
  exact ok_law F39 T C32 C30 C38
theorem walk {l : PySem.W.OpenLaw} {q : Program} {loose : List Str} {XP : (Str → Option Value) → Heap → Prop} {YP : World → Heap → Prop} {d : DefRec} {K : Params → PySem.W.Frag} (hn : l.most = some 63) (hdf : d.params.defaults = [])
    (hY : ∀ (w : World) (h : Heap), YP w h → (K w.params).In h)
    (F : ∀ (w : World) (mg : Str → Option Value) (fa : Addr) (h : Heap), (K w.params).In h → h.Ns mainGlobals mg → mg d.name = some (.ref fa) →
      ∃ fd : FuncData, (∀ (s : Shared) (u : Value), BindsTo s fd ⟨[u], []⟩ [("_law_script", u)]) ∧ ∀ base : Heap, (K w.params).In base → base.Ns mainGlobals mg → FnOk l.prog w (K w.params) mg base CX0 13 fa fd ["_law_script"] (spLaw (K w.params))) :
    PySem.W.WalkO q loose XP YP l.row.toRowW d [] (fun f vs => PySem.call f vs) :=
  L2.walk_of (n := 63) (k := 13) (x := "_law_script") (CX := fun _ => CX0) (sp := fun w => spLaw (K w.params)) hn (by decide) hdf ⟨rfl, by decide, by decide, rfl⟩ hY F (fun _ _ a ns hl _ hS => ⟨a, ns, rfl, hS, hl, fun _ => rfl⟩) fun _ _ _ _ _ z => z
end Toy
open PySem PySem.W PyProof.Rows
set_option maxRecDepth 100000 in
set_option maxHeartbeats 0 in
theorem PySem.Challenge.cw_bracketwords_k20_sums_of_repeated_words_holds : PySem.Challenge.rw_bracketwords_k20_sums_of_repeated_words.Holds := by
  w_on; o_law; k_head; (case hw => w_witness2)
  k_fill
  refine Toy.walk (l := PySem.Challenge.rw_bracketwords_k20_sums_of_repeated_words) rfl rfl (fun w h Y => PySem.W.kIn_of Y) ?F
  case F =>
    intro w mg fa h KX G hmg
    refine' Toy.all_mk KX G hmg ?aC ?pg ?hd ?po ?sa ?mk ?kc ?nf0 ?nf1 ?nf2 ?nf3 ?nf4 ?nf5 ?nf6 ?nf7 ?nf8 ?aDD ?lD ?tD ?zD ?vD ?eX_set ?a0 ?l0 ?c0 ?k0 ?a1 ?l1 ?c1 ?k1 ?a2 ?l2 ?c2 ?k2 ?a3 ?l3 ?c3 ?k3 ?a4 ?l4 ?c4 ?k4 ?a5 ?l5 ?c5 ?k5 ?a6 ?l6 ?c6 ?k6 ?a7 ?l7 ?c7 ?k7 ?a8 ?l8 ?c8 ?k8 ?a9 ?l9 ?c9 ?k9 ?a10 ?l10 ?c10 ?k10 ?a11 ?i11 ?l11 ?c11 ?k11 ?a12 ?i12 ?l12 ?c12 ?k12 ?a13 ?i13 ?l13 ?c13 ?k13 ?a14 ?i14 ?l14 ?c14 ?k14 ?a15 ?i15 ?l15 ?c15 ?k15 ?a16 ?i16 ?l16 ?c16 ?k16 ?a17 ?l17 ?c17 ?k17 ?a18 ?l18 ?c18 ?k18 ?a19 ?l19 ?c19 ?k19 ?a20 ?l20 ?c20 ?k20 ?a21 ?l21 ?c21 ?k21 ?a22 ?i22 ?l22 ?c22 ?k22 ?a23 ?i23 ?l23 ?c23 ?k23 ?a24 ?i24 ?l24 ?c24 ?k24 ?a25 ?l25 ?c25 ?k25 ?a26 ?l26 ?c26 ?k26 ?a27 ?l27 ?c27 ?k27 ?a28 ?l28 ?c28 ?k28 ?a29 ?l29 ?c29 ?k29 ?a30 ?l30 ?c30 ?k30 ?a31 ?l31 ?c31 ?k31 ?a32 ?l32 ?c32 ?k32 ?a33 ?l33 ?c33 ?k33 ?a34 ?l34 ?c34 ?k34 ?a35 ?l35 ?c35 ?k35 ?a36 ?l36 ?c36 ?k36 ?a37 ?l37 ?c37 ?k37 ?a38 ?l38 ?c38 ?k38 ?a39 ?l39 ?c39 ?k39 ?z_abs ?z_all ?z_any ?z_bool ?z_dict ?z_divmod ?z_enumerate ?z_int ?z_isinstance ?z_len ?z_list ?z_max ?z_min ?z_range ?z_reversed ?z_sorted ?z_str ?z_sum ?z_tuple ?z_zip
    (case aC => k_is)
    (case pg => k_is)
    (case hd => k_is)
    (case po => k_is)
    (case sa => k_is)
    (case mk => k_is)
    (case kc => k_is)
    (case nf0 => k_is)
    (case nf1 => k_is)
    (case nf2 => k_is)
    (case nf3 => k_is)
    (case nf4 => k_is)
    (case nf5 => k_is)
    (case nf6 => k_is)
    (case nf7 => k_is)
    (case nf8 => k_is)
    (case aDD => k_is)
    (case lD => k_is)
    (case tD => rfl)
    (case zD => exact (by decide))
    (case vD => exact .cons ⟨_, rfl⟩ (.cons ⟨_, rfl⟩ (.cons ⟨_, rfl⟩ (.cons ⟨_, rfl⟩ (.cons ⟨_, rfl⟩ .nil)))))
    (case eX_set => k_is)
    (case a0 => k_is)
    (case l0 => k_is)
    (case c0 => k_is)
    (case k0 => k_is)
    (case a1 => k_is)
    (case l1 => k_is)
    (case c1 => k_is)
    (case k1 => k_is)
    (case a2 => k_is)
    (case l2 => k_is)
    (case c2 => k_is)
    (case k2 => k_is)
    (case a3 => k_is)
    (case l3 => k_is)
    (case c3 => k_is)
    (case k3 => k_is)
    (case a4 => k_is)
    (case l4 => k_is)
    (case c4 => k_is)
    (case k4 => k_is)
    (case a5 => k_is)
    (case l5 => k_is)
    (case c5 => k_is)
    (case k5 => k_is)
    (case a6 => k_is)
    (case l6 => k_is)
    (case c6 => k_is)
    (case k6 => k_is)
    (case a7 => k_is)
    (case l7 => k_is)
    (case c7 => k_is)
    (case k7 => k_is)
    (case a8 => k_is)
    (case l8 => k_is)
    (case c8 => k_is)
    (case k8 => k_is)
    (case a9 => k_is)
    (case l9 => k_is)
    (case c9 => k_is)
    (case k9 => k_is)
    (case a10 => k_is)
    (case l10 => k_is)
    (case c10 => k_is)
    (case k10 => k_is)
    (case a11 => k_is)
    (case i11 => k_is)
    (case l11 => k_is)
    (case c11 => k_is)
    (case k11 => k_is)
    (case a12 => k_is)
    (case i12 => k_is)
    (case l12 => k_is)
    (case c12 => k_is)
    (case k12 => k_is)
    (case a13 => k_is)
    (case i13 => k_is)
    (case l13 => k_is)
    (case c13 => k_is)
    (case k13 => k_is)
    (case a14 => k_is)
    (case i14 => k_is)
    (case l14 => k_is)
    (case c14 => k_is)
    (case k14 => k_is)
    (case a15 => k_is)
    (case i15 => k_is)
    (case l15 => k_is)
    (case c15 => k_is)
    (case k15 => k_is)
    (case a16 => k_is)
    (case i16 => k_is)
    (case l16 => k_is)
    (case c16 => k_is)
    (case k16 => k_is)
    (case a17 => k_is)
    (case l17 => k_is)
    (case c17 => k_is)
    (case k17 => k_is)
    (case a18 => k_is)
    (case l18 => k_is)
    (case c18 => k_is)
    (case k18 => k_is)
    (case a19 => k_is)
    (case l19 => k_is)
    (case c19 => k_is)
    (case k19 => k_is)
    (case a20 => k_is)
    (case l20 => k_is)
    (case c20 => k_is)
    (case k20 => k_is)
    (case a21 => k_is)
    (case l21 => k_is)
    (case c21 => k_is)
    (case k21 => k_is)
    (case a22 => k_is)
    (case i22 => k_is)
    (case l22 => k_is)
    (case c22 => k_is)
    (case k22 => k_is)
    (case a23 => k_is)
    (case i23 => k_is)
    (case l23 => k_is)
    (case c23 => k_is)
    (case k23 => k_is)
    (case a24 => k_is)
    (case i24 => k_is)
    (case l24 => k_is)
    (case c24 => k_is)
    (case k24 => k_is)
    (case a25 => k_is)
    (case l25 => k_is)
    (case c25 => k_is)
    (case k25 => k_is)
    (case a26 => k_is)
    (case l26 => k_is)
    (case c26 => k_is)
    (case k26 => k_is)
    (case a27 => k_is)
    (case l27 => k_is)
    (case c27 => k_is)
    (case k27 => k_is)
    (case a28 => k_is)
    (case l28 => k_is)
    (case c28 => k_is)
    (case k28 => k_is)
    (case a29 => k_is)
    (case l29 => k_is)
    (case c29 => k_is)
    (case k29 => k_is)
    (case a30 => k_is)
    (case l30 => k_is)
    (case c30 => k_is)
    (case k30 => k_is)
    (case a31 => k_is)
    (case l31 => k_is)
    (case c31 => k_is)
    (case k31 => k_is)
    (case a32 => k_is)
    (case l32 => k_is)
    (case c32 => k_is)
    (case k32 => k_is)
    (case a33 => k_is)
    (case l33 => k_is)
    (case c33 => k_is)
    (case k33 => k_is)
    (case a34 => k_is)
    (case l34 => k_is)
    (case c34 => k_is)
    (case k34 => k_is)
    (case a35 => k_is)
    (case l35 => k_is)
    (case c35 => k_is)
    (case k35 => k_is)
    (case a36 => k_is)
    (case l36 => k_is)
    (case c36 => k_is)
    (case k36 => k_is)
    (case a37 => k_is)
    (case l37 => k_is)
    (case c37 => k_is)
    (case k37 => k_is)
    (case a38 => k_is)
    (case l38 => k_is)
    (case c38 => k_is)
    (case k38 => k_is)
    (case a39 => k_is)
    (case l39 => k_is)
    (case c39 => k_is)
    (case k39 => k_is)
    (case z_abs => k_is)
    (case z_all => k_is)
    (case z_any => k_is)
    (case z_bool => k_is)
    (case z_dict => k_is)
    (case z_divmod => k_is)
    (case z_enumerate => k_is)
    (case z_int => k_is)
    (case z_isinstance => k_is)
    (case z_len => k_is)
    (case z_list => k_is)
    (case z_max => k_is)
    (case z_min => k_is)
    (case z_range => k_is)
    (case z_reversed => k_is)
    (case z_sorted => k_is)
    (case z_str => k_is)
    (case z_sum => k_is)
    (case z_tuple => k_is)
    (case z_zip => k_is)
#print axioms PySem.Challenge.cw_bracketwords_k20_sums_of_repeated_words_holds

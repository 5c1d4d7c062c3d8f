import PyProof.Rows.All
import Wide.All
import OpenK.AllK
import Wide.FinOn
import Lean
import PyProof.EqAt
import PyProof.EqKinds
import PyProof.TupleCall
import PySem.Challenge.RW_netloft_k02_tips
set_option Elab.async false
set_option linter.all false
set_option maxRecDepth 100000
/-! THE HAND LAYER, for ints, bools, texts, own classes, DICTS (int and text keys), calls, loops. Paste it whole ahead of your own text; what your proof does not reach may be deleted. -/
namespace L2
open PySem PySem.Spec PyProof.Rows

/-- a key: an int or a str -/
abbrev Key := Sum Int Str
def keyIs : Key → Value → Bool
  | .inl k, v => Value.isInt k v
  | .inr x, v => Value.isStrOf x v
def keyH (w : World) : Key → Int
  | .inl k => hashInt k
  | .inr x => hashStr w x
theorem keyIs_shape : ∀ {k : Key} {v : Value}, keyIs k v = true → (∃ i t, k = Sum.inl i ∧ v = Value.int i t) ∨ (∃ x t, k = Sum.inr x ∧ v = Value.str x t)
  | .inl i, v, h => by
    obtain ⟨t, e⟩ := Value.isInt_shape (k := i) (v := v) h
    exact .inl ⟨i, t, rfl, e⟩
  | .inr x, v, h => by
    obtain ⟨t, e⟩ := Value.isStrOf_shape (x := x) (v := v) h
    exact .inr ⟨x, t, rfl, e⟩
theorem keyIs_int (i : Int) (t : Tok) : keyIs (.inl i) (.int i t) = true := by simp [keyIs, Value.isInt]
theorem keyIs_str (x : Str) (t : Tok) : keyIs (.inr x) (.str x t) = true := by simp [keyIs, Value.isStrOf]
theorem key_ll (a b : Int) : decide ((Sum.inl a : Key) = Sum.inl b) = (a == b) := by
  by_cases e : a = b
  · subst e; simp
  · have h : ¬ (Sum.inl a : Key) = Sum.inl b := fun q => e (Sum.inl.inj q)
    rw [decide_eq_false h]
    exact (beq_eq_false_iff_ne.mpr e).symm
theorem key_rr (a b : Str) : decide ((Sum.inr a : Key) = Sum.inr b) = decide (a = b) := by
  by_cases e : a = b
  · subst e; simp
  · have h : ¬ (Sum.inr a : Key) = Sum.inr b := fun q => e (Sum.inr.inj q)
    rw [decide_eq_false h, decide_eq_false e]
theorem key_lr (a : Int) (b : Str) : decide ((Sum.inl a : Key) = Sum.inr b) = false := decide_eq_false (fun q => nomatch q)
theorem key_rl (a : Str) (b : Int) : decide ((Sum.inr a : Key) = Sum.inl b) = false := decide_eq_false (fun q => nomatch q)

def mixKind (prog : Program) (w : World) : PySem.KeyKind prog w Key where
  is := keyIs
  hash := keyH w
  inj := fun v a b ha hb => by
    rcases keyIs_shape ha with ⟨i, t, rfl, rfl⟩ | ⟨x, t, rfl, rfl⟩
    · rcases keyIs_shape hb with ⟨j, u, rfl, e⟩ | ⟨y, u, rfl, e⟩
      · injection e with e1 _; rw [e1]
      · exact nomatch e
    · rcases keyIs_shape hb with ⟨j, u, rfl, e⟩ | ⟨y, u, rfl, e⟩
      · exact nomatch e
      · injection e with e1 _; rw [e1]
  byValue := fun k v h => by
    rcases keyIs_shape h with ⟨i, t, rfl, rfl⟩ | ⟨x, t, rfl, rfl⟩ <;> rfl
  pyHash := fun hv h => by
    rcases keyIs_shape hv with ⟨i, t, rfl, rfl⟩ | ⟨x, t, rfl, rfl⟩
    · exact wpAny_pyHash_int h
    · exact wpAny_pyHash_str h
  eqBool := fun hu hv h => by
    rcases keyIs_shape hu with ⟨i, t, rfl, rfl⟩ | ⟨x, t, rfl, rfl⟩
    · rcases keyIs_shape hv with ⟨j, u, rfl, rfl⟩ | ⟨y, u, rfl, rfl⟩
      · rw [key_ll] at h; exact wpAny_eqBool_int h
      · rw [key_lr] at h; exact SeqAt.EqAt.int_str i t y u _ _ _ _ h
    · rcases keyIs_shape hv with ⟨j, u, rfl, rfl⟩ | ⟨y, u, rfl, rfl⟩
      · rw [key_rl] at h; exact SeqAt.EqAt.str_int x t j u _ _ _ _ h
      · rw [key_rr] at h; exact wpAny_eqBool_str h
  «strs» := fun k x t v h => by
    rcases keyIs_shape h with ⟨i, u, rfl, e⟩ | ⟨y, u, rfl, e⟩
    · exact nomatch e
    · injection e with e1 _
      subst e1
      cases v <;> rfl

theorem mixKind_is (prog : Program) (w : World) (k : Key) (v : Value) : (mixKind prog w).is k v = keyIs k v := rfl
theorem mixKind_int (prog : Program) (w : World) (i : Int) (t : Tok) : (mixKind prog w).is (.inl i) (.int i t) = true := keyIs_int i t
theorem mixKind_str (prog : Program) (w : World) (x : Str) (t : Tok) : (mixKind prog w).is (.inr x) (.str x t) = true := keyIs_str x t
end L2

namespace L2
open PySem PySem.Spec PyProof.Rows

/-- a value, without the heap -/
inductive V where
  | non | bl (b : Bool) | int (i : Int) | str (x : Str) | byt (b : Array UInt8) | flt (b : UInt64) | ref (a : Addr) | ty (n : String)
  deriving DecidableEq

def RelV : V → Value → Prop
  | .non, u => u = Value.none
  | .bl b, u => u = Value.bool b
  | .int i, u => ∃ t, u = Value.int i t
  | .str x, u => ∃ t, u = Value.str x t
  | .byt b, u => ∃ t, u = Value.bytes b t
  | .flt b, u => ∃ t, u = Value.float b t
  | .ref a, u => u = Value.ref a
  | .ty n, u => u = Value.type n

abbrev Vals : List V → List Value → Prop := Paired RelV
theorem Vals.length {xs : List V} {us : List Value} (r : Vals xs us) : xs.length = us.length := Paired.length r
theorem Vals.get : ∀ {xs : List V} {us : List Value} {i : Nat} {x : V}, Vals xs us → xs[i]? = some x → ∃ u, us[i]? = some u ∧ RelV x u
  | _, _, _, _, .nil, e => by simp at e
  | _, _, 0, _, .cons r _, e => by simp at e; subst e; exact ⟨_, rfl, r⟩
  | _, _, i + 1, x, .cons _ t, e => by
    obtain ⟨u, h1, h2⟩ := Vals.get (i := i) (x := x) t (by simpa using e)
    exact ⟨u, by simpa using h1, h2⟩
theorem Vals.set {x : V} {u : Value} (r : RelV x u) : ∀ {xs : List V} {us : List Value} (i : Nat), Vals xs us → Vals (xs.set i x) (us.set i u)
  | _, _, _, .nil => .nil
  | _, _, 0, .cons _ t => .cons r t
  | _, _, i + 1, .cons q t => .cons q (Vals.set r i t)
theorem Vals.append : ∀ {xs ys : List V} {us ws : List Value}, Vals xs us → Vals ys ws → Vals (xs ++ ys) (us ++ ws)
  | _, _, _, _, .nil, s => s
  | _, _, _, _, .cons r t, s => .cons r (Vals.append t s)
theorem Vals.take : ∀ {xs : List V} {us : List Value} (n : Nat), Vals xs us → Vals (xs.take n) (us.take n)
  | _, _, 0, _ => .nil
  | _, _, _ + 1, .nil => .nil
  | _, _, n + 1, .cons r t => .cons r (Vals.take n t)
theorem Vals.drop : ∀ {xs : List V} {us : List Value} (n : Nat), Vals xs us → Vals (xs.drop n) (us.drop n)
  | _, _, 0, r => r
  | _, _, _ + 1, .nil => .nil
  | _, _, n + 1, .cons _ t => Vals.drop n t
theorem Vals.none_of : ∀ {xs : List V} {us : List Value} {i : Nat}, Vals xs us → xs[i]? = none → us[i]? = none := fun {xs us i} r e => by
  have h1 := r.length
  have h2 : xs.length ≤ i := List.getElem?_eq_none_iff.mp e
  exact List.getElem?_eq_none_iff.mpr (by omega)

def RelO : Option V → Option Value → Prop
  | some v, some u => RelV v u
  | none, none => True
  | _, _ => False
def KV {κ : Type} : List (κ × V) → List (κ × Value) → Prop := Paired fun (p : κ × V) (q : κ × Value) => p.1 = q.1 ∧ RelV p.2 q.2

/-- a key of a dict (00_mix): an int or a text -/
def kV : Key → V
  | .inl i => .int i
  | .inr x => .str x

/-- what stands at a tracked address -/
inductive HO where
  /-- a list -/
  | lst (xs : List V)
  /-- a tuple (never changes) -/
  | tup (xs : List V)
  /-- a dict whose keys are ints and texts; one whose keys are tuples of ints and texts (the empty one is both) -/
  | dK (kvs : List (Key × V)) | dT (kvs : List (List Key × V))
  /-- a set of ints: its members, its size -/
  | set (S : Int → Bool) (n : Nat)
  /-- an instance of the class at C, its dict at dx, its attributes -/
  | ins (C dx : Addr) (fs : List (Str × V))
  /-- the dict of the instance at x -/
  | own (x : Addr)
  /-- the dict of an exception -/
  | xd (fs : List (Str × V))
  /-- a bound method, f of x -/
  | met (f x : Addr)
  /-- a range object lo, lo + 1, .. below hi -/
  | rng (lo hi : Int)
  /-- a thing that is known to the object (the script; a dict while a loop walks it): read, never written while it is so -/
  | frz (o : Obj) (u : HO)
  /-- a code object's table -/
  | tbl (ps : Array Value)
  /-- any other thing, by what is true of its one object (a def of one's own: SetO a S n := HO.ext fun h => ..) -/
  | ext (φ : Heap → Prop)

abbrev Hp := Addr → Option HO
def upd (H : Hp) (a : Addr) (o : HO) : Hp := fun b => if b = a then some o else H b
theorem upd_same {H : Hp} {a : Addr} {o : HO} : upd H a o a = some o := by unfold upd; rw [if_pos rfl]
theorem upd_ne {H : Hp} {a b : Addr} {o : HO} (h : b ≠ a) : upd H a o b = H b := by unfold upd; rw [if_neg h]
theorem upd_upd {H : Hp} {a : Addr} {o u : HO} : upd (upd H a o) a u = upd H a u := by
  funext b; unfold upd; split <;> rfl
/-- two objects of different content stand apart -/
theorem ne_of {H : Hp} {a b : Addr} {o u : HO} (h : H a = some o) (h' : H b = some u) (d : o ≠ u) : a ≠ b := by
  intro e; subst e; rw [h] at h'; exact d (Option.some.inj h')
theorem ne_of_none {H : Hp} {a b : Addr} {o : HO} (h : H a = some o) (h' : H b = none) : a ≠ b := by
  intro e; subst e; rw [h] at h'; cases h'

section
variable (P : Program) (w : World)
def ObjOk (H : Hp) (h : Heap) (a : Addr) : HO → Prop
  | .lst xs => xs.length ≤ sizeLine ∧ ∃ (its : List Value) (n : Nat), Vals xs its ∧ h.get? a = some { cls := .type "list", data := .seq its.toArray n }
  | .tup xs => xs.length ≤ sizeLine ∧ ∃ its : List Value, Vals xs its ∧ IsTup h a its.toArray
  | .dK kvs => kvs.length ≤ sizeLine ∧ (a == sysModules) = false ∧ ∃ vs, KV kvs vs ∧ h.DictOf (mixKind P w) a vs
  | .dT kvs => kvs.length ≤ sizeLine ∧ (a == sysModules) = false ∧ ∃ xs : List (List Key × Addr × Value),
      Paired (fun (p : List Key × V) (q : List Key × Addr × Value) => p.1 = q.1 ∧ H q.2.1 = some (.tup (p.1.map kV)) ∧ RelV p.2 q.2.2) kvs xs ∧
      ∃ o es ep, h.get? a = some o ∧ o.ExactDict ∧ o.data = .dict es ep ∧ es.toList = xs.map (entryOfKey (tupleKind (mixKind P w))) ∧ (xs.map (·.1)).Nodup
  | .set S n => h.SetOf (intKind P w) a S n
  | .ins C dx fs => H dx = some (.own a) ∧ fs.length ≤ 1000 ∧ dx ≠ a ∧ h.get? a = some (PySem.W.instObj C dx) ∧
      ∃ mA, h.Ns1 dx mA ∧ (∀ f, RelO (fs.lookup f) (mA f)) ∧ PySem.Within mA (fs.map (·.1))
  | .own _ => ∃ o, h.get? a = some o
  | .xd fs => ∃ mA, h.Ns1 a mA ∧ ∀ f, RelO (fs.lookup f) (mA f)
  | .rng lo hi => ∃ t u v, h.get? a = some { cls := .type "range", data := .fields #[.int lo t, .int hi u, .int 1 v] }
  | .frz o u => h.get? a = some o ∧ ObjOk H h a u
  | .tbl ps => h.get? a = some { cls := .none, data := .fields ps }
  | .met f x => h.get? a = some (PySem.W.methodObj (.ref f) (.ref x))
  | .ext φ => φ h ∧ (∃ o, h.get? a = some o) ∧ ∀ h1 h2 : Heap, φ h1 → (∀ o, h1.get? a = some o → h2.get? a = some o) → φ h2
/-- the abstract heap is held -/
def HOk (H : Hp) (h : Heap) : Prop := ∀ a o, H a = some o → ObjOk P w H h a o
end

section
variable {P : Program} {w : World} {H H' : Hp} {h h' : Heap} {a : Addr} {o : HO}
theorem ObjOk.lt (x : ObjOk P w H h a o) : a < h.objs.size := by
  cases o with
  | lst xs => obtain ⟨_, _, _, _, e⟩ := x; exact Heap.lt_size e
  | tup xs => obtain ⟨_, _, _, p⟩ := x; exact p.lt
  | dK kvs => obtain ⟨_, _, _, _, o, _, _, e, _⟩ := x; exact Heap.lt_size e
  | dT kvs => obtain ⟨_, _, _, _, o, _, _, e, _⟩ := x; exact Heap.lt_size e
  | set S n => obtain ⟨o, _, _, _, e, _⟩ := x; exact Heap.lt_size e
  | ins C dx fs => obtain ⟨_, _, _, e, _⟩ := x; exact Heap.lt_size e
  | own y => obtain ⟨_, e⟩ := x; exact Heap.lt_size e
  | xd fs => obtain ⟨_, ⟨_, _, _, e, _⟩, _⟩ := x; exact Heap.lt_size e
  | rng lo hi => obtain ⟨_, _, _, e⟩ := x; exact Heap.lt_size e
  | frz ob u => obtain ⟨e, _⟩ := x; exact Heap.lt_size e
  | tbl ps => exact Heap.lt_size (show h.get? a = some _ from x)
  | met f y => exact Heap.lt_size (show h.get? a = some _ from x)
  | ext φ => obtain ⟨_, ⟨_, e⟩, _⟩ := x; exact Heap.lt_size e
theorem Paired.mapP {α β : Type} {F G : α → β → Prop} : ∀ {l₁ : List α} {l₂ : List β}, Paired F l₁ l₂ → (∀ a b, F a b → G a b) → Paired G l₁ l₂
  | _, _, .nil, _ => .nil
  | _, _, .cons r t, f => .cons (f _ _ r) (Paired.mapP t f)
theorem Paired.imp' {α β : Type} {F G : α → β → Prop} (f : ∀ a b, F a b → G a b) {l₁ : List α} {l₂ : List β} (r : Paired F l₁ l₂) : Paired G l₁ l₂ := Paired.mapP r f
/-- what an object's description leans on: its own object, its own dict, the tuples -/
theorem ObjOk.stay (x : ObjOk P w H h a o) (k : ∀ b u, (b = a ∨ H b = some (.own a)) → h.get? b = some u → h'.get? b = some u)
    (ho : ∀ b, H b = some (.own a) → H' b = some (.own a)) (ht : ∀ b xs, H b = some (.tup xs) → H' b = some (.tup xs)) : ObjOk P w H' h' a o := by
  induction o with
  | lst xs => obtain ⟨z, its, n, r, e⟩ := x; exact ⟨z, its, n, r, k _ _ (.inl rfl) e⟩
  | tup xs => obtain ⟨z, its, r, ob, e, c⟩ := x; exact ⟨z, its, r, ob, k _ _ (.inl rfl) e, c⟩
  | dK kvs => obtain ⟨z, y, vs, r, ob, es, ep, e, c⟩ := x; exact ⟨z, y, vs, r, ob, es, ep, k _ _ (.inl rfl) e, c⟩
  | dT kvs =>
    obtain ⟨z, y, xs, r, ob, es, ep, e, c⟩ := x
    exact ⟨z, y, xs, Paired.mapP r fun p q z => ⟨z.1, ht _ _ z.2.1, z.2.2⟩, ob, es, ep, k _ _ (.inl rfl) e, c⟩
  | set S n => obtain ⟨ob, es, ep, t, e, c⟩ := x; exact ⟨ob, es, ep, t, k _ _ (.inl rfl) e, c⟩
  | ins C dx fs =>
    obtain ⟨d, z, ne, e, mA, ⟨od, es, ep, e2, c⟩, r⟩ := x
    exact ⟨ho _ d, z, ne, k _ _ (.inl rfl) e, mA, ⟨od, es, ep, k _ _ (.inr d) e2, c⟩, r⟩
  | own y => obtain ⟨ob, e⟩ := x; exact ⟨ob, k _ _ (.inl rfl) e⟩
  | xd fs => obtain ⟨mA, ⟨od, es, ep, e, c⟩, r⟩ := x; exact ⟨mA, ⟨od, es, ep, k _ _ (.inl rfl) e, c⟩, r⟩
  | rng lo hi => obtain ⟨t, u, v, e⟩ := x; exact ⟨t, u, v, k _ _ (.inl rfl) e⟩
  | frz ob u ih => obtain ⟨e, q⟩ := x; exact ⟨k _ _ (.inl rfl) e, ih q⟩
  | tbl ps =>
    have e : h.get? a = some { cls := .none, data := .fields ps } := x
    show h'.get? a = some { cls := .none, data := .fields ps }
    exact k a _ (.inl rfl) e
  | met f y =>
    have e : h.get? a = some (PySem.W.methodObj (.ref f) (.ref y)) := x
    show h'.get? a = some (PySem.W.methodObj (.ref f) (.ref y))
    exact k a _ (.inl rfl) e
  | ext φ => obtain ⟨p, ⟨o, e⟩, st⟩ := x; exact ⟨st _ _ p fun o q => k _ _ (.inl rfl) q, ⟨o, k _ _ (.inl rfl) e⟩, st⟩
theorem HOk.lt (x : HOk P w H h) (e : H a = some o) : a < h.objs.size := (x a o e).lt
theorem HOk.fresh (x : HOk P w H h) (e : h.objs.size ≤ a) : H a = none := by
  cases q : H a with
  | none => rfl
  | some u => exact absurd (Nat.lt_of_lt_of_le (x.lt q) e) (Nat.lt_irrefl _)
/-- every object of the heap is kept -/
theorem HOk.kept (x : HOk P w H h) (k : ∀ b u, h.get? b = some u → h'.get? b = some u) : HOk P w H h' := fun a o e =>
  (x a o e).stay (fun b u _ q => k b u q) (fun _ q => q) fun _ _ q => q
/-- a new object is laid and tracked -/
theorem HOk.laid (x : HOk P w H h) (k : ∀ b u, h.get? b = some u → h'.get? b = some u) (hp : h.objs.size ≤ a) (new : ObjOk P w (upd H a o) h' a o) : HOk P w (upd H a o) h' := fun b u e => by
  have hn := x.fresh hp
  by_cases hb : b = a
  · subst hb; rw [upd_same] at e; cases e; exact new
  · rw [upd_ne hb] at e
    exact (x b u e).stay (fun c v _ q => k c v q) (fun c q => by rw [upd_ne (ne_of_none q hn)]; exact q) fun c xs q => by rw [upd_ne (ne_of_none q hn)]; exact q
end

/-- what may be read as u: it is u, or a known u -/
def Rd (H : Hp) (a : Addr) (u : HO) : Prop := H a = some u ∨ ∃ o, H a = some (.frz o u)
theorem Rd.of {H : Hp} {a : Addr} {u : HO} (h : H a = some u) : Rd H a u := .inl h
theorem Rd.ok {P : Program} {w : World} {H : Hp} {h : Heap} {a : Addr} {u : HO} (r : Rd H a u) (x : HOk P w H h) : ObjOk P w H h a u := by
  rcases r with r | ⟨o, r⟩
  · exact x a u r
  · obtain ⟨_, q⟩ := x a _ r
    exact q
/-- what may be written -/
def Mut : Option HO → Prop
  | some (.lst _) => True
  | some (.dK _) => True
  | some (.dT _) => True
  | some (.set _ _) => True
  | some (.ins _ _ _) => True
  | some (.ext _) => True
  | _ => False
section
variable {P : Program} {w : World} {H : Hp} {h h' : Heap} {x e : Addr} {o' : HO}
/-- the object at e is changed: x itself, or the dict of the instance x -/
theorem HOk.write (ok : HOk P w H h) (mu : Mut (H x)) (he : e = x ∨ H e = some (.own x)) (k : ∀ b u, b ≠ e → h.get? b = some u → h'.get? b = some u) (heo : ∃ u, h'.get? e = some u)
    (new : ObjOk P w (upd H x o') h' x o') : HOk P w (upd H x o') h' := fun b u q => by
  have nown : ∀ c y, H c = some (.own y) → c ≠ x := fun c y r z => by subst z; rw [r] at mu; exact mu
  have ntup : ∀ c xs, H c = some (.tup xs) → c ≠ x := fun c xs r z => by subst z; rw [r] at mu; exact mu
  by_cases hb : b = x
  · subst hb; rw [upd_same] at q; cases q; exact new
  · rw [upd_ne hb] at q
    by_cases hbe : b = e
    · have q' : H b = some (.own x) := by
        rcases he with z | z
        · exact absurd (hbe.trans z) hb
        · rw [hbe]; exact z
      rw [q] at q'; cases q'
      obtain ⟨v, hv⟩ := heo
      exact ⟨v, by rw [hbe]; exact hv⟩
    · refine (ok b u q).stay (fun c v hc r => k c v ?_ r) (fun c r => by rw [upd_ne (nown c b r)]; exact r) fun c xs r => by rw [upd_ne (ntup c xs r)]; exact r
      rcases hc with rfl | hc
      · exact hbe
      · rintro rfl
        rcases he with z | z
        · exact nown c b hc z
        · rw [hc] at z; cases z; exact hb rfl
end

/-! ### kept unless tracked; of the frames at fs (the callers') the slots may change (an exception that passes writes there); of the records at ex (iterators) nothing is said -/
structure Un (fs ex : List Addr) (H H' : Hp) (h h' : Heap) : Prop where
  keep : ∀ b o, h.get? b = some o → H b = none → b ∉ fs → b ∉ ex → h'.get? b = some o
  slot : ∀ b o, h.get? b = some o → H b = none → b ∈ fs → b ∉ ex → ∃ sl, h'.get? b = some { o with slots := sl }
  free : ∀ b o, h.get? b = some o → H b = none → b ∉ ex → H' b = none
  there : ∀ b o, h.get? b = some o → b ∉ ex → ∃ o', h'.get? b = some o'
  tups : ∀ b xs, H b = some (.tup xs) → H' b = some (.tup xs)
  frzs : ∀ b o u, H b = some (.frz o u) → H' b = some (.frz o u)
  tbls : ∀ b ps, H b = some (.tbl ps) → ∃ more, H' b = some (.tbl (ps ++ more))
section
variable {fs fs' ex ex' : List Addr} {H H1 H2 : Hp} {h h1 h2 h' : Heap} {a x e : Addr} {o : HO}
theorem Un.any (u : Un fs ex H H1 h h1) {b : Addr} {ob : Obj} (q : h.get? b = some ob) (n : H b = none) (hx : b ∉ ex) : ∃ sl, h1.get? b = some { ob with slots := sl } := by
  by_cases hb : b ∈ fs
  · exact u.slot b ob q n hb hx
  · exact ⟨ob.slots, u.keep b ob q n hb hx⟩
theorem Un.trans (a : Un fs ex H H1 h h1) (b : Un fs ex H1 H2 h1 h2) : Un fs ex H H2 h h2 where
  keep := fun c ob q n hc hx => b.keep c ob (a.keep c ob q n hc hx) (a.free c ob q n hx) hc hx
  slot := fun c ob q n hc hx => by
    obtain ⟨sl, e1⟩ := a.slot c ob q n hc hx
    obtain ⟨sl', e2⟩ := b.slot c _ e1 (a.free c ob q n hx) hc hx
    exact ⟨sl', e2⟩
  free := fun c ob q n hx => by
    obtain ⟨o', e1⟩ := a.there c ob q hx
    exact b.free c o' e1 (a.free c ob q n hx) hx
  there := fun c ob q hx => by
    obtain ⟨o', e1⟩ := a.there c ob q hx
    exact b.there c o' e1 hx
  tups := fun c xs q => b.tups c xs (a.tups c xs q)
  frzs := fun c ob xs q => b.frzs c ob xs (a.frzs c ob xs q)
  tbls := fun c ps q => by
    obtain ⟨m1, e1⟩ := a.tbls c ps q
    obtain ⟨m2, e2⟩ := b.tbls c _ e1
    exact ⟨m1 ++ m2, by rw [e2, Array.append_assoc]⟩
theorem Un.kept (k : ∀ b u, h.get? b = some u → h'.get? b = some u) : Un fs ex H H h h' :=
  ⟨fun b ob q _ _ _ => k b ob q, fun b ob q _ _ _ => ⟨ob.slots, k b ob q⟩, fun _ _ _ n _ => n, fun b ob q _ => ⟨ob, k b ob q⟩, fun _ _ q => q, fun _ _ _ q => q, fun _ ps q => ⟨#[], by rw [q]; simp⟩⟩
theorem Un.refl : Un fs ex H H h h := Un.kept fun _ _ q => q
theorem Un.laid (k : ∀ b u, h.get? b = some u → h'.get? b = some u) (hp : h.objs.size ≤ a) (hn : H a = none) : Un fs ex H (upd H a o) h h' where
  keep := fun b u q _ _ _ => k b u q
  slot := fun b u q _ _ _ => ⟨u.slots, k b u q⟩
  free := fun b u q n _ => by rw [upd_ne (Nat.ne_of_lt (Nat.lt_of_lt_of_le (Heap.lt_size q) hp))]; exact n
  there := fun b u q _ => ⟨u, k b u q⟩
  tups := fun b xs q => by rw [upd_ne (ne_of_none q hn)]; exact q
  frzs := fun b u xs q => by rw [upd_ne (ne_of_none q hn)]; exact q
  tbls := fun b ps q => ⟨#[], by rw [upd_ne (ne_of_none q hn), q]; simp⟩
theorem Un.write (mu : Mut (H x)) (he : e = x ∨ H e = some (.own x)) (k : ∀ b u, b ≠ e → h.get? b = some u → h'.get? b = some u) (heo : ∃ u, h'.get? e = some u) : Un fs ex H (upd H x o) h h' := by
  have hx : ∀ b, H b = none → b ≠ x := fun b n z => by subst z; rw [n] at mu; exact mu
  have hb : ∀ b, H b = none → b ≠ e := fun b n z => by
    subst z
    rcases he with r | r
    · exact hx b n r
    · rw [n] at r; cases r
  have hm : ∀ b u, H b = some u → ¬ Mut (some u) → b ≠ x := fun b u q nm z => by subst z; rw [q] at mu; exact nm mu
  refine ⟨fun b u q n _ _ => k b u (hb b n) q, fun b u q n _ _ => ⟨u.slots, k b u (hb b n) q⟩, fun b u q n _ => by rw [upd_ne (hx b n)]; exact n, fun b u q _ => ?_,
    fun b xs q => by rw [upd_ne (hm b _ q fun z => z)]; exact q, fun b u xs q => by rw [upd_ne (hm b _ q fun z => z)]; exact q, fun b ps q => ⟨#[], by rw [upd_ne (hm b _ q fun z => z), q]; simp⟩⟩
  by_cases hbe : b = e
  · subst hbe; exact heo
  · exact ⟨u, k b u hbe q⟩
theorem Un.mono (u : Un fs ex H H1 h h1) (hs : ∀ b ∈ fs, b ∈ fs') (hx : ∀ b ∈ ex, b ∈ ex') : Un fs' ex' H H1 h h1 :=
  ⟨fun b ob q n hb he => u.keep b ob q n (fun z => hb (hs b z)) fun z => he (hx b z), fun _ _ q n _ he => u.any q n fun z => he (hx _ z), fun b ob q n he => u.free b ob q n fun z => he (hx b z), fun b ob q he => u.there b ob q fun z => he (hx b z), u.tups, u.frzs, u.tbls⟩
end

/-! ### the heap without what is tracked -/
def trk (h : Heap) (H : Hp) : List Addr := (List.range h.objs.size).filter fun a => (H a).isSome
def hidT (h : Heap) (H : Hp) : Heap := PySem.W.hideAll h (trk h H)
theorem hidT_size (h : Heap) (H : Hp) : (hidT h H).objs.size = h.objs.size := PySem.W.hideAll_size _ _
theorem hidT_get {h : Heap} {H : Hp} {b : Addr} {o : Obj} (e : h.get? b = some o) (n : H b = none) : (hidT h H).get? b = some o :=
  PySem.W.hideAll_get _ e fun hm => by
    have q : (H b).isSome = true := (List.mem_filter.mp hm).2
    rw [n] at q; simp at q
theorem of_hidT {h : Heap} {H : Hp} {b : Addr} {o : Obj} (e : (hidT h H).get? b = some o) : h.get? b = some o ∧ H b = none := by
  have e' : h.get? b = some o := PySem.W.of_hideAll (trk h H) e
  refine ⟨e', ?_⟩
  cases q : H b with
  | none => rfl
  | some x =>
    have hm : b ∈ trk h H := List.mem_filter.mpr ⟨List.mem_range.mpr (Heap.lt_size e'), by simp [q]⟩
    have z : (hidT h H).get? b = none := PySem.W.hideAll_none (trk h H) hm
    rw [z] at e; cases e

/-! ### OpenK's ledger, filled with every new object but one -/
def allNews (g h : Heap) (L : Addr) : List (Addr × Obj) := (List.range h.objs.size).filterMap fun a => if a = L ∨ (g.get? a).isSome = true then none else (h.get? a).map fun o => (a, o)
theorem mem_allNews {g h : Heap} {L a : Addr} {o : Obj} (h1 : a ≠ L) (h2 : g.get? a = none) (h3 : h.get? a = some o) : (a, o) ∈ allNews g h L :=
  List.mem_filterMap.mpr ⟨a, List.mem_range.mpr (Heap.lt_size h3), by simp [h1, h2, h3]⟩
theorem of_mem_allNews {g h : Heap} {L : Addr} {p : Addr × Obj} (hp : p ∈ allNews g h L) : p.1 ≠ L ∧ g.get? p.1 = none ∧ h.get? p.1 = some p.2 := by
  obtain ⟨b, _, e⟩ := List.mem_filterMap.mp hp
  split at e
  · cases e
  · rename_i hn
    cases q : h.get? b with
    | none => rw [q] at e; simp at e
    | some u =>
      rw [q] at e
      simp only [Option.map_some, Option.some.injEq] at e
      subst e
      refine ⟨fun z => hn (.inl z), ?_, q⟩
      show g.get? b = none
      cases r : g.get? b with
      | none => rfl
      | some v => exact (hn (.inr (by simp [r]))).elim
def rest (g h : Heap) (L d : Addr) : List (Addr × Obj) := (allNews g h L).filter fun p => decide (p.1 ≠ d)
theorem rest_ne {g h : Heap} {L d : Addr} : ∀ p ∈ rest g h L d, p.1 ≠ d := fun p hp => of_decide_eq_true (List.mem_filter.mp hp).2
theorem mem_rest {g h : Heap} {L d a : Addr} {o : Obj} (h1 : a ≠ L) (h2 : g.get? a = none) (h3 : h.get? a = some o) (h4 : a ≠ d) : (a, o) ∈ rest g h L d :=
  List.mem_filter.mpr ⟨mem_allNews h1 h2 h3, decide_eq_true h4⟩
theorem news_all {g h : Heap} {L : Addr} : News g L h (allNews g h L) := fun p hp => let ⟨a, b, c⟩ := of_mem_allNews hp; ⟨c, a, b⟩
theorem news_at {g h : Heap} {L d : Addr} {o : Obj} (h1 : d ≠ L) (h2 : g.get? d = none) (h3 : h.get? d = some o) : News g L h ((d, o) :: rest g h L d) := fun p hp => by
  rcases List.mem_cons.mp hp with rfl | hp
  · exact ⟨h3, h1, h2⟩
  · exact news_all p (List.mem_filter.mp hp).1
/-- behind a rule that changed d alone: all else but the frame is kept -/
theorem kept_of_news {g h h' : Heap} {L d : Addr} {m : Str → Option Value} (k : ∀ b o, g.get? b = some o → h.get? b = some o) (F : Fr g L h' m) (N : News g L h' (rest g h L d)) :
    ∀ b o, b ≠ L → b ≠ d → h.get? b = some o → h'.get? b = some o := fun b o h1 h2 e => by
  cases q : g.get? b with
  | some u =>
    have := k b u q
    rw [e] at this; cases this
    exact F.keep b _ q
  | none => exact (N (b, o) (mem_rest h1 q e h2)).1
end L2

namespace L2
open PySem PySem.Spec PyProof.Rows

/-- the module's facts, over the base: the heap at the law's entry without what is tracked there -/
structure Mod (K : PySem.W.Frag) (mg : Str → Option Value) (base : Heap) : Prop where
  kin : K.In base
  glob : base.Ns mainGlobals mg
  blt : ∃ mb, base.Ns builtinsNs mb ∧ ∀ x : Str, x ≠ "__name__" → mb x = bootBuiltins x
  nolimit : base.NoLimit

/-- the context: a def's body (or a comprehension's block) running. base: fixed through the whole law; s₀, H₀: the entry; outer: the frames whose slots others may change (a def's callers); stack: all frames that run;
   ex: iterators that were made ahead of the entry and are walked here (a comprehension's); fn: the names whose cells were made at the entry (a def: all; a comprehension's block: its own); calm: not within an except suite; pn: pins that every state bears; xe: what is wanted of an exception that leaves the code -/
structure Cx where
  prog : Program
  w : World
  K : PySem.W.Frag
  mg : Str → Option Value
  base : Heap
  A : Around
  N : List Str
  s₀ : Shared
  H₀ : Hp
  env : Env
  outer : List Env
  stack : List Env
  ex : List Addr
  fn : Str → Bool
  calm : Bool
  pn : List (Addr × Obj)
  xe : Value → Shared → Prop
/-- the callers' frames -/
def frs (l : List Env) : List Addr := l.filterMap (·.frame)
abbrev Cx.fs (X : Cx) : List Addr := frs X.outer

def Vis (sc : Scope) (x : Str) : Prop := sc.names.lookup x = some .local ∨ sc.names.lookup x = some .cell ∨ sc.names.lookup x = some .free
def Loc (sc : Scope) (x : Str) : Prop := sc.names.lookup x = some .local ∨ sc.names.lookup x = some .cell
def Look (env : Env) (h : Heap) (m : Str → Option Value) (x : Str) (u : Value) : Prop :=
  (env.kindOf x = some .local ∧ m x = some u) ∨ ((env.kindOf x = some .cell ∨ env.kindOf x = some .free) ∧ ∃ c, env.cells.lookup x = some c ∧ h.IsCell c (some u))

structure Cx.Ok (X : Cx) : Prop where
  mod : Mod X.K X.mg X.base
  kind : X.env.scope.kind = .function
  glob : X.env.globals = mainGlobals
  blt : X.env.builtins = builtinsNs
  above : X.s₀.heap.objs.size ≤ X.env.locals
  inj : ∀ x y c, X.env.cells.lookup x = some c → X.env.cells.lookup y = some c → x = y
  has : ∀ x, (X.env.kindOf x = some .cell ∨ X.env.kindOf x = some .free) → ∃ c, X.env.cells.lookup x = some c
  cab : ∀ x c, X.fn x = true → X.env.cells.lookup x = some c → X.s₀.heap.objs.size ≤ c
  hd : X.calm = true → X.A.handled = none
  frames : X.A.frames = some X.stack
  stk : X.stack = X.outer ∨ (X.stack = X.env :: X.outer ∧ X.env.frame = some X.env.locals)
  exf : ∀ b ∈ X.ex, b ≠ X.env.locals ∧ ∀ x c, X.env.cells.lookup x = some c → c ≠ b
  bs : ∀ b o, X.base.get? b = some o → X.s₀.heap.get? b = some o ∧ X.H₀ b = none
  bsz : X.base.objs.size ≤ X.s₀.heap.objs.size
  noex : ∀ b o, X.base.get? b = some o → b ∉ X.ex
  exfs : ∀ b ∈ X.ex, b ∉ X.fs
  funs : X.s₀.heap.FunFrames X.base X.outer
  frf : ∀ b ∈ X.fs, X.H₀ b = none

structure Inv (X : Cx) (pins : List (Addr × Obj)) (σ : List (Option V)) (H : Hp) (s : Shared) : Prop where
  ok : X.Ok
  os : s.os = X.s₀.os
  bare : AllBare s.gens
  base : Un X.fs X.ex X.H₀ H X.s₀.heap s.heap
  loc : ∃ m, s.heap.Ns X.env.locals m ∧ ∀ (i : Nat) (x : Str) (v : V), X.N[i]? = some x → σ[i]? = some (some v) → Vis X.env.scope x → ∃ u, RelV v u ∧ Look X.env s.heap m x u
  cell : ∀ x c, X.env.cells.lookup x = some c → ∃ v, s.heap.IsCell c v
  free : H X.env.locals = none
  freeC : ∀ x c, X.env.cells.lookup x = some c → H c = none
  pin : ∀ p ∈ X.pn ++ pins, s.heap.get? p.1 = some p.2 ∧ H p.1 = none ∧ p.1 ≠ X.env.locals ∧ p.1 ∉ X.fs ∧ ∀ v, p.2.data ≠ .cell v
  hok : HOk X.prog X.w H s.heap
  len : σ.length = X.N.length

section
variable {X : Cx} {pins : List (Addr × Obj)} {σ : List (Option V)} {H H' : Hp} {s : Shared} {h' : Heap}

theorem Cx.Ok.nofr (ok : X.Ok) {b : Addr} {o : Obj} (e : X.base.get? b = some o) : b ∉ X.fs := fun hb => by
  have := (ok.funs.mem hb).1
  rw [e] at this; cases this
theorem Inv.bs (I : Inv X pins σ H s) : ∀ b o, X.base.get? b = some o → s.heap.get? b = some o ∧ H b = none := fun b o e =>
  ⟨I.base.keep b o (I.ok.bs b o e).1 (I.ok.bs b o e).2 (I.ok.nofr e) (I.ok.noex b o e), I.base.free b o (I.ok.bs b o e).1 (I.ok.bs b o e).2 (I.ok.noex b o e)⟩
theorem Inv.bk (I : Inv X pins σ H s) : ∀ b o, X.base.get? b = some o → s.heap.get? b = some o := fun b o e => (I.bs b o e).1
theorem Inv.mod (I : Inv X pins σ H s) : Mod X.K X.mg X.base := I.ok.mod
theorem Inv.kIn (I : Inv X pins σ H s) : X.K.In s.heap := I.ok.mod.kin.keeps I.bk
theorem Inv.nolimit (I : Inv X pins σ H s) : s.heap.NoLimit := I.ok.mod.nolimit.keeps I.bk
/-- the frame over the base: for OpenK's rules (K.In X.base is I.mod.kin) -/
theorem Inv.fr (I : Inv X pins σ H s) : ∃ m, Fr X.base X.env.locals s.heap m :=
  let ⟨m, hn, _⟩ := I.loc
  ⟨m, hn, I.bk, Nat.le_trans I.ok.bsz I.ok.above⟩
theorem Inv.lt (I : Inv X pins σ H s) : X.env.locals < s.heap.objs.size := let ⟨_, hn, _⟩ := I.loc; hn.lt
theorem Inv.sz (I : Inv X pins σ H s) : X.s₀.heap.objs.size ≤ s.heap.objs.size := Nat.le_trans I.ok.above (Nat.le_of_lt I.lt)
theorem Inv.nofs (I : Inv X pins σ H s) {a : Addr} (h : s.heap.objs.size ≤ a) : a ∉ X.fs := fun hb => by
  obtain ⟨_, o, ho, _⟩ := I.ok.funs.mem hb
  exact absurd (Nat.lt_of_lt_of_le (Heap.lt_size ho) (Nat.le_trans I.sz h)) (Nat.lt_irrefl _)
theorem Inv.cne (I : Inv X pins σ H s) : ∀ x c, X.env.cells.lookup x = some c → c ≠ X.env.locals := fun x c e z => by
  obtain ⟨v, o, ho, hd⟩ := I.cell x c e
  obtain ⟨m, ⟨o', es, ep, ho', hd', _⟩, _⟩ := I.loc
  rw [z, ho'] at ho; cases ho; rw [hd'] at hd; cases hd
theorem Inv.funs (I : Inv X pins σ H s) : s.heap.FunFrames X.base X.outer := by
  have all : ∀ (l : List Env), (∀ b ∈ frs l, b ∈ X.fs) → X.s₀.heap.FunFrames X.base l → s.heap.FunFrames X.base l := by
    intro l
    induction l with
    | nil => intro _ _; trivial
    | cons env r ih =>
      intro hs hl
      obtain ⟨hk, ⟨L, o, hf, hn, ho, hd⟩, hr⟩ := hl
      have hL : L ∈ X.fs := hs L (by unfold frs; rw [List.filterMap_cons, hf]; exact List.mem_cons_self)
      obtain ⟨sl, e⟩ := I.base.slot L o ho (I.ok.frf L hL) hL fun z => I.ok.exfs L z hL
      exact ⟨hk, ⟨L, _, hf, hn, e, hd⟩, ih (fun b hb => hs b (by unfold frs; rw [List.filterMap_cons, hf]; exact List.mem_cons_of_mem _ hb)) hr⟩
  exact all X.outer (fun _ hb => hb) I.ok.funs

/-- the frames that run, for a call -/
theorem Inv.stack (I : Inv X pins σ H s) : s.heap.FunFrames X.base X.stack := by
  rcases I.ok.stk with e | ⟨e, hf⟩
  · rw [e]; exact I.funs
  · rw [e]
    obtain ⟨m, hn, _⟩ := I.loc
    refine .cons (by rw [I.ok.kind]; decide) hf hn ?_ I.funs
    exact Heap.get?_none_of_le (Nat.le_trans I.ok.bsz I.ok.above)
theorem Inv.stkSub (I : Inv X pins σ H s) : ∀ b ∈ frs X.stack, b ∈ X.env.locals :: X.fs := fun b hb => by
  rcases I.ok.stk with e | ⟨e, hf⟩
  · rw [e] at hb; exact List.mem_cons_of_mem _ hb
  · rw [e] at hb
    unfold frs at hb
    rw [List.filterMap_cons, hf] at hb
    exact hb
theorem Inv.stkFree (I : Inv X pins σ H s) : ∀ b ∈ frs X.stack, H b = none := fun b hb => by
  rcases List.mem_cons.mp (I.stkSub b hb) with e | hb
  · rw [e]; exact I.free
  · obtain ⟨_, o, ho, _⟩ := I.ok.funs.mem hb
    exact I.base.free b o ho (I.ok.frf b hb) fun z => I.ok.exfs b z hb

/-- THE STEP: the untracked objects but the frame and the records at ch are kept (the callers' frames up to slots), the frame's map is kept, the new abstract heap is held -/
theorem Inv.step {g' : Array GenState} {t' : Nat} {d' : Drawn} {ch : List Addr} (I : Inv X pins σ H s)
    (hch : ∀ b ∈ ch, (b ∈ X.ex ∨ X.s₀.heap.objs.size ≤ b) ∧ b ≠ X.env.locals ∧ (∀ x c, X.env.cells.lookup x = some c → c ≠ b) ∧ ∀ p ∈ X.pn ++ pins, p.1 ≠ b)
    (keep : ∀ b o, b ≠ X.env.locals → b ∉ X.fs → b ∉ ch → s.heap.get? b = some o → H b = none → h'.get? b = some o)
    (slot : ∀ b o, b ≠ X.env.locals → b ∈ X.fs → b ∉ ch → s.heap.get? b = some o → H b = none → ∃ sl, h'.get? b = some { o with slots := sl }) (free : ∀ b o, b ∉ ch → s.heap.get? b = some o → H b = none → H' b = none)
    (there : ∀ b o, b ∉ ch → s.heap.get? b = some o → ∃ o', h'.get? b = some o')
    (tups : ∀ b xs, H b = some (.tup xs) → H' b = some (.tup xs)) (frzs : ∀ b o u, H b = some (.frz o u) → H' b = some (.frz o u)) (tbls : ∀ b ps, H b = some (.tbl ps) → ∃ more, H' b = some (.tbl (ps ++ more)))
    (ns : ∀ m, s.heap.Ns X.env.locals m → h'.Ns X.env.locals m) (hok : HOk X.prog X.w H' h') (hg : AllBare g') :
    Inv X pins σ H' { s with heap := h', gens := g', drawn := d', toks := t' } := by
  have neL : ∀ b o, X.s₀.heap.get? b = some o → b ≠ X.env.locals := fun b o e => Nat.ne_of_lt (Nat.lt_of_lt_of_le (Heap.lt_size e) I.ok.above)
  have neC : ∀ b o, X.s₀.heap.get? b = some o → b ∉ X.ex → b ∉ ch := fun b o e hx hb => by
    rcases (hch b hb).1 with z | z
    · exact hx z
    · exact absurd (Nat.lt_of_lt_of_le (Heap.lt_size e) z) (Nat.lt_irrefl _)
  have cellK : ∀ x c, X.env.cells.lookup x = some c → ∀ v, s.heap.IsCell c v → h'.IsCell c v := fun x c e v ⟨o, ho, hd⟩ => by
    have nch : c ∉ ch := fun z => (hch c z).2.2.1 x c e rfl
    by_cases hc : c ∈ X.fs
    · obtain ⟨sl, q⟩ := slot c o (I.cne x c e) hc nch ho (I.freeC x c e)
      exact ⟨_, q, hd⟩
    · exact ⟨o, keep c o (I.cne x c e) hc nch ho (I.freeC x c e), hd⟩
  refine ⟨I.ok, I.os, hg, ⟨fun b o e n hb hx => ?_, fun b o e n hb hx => ?_, fun b o e n hx => ?_, fun b o e hx => ?_, fun b xs e => tups b xs (I.base.tups b xs e), fun b o xs e => frzs b o xs (I.base.frzs b o xs e), fun b ps e => ?_⟩, ?_, fun x c e => ?_, ?_, fun x c e => ?_, fun p hp => ?_, hok, I.len⟩
  · exact keep b o (neL b o e) hb (neC b o e hx) (I.base.keep b o e n hb hx) (I.base.free b o e n hx)
  · obtain ⟨sl, e1⟩ := I.base.slot b o e n hb hx
    obtain ⟨sl', e2⟩ := slot b _ (neL b o e) hb (neC b o e hx) e1 (I.base.free b o e n hx)
    exact ⟨sl', e2⟩
  · obtain ⟨o', e1⟩ := I.base.there b o e hx
    exact free b o' (neC b o e hx) e1 (I.base.free b o e n hx)
  · obtain ⟨o', e1⟩ := I.base.there b o e hx
    exact there b o' (neC b o e hx) e1
  · obtain ⟨m1, e1⟩ := I.base.tbls b ps e
    obtain ⟨m2, e2⟩ := tbls b _ e1
    exact ⟨m1 ++ m2, by rw [e2, Array.append_assoc]⟩
  · obtain ⟨m, hn, hl⟩ := I.loc
    refine ⟨m, ns m hn, fun i x v e1 e2 e3 => ?_⟩
    obtain ⟨u, r, l⟩ := hl i x v e1 e2 e3
    refine ⟨u, r, ?_⟩
    rcases l with l | ⟨k, c, e, z⟩
    · exact .inl l
    · exact .inr ⟨k, c, e, cellK x c e _ z⟩
  · obtain ⟨v, z⟩ := I.cell x c e
    exact ⟨v, cellK x c e v z⟩
  · obtain ⟨m, ⟨o, _, _, ho, _⟩, _⟩ := I.loc
    exact free _ o (fun z => (hch _ z).2.1 rfl) ho I.free
  · obtain ⟨v, o, ho, hd⟩ := I.cell x c e
    exact free c o (fun z => (hch c z).2.2.1 x c e rfl) ho (I.freeC x c e)
  · obtain ⟨e, n, ne, nf, d⟩ := I.pin p hp
    have nch : p.1 ∉ ch := fun z => (hch p.1 z).2.2.2 p hp rfl
    exact ⟨keep p.1 p.2 ne nf nch e n, free p.1 p.2 nch e n, ne, nf, d⟩
/-- .. where the frame's own object is kept too -/
theorem Inv.un {t' : Nat} (I : Inv X pins σ H s) (u : Un X.fs [] H H' s.heap h') (hok : HOk X.prog X.w H' h') : Inv X pins σ H' { s with heap := h', toks := t' } := by
  obtain ⟨m, ⟨o, es, ep, ho, r⟩, _⟩ := id I.loc
  obtain ⟨sl, hL⟩ := u.any ho I.free (by simp)
  exact I.step (g' := s.gens) (d' := s.drawn) (ch := []) (fun _ z => nomatch z) (fun b o _ hb _ e n => u.keep b o e n hb (by simp)) (fun b o _ hb _ e n => u.slot b o e n hb (by simp)) (fun b o _ e n => u.free b o e n (by simp)) (fun b o _ e => u.there b o e (by simp)) u.tups u.frzs u.tbls (fun m' hm => by
    obtain ⟨o', es', ep', ho', r'⟩ := hm
    rw [ho] at ho'; cases ho'
    exact ⟨_, es', ep', hL, r'⟩) hok I.bare
/-- behind a call (or a comprehension's block): the slots of this frame may have changed too, the records at ch may have turned -/
theorem Inv.call {g' : Array GenState} {t' : Nat} {d' : Drawn} {ch : List Addr} (I : Inv X pins σ H s) (u : Un (frs X.stack) ch H H' s.heap h') (hok : HOk X.prog X.w H' h') (hg : AllBare g')
    (hch : ∀ b ∈ ch, (b ∈ X.ex ∨ X.s₀.heap.objs.size ≤ b) ∧ b ≠ X.env.locals ∧ (∀ x c, X.env.cells.lookup x = some c → c ≠ b) ∧ ∀ p ∈ X.pn ++ pins, p.1 ≠ b) :
    Inv X pins σ H' { s with heap := h', gens := g', drawn := d', toks := t' } := by
  obtain ⟨m, ⟨o, es, ep, ho, r⟩, _⟩ := id I.loc
  obtain ⟨sl, hL⟩ := u.any ho I.free fun z => (hch _ z).2.1 rfl
  exact I.step (ch := ch) hch (fun b o hL hb hc e n => u.keep b o e n (fun z => (List.mem_cons.mp (I.stkSub b z)).elim hL hb) hc) (fun b o _ _ hc e n => u.any e n hc) (fun b o hc e n => u.free b o e n hc) (fun b o hc e => u.there b o e hc) u.tups u.frzs u.tbls (fun m' hm => by
    obtain ⟨o', es', ep', ho', r'⟩ := hm
    rw [ho] at ho'; cases ho'
    exact ⟨_, es', ep', hL, r'⟩) hok hg
/-- an untracked record of ours (an iterator) has turned -/
theorem Inv.turned {t' : Nat} {it : Addr} (I : Inv X pins σ H s) (k : ∀ b o, b ≠ it → s.heap.get? b = some o → h'.get? b = some o) (hn : H it = none) (hL : it ≠ X.env.locals)
    (h1 : it ∈ X.ex ∨ X.s₀.heap.objs.size ≤ it) (h2 : ∀ x c, X.env.cells.lookup x = some c → c ≠ it) (h3 : ∀ p ∈ X.pn ++ pins, p.1 ≠ it) : Inv X pins σ H { s with heap := h', toks := t' } := by
  have nit : ∀ b u, H b = some u → b ≠ it := fun b u e z => by rw [z, hn] at e; cases e
  refine I.step (g' := s.gens) (d' := s.drawn) (ch := [it]) (fun b hb => ?_) (fun b o _ _ hc e _ => k b o (fun z => hc (by simp [z])) e) (fun b o _ _ hc e _ => ⟨o.slots, k b o (fun z => hc (by simp [z])) e⟩) (fun _ _ _ _ n => n)
    (fun b o hc e => ⟨o, k b o (fun z => hc (by simp [z])) e⟩) (fun _ _ e => e) (fun _ _ _ e => e) (fun b ps e => ⟨#[], by rw [e]; simp⟩) (fun m hm => ?_) (fun b u e => ?_) I.bare
  · have e : b = it := by simpa using hb
    subst e
    exact ⟨h1, hL, h2, h3⟩
  · obtain ⟨o, es, ep, ho, r⟩ := hm
    exact ⟨o, es, ep, k _ o (Ne.symm hL) ho, r⟩
  · refine (I.hok b u e).stay (fun c v hc q => k c v ?_ q) (fun _ q => q) fun _ _ q => q
    rcases hc with z | z
    · rw [z]; exact nit b u e
    · exact nit c _ z
theorem Inv.tok (I : Inv X pins σ H s) (t : Nat) : Inv X pins σ H { s with toks := t } := I.un (h' := s.heap) (t' := t) Un.refl I.hok
/-- all objects kept -/
theorem Inv.kept {t' : Nat} (I : Inv X pins σ H s) (k : ∀ b u, s.heap.get? b = some u → h'.get? b = some u) : Inv X pins σ H { s with heap := h', toks := t' } := I.un (Un.kept k) (I.hok.kept k)
/-- a new object laid and tracked -/
theorem Inv.laid {a : Addr} {o : HO} {t' : Nat} (I : Inv X pins σ H s) (k : ∀ b u, s.heap.get? b = some u → h'.get? b = some u) (hp : s.heap.objs.size ≤ a) (new : ObjOk X.prog X.w (upd H a o) h' a o) :
    Inv X pins σ (upd H a o) { s with heap := h', toks := t' } := I.un (Un.laid k hp (I.hok.fresh hp)) (I.hok.laid k hp new)
/-- an object written -/
theorem Inv.write {x e : Addr} {o : HO} {t' : Nat} (I : Inv X pins σ H s) (mu : Mut (H x)) (he : e = x ∨ H e = some (.own x)) (k : ∀ b u, b ≠ e → s.heap.get? b = some u → h'.get? b = some u) (heo : ∃ u, h'.get? e = some u)
    (new : ObjOk X.prog X.w (upd H x o) h' x o) : Inv X pins σ (upd H x o) { s with heap := h', toks := t' } := I.un (Un.write mu he k heo) (I.hok.write mu he k heo new)
/-- forgetting slots, pins -/
theorem Inv.weak {σ' : List (Option V)} (I : Inv X pins σ H s) (hl : σ'.length = σ.length) (w : ∀ (i : Nat) v, σ'[i]? = some (some v) → σ[i]? = some (some v)) : Inv X pins σ' H s :=
  ⟨I.ok, I.os, I.bare, I.base, let ⟨m, hn, hl'⟩ := I.loc; ⟨m, hn, fun i x v e1 e2 e3 => hl' i x v e1 (w i v e2) e3⟩, I.cell, I.free, I.freeC, I.pin, I.hok, hl.trans I.len⟩
theorem Inv.pins_of {pins' : List (Addr × Obj)} (I : Inv X pins σ H s) (h : ∀ p ∈ pins', s.heap.get? p.1 = some p.2 ∧ H p.1 = none ∧ p.1 ≠ X.env.locals ∧ p.1 ∉ X.fs ∧ ∀ v, p.2.data ≠ .cell v) : Inv X pins' σ H s :=
  ⟨I.ok, I.os, I.bare, I.base, I.loc, I.cell, I.free, I.freeC, fun p hp => (List.mem_append.mp hp).elim (fun z => I.pin p (List.mem_append_left _ z)) (h p), I.hok, I.len⟩

theorem nodup_ix {N : List Str} (hN : N.Nodup) {i j : Nat} {x : Str} (a : N[i]? = some x) (b : N[j]? = some x) : i = j := by
  obtain ⟨h1, e1⟩ := List.getElem?_eq_some_iff.mp a
  obtain ⟨h2, e2⟩ := List.getElem?_eq_some_iff.mp b
  exact (List.getElem_inj hN).mp (e1.trans e2.symm)

/-- a name is stored; what changed -/
theorem store_ok2 {M : Model} {A : Around} {E : Value → Shared → Prop} {i : Nat} {x : Str} {v : V} {u : Value} {Q : Unit → Shared → Prop} (I : Inv X pins σ H s) (hN : X.N.Nodup) (hi : X.N[i]? = some x) (hx : Loc X.env.scope x) (r : RelV v u)
    (h : ∀ s', Inv X pins (σ.set i (some v)) H s' → (∃ a, Heap.SameBut a s.heap s'.heap ∧ (a = X.env.locals ∨ X.env.cells.lookup x = some a)) → Q () s') (hf : X.fn x = true ∨ X.env.scope.names.lookup x = some .local := by first | exact .inl rfl | exact .inr rfl | assumption) : wpAny M A (storeName X.env x u) Q E s := by
  obtain ⟨m, hn, hl⟩ := id I.loc
  have hcls : (X.env.scope.kind == .class || (X.env.scope.kind == .module && X.env.locals != X.env.globals)) = false := by rw [I.ok.kind]; rfl
  have hiσ : i < σ.length := by rw [I.len]; exact (List.getElem?_eq_some_iff.mp hi).1
  have cne := I.cne
  have tracked : ∀ {a : Addr} {h' : Heap}, (∃ o, s.heap.get? a = some o ∧ H a = none) → Heap.SameBut a s.heap h' → HOk X.prog X.w H h' := fun {a h'} ha hs b ob e => by
    obtain ⟨_, _, hfree⟩ := ha
    refine (I.hok b ob e).stay (fun c w' hc q => (hs.2 c ?_).trans q) (fun _ q => q) fun _ _ q => q
    rintro rfl
    rcases hc with rfl | hc
    · rw [hfree] at e; cases e
    · rw [hfree] at hc; cases hc
  rcases hx with hk | hk
  · refine wpAny_storeName_local hk hn (fun h' hn' hs => ?_) hcls
    obtain ⟨oL, _, _, hoL, _⟩ := id hn
    refine h _ ⟨I.ok, I.os, I.bare, ⟨fun b o e n hb hx => ?_, fun b o e n hb hx => ?_, I.base.free, fun b o e hx => ?_, I.base.tups, I.base.frzs, I.base.tbls⟩, ⟨_, hn', fun j y v' e1 e2 e3 => ?_⟩, fun y c e => ?_, I.free, I.freeC, fun p hp => ?_, tracked ⟨oL, hoL, I.free⟩ hs, by simpa using I.len⟩ ⟨_, hs, .inl rfl⟩
    · exact (hs.2 b (Nat.ne_of_lt (Nat.lt_of_lt_of_le (Heap.lt_size e) I.ok.above))).trans (I.base.keep b o e n hb hx)
    · obtain ⟨sl, e1⟩ := I.base.slot b o e n hb hx
      exact ⟨sl, (hs.2 b (Nat.ne_of_lt (Nat.lt_of_lt_of_le (Heap.lt_size e) I.ok.above))).trans e1⟩
    · obtain ⟨o', e1⟩ := I.base.there b o e hx
      exact ⟨o', (hs.2 b (Nat.ne_of_lt (Nat.lt_of_lt_of_le (Heap.lt_size e) I.ok.above))).trans e1⟩
    · by_cases hj : j = i
      · subst hj
        rw [hi] at e1; cases e1
        rw [List.getElem?_set_self hiσ] at e2
        cases e2
        exact ⟨u, r, .inl ⟨hk, by simp⟩⟩
      · rw [List.getElem?_set_ne (Ne.symm hj)] at e2
        obtain ⟨u', r', q⟩ := hl j y v' e1 e2 e3
        refine ⟨u', r', ?_⟩
        rcases q with ⟨k, e⟩ | ⟨k, c, e, z⟩
        · refine .inl ⟨k, ?_⟩
          have : y ≠ x := fun e => hj (nodup_ix hN e1 (e ▸ hi))
          simp [this, e]
        · exact .inr ⟨k, c, e, z.sameBut hs (cne y c e)⟩
    · obtain ⟨w', z⟩ := I.cell y c e
      exact ⟨w', z.sameBut hs (cne y c e)⟩
    · obtain ⟨e, n, ne, nf, d⟩ := I.pin p hp
      exact ⟨(hs.2 p.1 ne).trans e, n, ne, nf, d⟩
  · have hfn : X.fn x = true := by
      rcases hf with z | z
      · exact z
      · rw [z] at hk; cases hk
    obtain ⟨c, hc⟩ := I.ok.has x (.inl hk)
    obtain ⟨w', z⟩ := I.cell x c hc
    refine wpAny_storeName_cell I.ok.kind hk hc z (fun h' hc' hs => ?_)
    obtain ⟨oc, hoc, hocd⟩ := id z
    refine h { s with heap := h' } ⟨I.ok, I.os, I.bare, ⟨fun b o e n hb hx => ?_, fun b o e n hb hx => ?_, I.base.free, fun b o e hx => ?_, I.base.tups, I.base.frzs, I.base.tbls⟩, ⟨m, hn.sameBut hs (Ne.symm (cne x c hc)), fun j y v' e1 e2 e3 => ?_⟩, fun y c' e => ?_, I.free, I.freeC, fun p hp => ?_, tracked ⟨oc, hoc, I.freeC x c hc⟩ hs, by simpa using I.len⟩ ⟨c, hs, .inr hc⟩
    · exact (hs.2 b (Nat.ne_of_lt (Nat.lt_of_lt_of_le (Heap.lt_size e) (I.ok.cab x c hfn hc)))).trans (I.base.keep b o e n hb hx)
    · obtain ⟨sl, e1⟩ := I.base.slot b o e n hb hx
      exact ⟨sl, (hs.2 b (Nat.ne_of_lt (Nat.lt_of_lt_of_le (Heap.lt_size e) (I.ok.cab x c hfn hc)))).trans e1⟩
    · obtain ⟨o', e1⟩ := I.base.there b o e hx
      exact ⟨o', (hs.2 b (Nat.ne_of_lt (Nat.lt_of_lt_of_le (Heap.lt_size e) (I.ok.cab x c hfn hc)))).trans e1⟩
    · by_cases hj : j = i
      · subst hj
        rw [hi] at e1; cases e1
        rw [List.getElem?_set_self hiσ] at e2
        cases e2
        exact ⟨u, r, .inr ⟨.inl hk, c, hc, hc'⟩⟩
      · rw [List.getElem?_set_ne (Ne.symm hj)] at e2
        obtain ⟨u', r', q⟩ := hl j y v' e1 e2 e3
        refine ⟨u', r', ?_⟩
        rcases q with q | ⟨k, c', e, z'⟩
        · exact .inl q
        · refine .inr ⟨k, c', e, z'.sameBut hs ?_⟩
          rintro rfl
          exact hj (nodup_ix hN e1 (I.ok.inj _ _ _ e hc ▸ hi))
    · by_cases hcc : c' = c
      · subst hcc; exact ⟨_, hc'⟩
      · obtain ⟨w2, z2⟩ := I.cell y c' e
        exact ⟨w2, z2.sameBut hs hcc⟩
    · obtain ⟨e, n, ne, nf, d⟩ := I.pin p hp
      refine ⟨(hs.2 p.1 ?_).trans e, n, ne, nf, d⟩
      intro q
      rw [q, hoc] at e
      have q' : oc = p.2 := Option.some.inj e
      exact d w' (by rw [← q']; exact hocd)
theorem store_ok {M : Model} {A : Around} {E : Value → Shared → Prop} {i : Nat} {x : Str} {v : V} {u : Value} {Q : Unit → Shared → Prop} (I : Inv X pins σ H s) (hN : X.N.Nodup) (hi : X.N[i]? = some x) (hx : Loc X.env.scope x) (r : RelV v u)
    (h : ∀ s', Inv X pins (σ.set i (some v)) H s' → Q () s') (hf : X.fn x = true ∨ X.env.scope.names.lookup x = some .local := by first | exact .inl rfl | exact .inr rfl | assumption) : wpAny M A (storeName X.env x u) Q E s :=
  store_ok2 I hN hi hx r (fun s' I' _ => h s' I') hf
/-- behind a call or a block, the state as it is -/
theorem Inv.call' {s' : Shared} {ch : List Addr} (I : Inv X pins σ H s) (ho : s'.os = s.os) (u : Un (frs X.stack) ch H H' s.heap s'.heap) (hok : HOk X.prog X.w H' s'.heap) (hg : AllBare s'.gens)
    (hch : ∀ b ∈ ch, (b ∈ X.ex ∨ X.s₀.heap.objs.size ≤ b) ∧ b ≠ X.env.locals ∧ (∀ x c, X.env.cells.lookup x = some c → c ≠ b) ∧ ∀ p ∈ X.pn ++ pins, p.1 ≠ b) : Inv X pins σ H' s' := by
  obtain ⟨h', g', d', t', o'⟩ := s'
  have e : o' = s.os := ho
  subst e
  exact I.call (g' := g') (t' := t') (d' := d') u hok hg hch
end

/-! ### the judgements -/
/-- an exception: its class, its own dict's address (where it has one), the abstract heap behind it -/
abbrev XK := Value → Option Addr → Hp → Prop
abbrev St := List (Option V)
abbrev VK := V → Hp → Prop
/-- an expression's reading; a test's; an argument list's -/
abbrev TE := St → Hp → VK → Prop
abbrev TT := St → Hp → (Bool → Hp → Prop) → Prop
abbrev TA := St → Hp → (List V → Hp → Prop) → Prop
/-- what is wanted behind a statement -/
structure Ends where
  nx : St → Hp → Prop
  rt : VK
  bk : St → Hp → Prop := fun _ _ => False
  ct : St → Hp → Prop := fun _ _ => False
abbrev TS := Ends → St → Hp → Prop

def EP (X : Cx) (pins : List (Addr × Obj)) (σ : St) (Q : VK) (u : Value) (s' : Shared) : Prop := ∃ v H', Inv X pins σ H' s' ∧ RelV v u ∧ Q v H'
def TP (X : Cx) (pins : List (Addr × Obj)) (σ : St) (Q : Bool → Hp → Prop) (b : Bool) (s' : Shared) : Prop := ∃ H', Inv X pins σ H' s' ∧ Q b H'
def AP (X : Cx) (pins : List (Addr × Obj)) (σ : St) (Q : List V → Hp → Prop) (us : List Value) (s' : Shared) : Prop := ∃ vs H', Inv X pins σ H' s' ∧ Vals vs us ∧ Q vs H'
def SP (X : Cx) (pins : List (Addr × Obj)) (D : Ends) (f : Flow) (s' : Shared) : Prop :=
  match f with
  | .next => ∃ σ' H', Inv X pins σ' H' s' ∧ D.nx σ' H'
  | .brk => ∃ σ' H', Inv X pins σ' H' s' ∧ D.bk σ' H'
  | .cont => ∃ σ' H', Inv X pins σ' H' s' ∧ D.ct σ' H'
  | .ret u => ∃ v σ' H', Inv X pins σ' H' s' ∧ RelV v u ∧ D.rt v H'

def PE (X : Cx) (e : Expr) (t : TE) : Prop :=
  ∀ (pins : List (Addr × Obj)) (s : Shared) (σ : St) (H : Hp) (Q : VK), Inv X pins σ H s → t σ H Q → wpAny (model X.prog X.w) X.A (eval e X.env) (EP X pins σ Q) X.xe s
def PT (X : Cx) (e : Expr) (t : TT) : Prop :=
  ∀ (pins : List (Addr × Obj)) (s : Shared) (σ : St) (H : Hp) (Q : Bool → Hp → Prop), Inv X pins σ H s → t σ H Q → wpAny (model X.prog X.w) X.A (isTrue e X.env (eval e X.env)) (TP X pins σ Q) X.xe s
/-- a test whatever its 'whole' is (and, or) -/
def PW (X : Cx) (e : Expr) (t : TT) : Prop :=
  ∀ (whole : Sem Value) (pins : List (Addr × Obj)) (s : Shared) (σ : St) (H : Hp) (Q : Bool → Hp → Prop), Inv X pins σ H s → t σ H Q → wpAny (model X.prog X.w) X.A (isTrue e X.env whole) (TP X pins σ Q) X.xe s
theorem PW.pt {X : Cx} {e : Expr} {t : TT} (h : PW X e t) : PT X e t := h _
/-- an argument list (no star), from the left -/
def PA (X : Cx) (es : List Expr) (t : TA) : Prop :=
  ∀ (pos : Pos) (pins : List (Addr × Obj)) (s : Shared) (σ : St) (H : Hp) (Q : List V → Hp → Prop), Inv X pins σ H s → t σ H Q → wpAny (model X.prog X.w) X.A (spliced (backTo pos (starEach es X.env))) (AP X pins σ Q) X.xe s
def PS (X : Cx) (st : Stmt) (t : TS) : Prop :=
  ∀ (pins : List (Addr × Obj)) (s : Shared) (σ : St) (H : Hp) (D : Ends), Inv X pins σ H s → t D σ H → wpAny (model X.prog X.w) X.A (exec st X.env) (SP X pins D) X.xe s
def PSs (X : Cx) (st : List Stmt) (t : TS) : Prop :=
  ∀ (pins : List (Addr × Obj)) (s : Shared) (σ : St) (H : Hp) (D : Ends), Inv X pins σ H s → t D σ H → wpAny (model X.prog X.w) X.A (execs st X.env) (SP X pins D) X.xe s
/-- weaken the end -/
theorem thn {α : Type} {t : Sem α} {Q Q' : α → Shared → Prop} {M : Model} {A : Around} {E : Value → Shared → Prop} {s : Shared} (h : wpAny M A t Q E s) (hQ : ∀ a s, Q a s → Q' a s) : wpAny M A t Q' E s := wpAny_mono h hQ fun _ _ x => x
end L2

namespace L2
open PySem PySem.Spec PyProof.Rows
section
variable {X : Cx}

/-- two expressions in a row -/
theorem bin {a b : Expr} {ta tb : TE} (ha : PE X a ta) (hb : PE X b tb) {pins : List (Addr × Obj)} {s : Shared} {σ : St} {H : Hp} {R : V → V → Hp → Prop} (I : Inv X pins σ H s) (h : ta σ H fun x H1 => tb σ H1 fun y H2 => R x y H2)
    {α : Type} {Q : α → Shared → Prop} {f : Value → Value → Sem α}
    (hf : ∀ v u s2 x y H2, Inv X pins σ H2 s2 → RelV x v → RelV y u → R x y H2 → wpAny (model X.prog X.w) X.A (f v u) Q X.xe s2) :
    wpAny (model X.prog X.w) X.A (eval a X.env) (fun v s₁ => wpAny (model X.prog X.w) X.A (eval b X.env) (fun u s₂ => wpAny (model X.prog X.w) X.A (f v u) Q X.xe s₂) X.xe s₁) X.xe s := by
  refine thn (ha pins s σ H _ I h) fun v s1 ⟨x, H1, I1, r1, q1⟩ => ?_
  refine thn (hb pins s1 σ H1 _ I1 q1) fun u s2 ⟨y, H2, I2, r2, q2⟩ => ?_
  exact hf v u s2 x y H2 I2 r1 r2 q2

/-! ### names and constants -/
def tVar (i : Nat) : TE := fun σ H Q => ∃ v, σ[i]? = some (some v) ∧ Q v H
def tC (v : V) : TE := fun _ H Q => Q v H
theorem pe_var {i : Nat} {x : Str} {pos : Pos} (hN : X.N[i]? = some x) (hv : Vis X.env.scope x) (hd : (x == ("__debug__" : Str)) = false := by decide) (hcd : (x == ("__classdict__" : Str)) = false := by decide) : PE X (.Name x pos) (tVar i) := by
  intro pins s σ H Q I h
  obtain ⟨v, e, h⟩ := h
  obtain ⟨m, hn, hl⟩ := I.loc
  obtain ⟨u, r, l⟩ := hl i x v hN e hv
  have fin : EP X pins σ Q u s := ⟨v, H, I, r, h⟩
  rcases l with ⟨hk, hm⟩ | ⟨hk, c, hc, hcell⟩
  · exact wpAny_Name (wpAny_loadName_local I.ok.kind hk hn hm fin) hd
  · rcases hk with hk | hk
    · exact wpAny_Name (wpAny_loadName_cell I.ok.kind hk hc hcell fin) hd
    · exact wpAny_Name (wpAny_loadName_free I.ok.kind hk hc hcell fin hcd) hd
theorem pe_int {i j pos} : PE X (.Constant (.int i) j pos) (tC (.int i)) := fun _ _ _ H _ I h => wpAny_Constant_int ⟨.int i, H, I.tok _, ⟨_, rfl⟩, h⟩
theorem pe_bl {b j pos} : PE X (.Constant (.bool b) j pos) (tC (.bl b)) := fun _ _ _ H _ I h => Constant_bool ⟨.bl b, H, I, rfl, h⟩
theorem pe_non {j pos} : PE X (.Constant .none j pos) (tC .non) := fun _ _ _ H _ I h => Constant_none ⟨.non, H, I, rfl, h⟩
theorem pe_str {x j pos} : PE X (.Constant (.str x) j pos) (tC (.str x)) := fun _ _ _ H _ I h => Calls.Constant_str ⟨.str x, H, I.tok _, ⟨_, rfl⟩, h⟩

/-- a global name of the def -/
def Gl (X : Cx) (x : Str) : Prop := X.env.kindOf x = some .globalImplicit
theorem ld_glob {E : Value → Shared → Prop} {pins : List (Addr × Obj)} {s : Shared} {σ : St} {H : Hp} {x : Str} {u : Value} {pos : Pos} {Q : Value → Shared → Prop} (I : Inv X pins σ H s) (hg : Gl X x) (hm : X.mg x = some u) (h : Q u s)
    (hd : (x == ("__debug__" : Str)) = false := by decide) : wpAny (model X.prog X.w) X.A (eval (.Name x pos) X.env) Q E s :=
  Calls.Name_function_global I.ok.kind hg (Calls.loadGlobal_global (by rw [I.ok.glob]; exact I.mod.glob.keeps I.bk) hm h) hd
theorem ld_blt {E : Value → Shared → Prop} {pins : List (Addr × Obj)} {s : Shared} {σ : St} {H : Hp} {x : Str} {u : Value} {pos : Pos} {Q : Value → Shared → Prop} (I : Inv X pins σ H s) (hg : Gl X x) (hm : X.mg x = none) (hv : bootBuiltins x = some u) (h : Q u s)
    (hn : x ≠ "__name__" := by decide) (hd : (x == ("__debug__" : Str)) = false := by decide) : wpAny (model X.prog X.w) X.A (eval (.Name x pos) X.env) Q E s := by
  obtain ⟨mb, h1, h2⟩ := I.mod.blt
  exact Calls.Name_function_global I.ok.kind hg (Calls.loadGlobal_builtin (by rw [I.ok.glob]; exact I.mod.glob.keeps I.bk) hm (by rw [I.ok.blt]; exact h1.keeps I.bk) ((h2 x hn).trans hv) h) hd
/-- a module's constant, a class, a function, as a value -/
theorem pe_glob {x : Str} {v : V} {u : Value} {pos : Pos} (hg : Gl X x) (hm : X.mg x = some u) (r : RelV v u) (hd : (x == ("__debug__" : Str)) = false := by decide) : PE X (.Name x pos) (tC v) :=
  fun _ _ _ H _ I h => ld_glob I hg hm ⟨v, H, I, r, h⟩ hd
theorem pe_bltn {x : Str} {v : V} {u : Value} {pos : Pos} (hg : Gl X x) (hm : X.mg x = none) (hv : bootBuiltins x = some u) (r : RelV v u) (hn : x ≠ "__name__" := by decide) (hd : (x == ("__debug__" : Str)) = false := by decide) : PE X (.Name x pos) (tC v) :=
  fun _ _ _ H _ I h => ld_blt I hg hm hv ⟨v, H, I, r, h⟩ hn hd

/-! ### arithmetic -/
/-- two ints -/
def t2I (ta tb : TE) (k : Int → Int → Hp → Prop) : St → Hp → Prop := fun σ H => ta σ H fun x H1 => tb σ H1 fun y H2 => ∃ i j, x = .int i ∧ y = .int j ∧ k i j H2
def tAdd (ta tb : TE) : TE := fun σ H Q => t2I ta tb (fun i j H2 => Q (.int (i + j)) H2) σ H
def tSub (ta tb : TE) : TE := fun σ H Q => t2I ta tb (fun i j H2 => Q (.int (i - j)) H2) σ H
/-- the left factor below 2^64 -/
def tMul (ta tb : TE) : TE := fun σ H Q => t2I ta tb (fun i j H2 => (-(2 ^ 64) < i ∧ i < 2 ^ 64) ∧ Q (.int (i * j)) H2) σ H
variable {a b : Expr} {ta tb : TE} {pos : Pos}
theorem pe_add (ha : PE X a ta) (hb : PE X b tb) : PE X (.BinOp a .Add b pos) (tAdd ta tb) := by
  intro pins s σ H Q I h
  refine wpAny_BinOp (bin ha hb I h fun v u s2 x y H2 I2 rx ry q => ?_)
  obtain ⟨i, j, rfl, rfl, q⟩ := q
  obtain ⟨t, rfl⟩ := rx
  obtain ⟨t', rfl⟩ := ry
  exact add_int ⟨.int _, H2, I2.tok _, ⟨_, rfl⟩, q⟩
theorem pe_sub (ha : PE X a ta) (hb : PE X b tb) : PE X (.BinOp a .Sub b pos) (tSub ta tb) := by
  intro pins s σ H Q I h
  refine wpAny_BinOp (bin ha hb I h fun v u s2 x y H2 I2 rx ry q => ?_)
  obtain ⟨i, j, rfl, rfl, q⟩ := q
  obtain ⟨t, rfl⟩ := rx
  obtain ⟨t', rfl⟩ := ry
  exact sub_int ⟨.int _, H2, I2.tok _, ⟨_, rfl⟩, q⟩
theorem pe_mul (ha : PE X a ta) (hb : PE X b tb) : PE X (.BinOp a .Mult b pos) (tMul ta tb) := by
  intro pins s σ H Q I h
  refine wpAny_BinOp (bin ha hb I h fun v u s2 x y H2 I2 rx ry q => ?_)
  obtain ⟨i, j, rfl, rfl, ⟨q1, q2⟩, q⟩ := q
  obtain ⟨t, rfl⟩ := rx
  obtain ⟨t', rfl⟩ := ry
  exact mul_int ⟨.int _, H2, I2.tok _, ⟨_, rfl⟩, q⟩ (.of_left (intBits_le_64 q1 q2))

/-! ### comparisons -/
def PC (X : Cx) (op : CmpOp) (a b : Expr) (t : TE) : Prop :=
  ∀ (pins : List (Addr × Obj)) (s : Shared) (σ : St) (H : Hp) (Q : VK), Inv X pins σ H s → t σ H Q →
    wpAny (model X.prog X.w) X.A (eval a X.env) (fun v s₁ => wpAny (model X.prog X.w) X.A (eval b X.env) (fun u s₂ => wpAny (model X.prog X.w) X.A (compareOp op v u) (EP X pins σ Q) X.xe s₂) X.xe s₁) X.xe s
theorem nobehind (b : Expr) {op : CmpOp} (h : op ≠ .In) (h2 : op ≠ .NotIn) : behindInMarks op b = false := by
  have e1 : (op == CmpOp.In) = false := by cases op <;> first | rfl | exact absurd rfl h
  have e2 : (op == CmpOp.NotIn) = false := by cases op <;> first | rfl | exact absurd rfl h2
  cases b <;> simp [behindInMarks, e1, e2]
def tCmp (p : Int → Int → Bool) (ta tb : TE) : TE := fun σ H Q => t2I ta tb (fun i j H2 => Q (.bl (p i j)) H2) σ H
abbrev tLt : TE → TE → TE := tCmp fun i j => decide (i < j)
abbrev tLe : TE → TE → TE := tCmp fun i j => decide (i ≤ j)
abbrev tGt : TE → TE → TE := tCmp fun i j => decide (j < i)
abbrev tGe : TE → TE → TE := tCmp fun i j => decide (j ≤ i)
abbrev tEqI : TE → TE → TE := tCmp fun i j => decide (i = j)
abbrev tNeI : TE → TE → TE := tCmp fun i j => !decide (i = j)
/-- a comparison of two ints, by its rule -/
theorem pc_int {op : CmpOp} {p : Int → Int → Bool} (ha : PE X a ta) (hb : PE X b tb)
    (rule : ∀ (i j : Int) (t u : Tok) (Q : Value → Shared → Prop) (s : Shared), Q (.bool (p i j)) s → wpAny (model X.prog X.w) X.A (compareOp op (.int i t) (.int j u)) Q X.xe s) : PC X op a b (tCmp p ta tb) := by
  intro pins s σ H Q I h
  refine bin ha hb I h fun v u s2 x y H2 I2 rx ry q => ?_
  obtain ⟨i, j, rfl, rfl, q⟩ := q
  obtain ⟨t, rfl⟩ := rx
  obtain ⟨t', rfl⟩ := ry
  exact rule i j t t' _ s2 ⟨.bl _, H2, I2, rfl, q⟩
theorem pc_lt (ha : PE X a ta) (hb : PE X b tb) : PC X .Lt a b (tLt ta tb) := pc_int ha hb fun _ _ _ _ _ _ h => lt_int h
theorem pc_le (ha : PE X a ta) (hb : PE X b tb) : PC X .LtE a b (tLe ta tb) := pc_int ha hb fun _ _ _ _ _ _ h => le_int h
theorem pc_gt (ha : PE X a ta) (hb : PE X b tb) : PC X .Gt a b (tGt ta tb) := pc_int ha hb fun _ _ _ _ _ _ h => gt_int h
theorem pc_ge (ha : PE X a ta) (hb : PE X b tb) : PC X .GtE a b (tGe ta tb) := pc_int ha hb fun _ _ _ _ _ _ h => ge_int h
theorem pc_eqI (ha : PE X a ta) (hb : PE X b tb) : PC X .Eq a b (tEqI ta tb) := pc_int ha hb fun _ _ _ _ _ _ h => eq_int (by rw [Bool.beq_eq_decide_eq]; exact h)
theorem pc_neI (ha : PE X a ta) (hb : PE X b tb) : PC X .NotEq a b (tNeI ta tb) := pc_int ha hb fun _ _ _ _ _ _ h => ne_int (by rw [bne, Bool.beq_eq_decide_eq]; exact h)
/-- is None -/
def tIsN (ta : TE) : TE := fun σ H Q => ta σ H fun x H1 => Q (.bl (decide (x = .non))) H1
def tNotN (ta : TE) : TE := fun σ H Q => ta σ H fun x H1 => Q (.bl (!decide (x = .non))) H1
theorem RelV.none_iff {x : V} {v : Value} (r : RelV x v) : (v == Value.none) = decide (x = .non) := by
  cases x with
  | non => cases r; rfl
  | bl _ => cases r; rfl
  | int _ => obtain ⟨t, rfl⟩ := r; rfl
  | str _ => obtain ⟨t, rfl⟩ := r; rfl
  | byt _ => obtain ⟨t, rfl⟩ := r; rfl
  | flt _ => obtain ⟨t, rfl⟩ := r; rfl
  | ref _ => cases r; rfl
  | ty _ => cases r; rfl
theorem pc_isN {j pos'} (ha : PE X a ta) : PC X .Is a (.Constant .none j pos') (tIsN ta) := by
  intro pins s σ H Q I h
  refine thn (ha pins s σ H _ I h) fun v s1 ⟨x, H1, I1, r1, q1⟩ => ?_
  exact Constant_none (is_none_gen ⟨.bl _, H1, I1, by rw [r1.none_iff]; rfl, q1⟩)
theorem pc_notN {j pos'} (ha : PE X a ta) : PC X .IsNot a (.Constant .none j pos') (tNotN ta) := by
  intro pins s σ H Q I h
  refine thn (ha pins s σ H _ I h) fun v s1 ⟨x, H1, I1, r1, q1⟩ => ?_
  exact Constant_none (isnot_none_gen ⟨.bl _, H1, I1, by rw [r1.none_iff]; rfl, q1⟩)
/-- a comparison as a value, as a test -/
def tB (t : TE) : TT := fun σ H Q => t σ H fun x H1 => ∃ c, x = .bl c ∧ Q c H1
theorem pe_cmp {op : CmpOp} {t : TE} (h : PC X op a b t) (h1 : behindInMarks op b = false := by first | exact nobehind _ (by decide) (by decide) | rfl) : PE X (.Compare a [op] [b] pos) t := fun pins s σ H Q I hw => wpAny_Compare1 (h pins s σ H Q I hw) h1
theorem pt_cmp {op : CmpOp} {t : TE} (h : PC X op a b t) (h1 : behindInMarks op b = false := by first | exact nobehind _ (by decide) (by decide) | rfl) : PT X (.Compare a [op] [b] pos) (tB t) := by
  intro pins s σ H Q I hw
  refine wpAny_isTrue_Compare1 (thn (h pins s σ H _ I hw) fun v s1 h1 => thn h1 fun u s2 h2 => thn h2 fun c s3 ⟨x, H1, I1, r1, q1⟩ => ?_) h1
  obtain ⟨d, rfl, q⟩ := q1
  cases r1
  exact wpAny_truthy_bool ⟨H1, I1, q⟩
/-- an expression whose value is a bool, as a test -/
theorem pt_val {e : Expr} {t : TE} (h : PE X e t) (he : ∀ whole, isTrue e X.env whole = (do let v ← whole; standAt e.pos; holding [v] (truthy v)) := by intro _; rfl) : PT X e (tB t) := by
  intro pins s σ H Q I hw
  refine isTrue_plain (thn (h pins s σ H _ I hw) fun v s1 ⟨x, H1, I1, r1, q1⟩ => ?_) (he _)
  obtain ⟨d, rfl, q⟩ := q1
  cases r1
  exact wpAny_truthy_bool ⟨H1, I1, q⟩

/-! ### and, or, not -/
variable {tA tB' : TT} {rest : List Expr}
def tAnd (t u : TT) : TT := fun σ H Q => t σ H fun c H1 => if c = true then u σ H1 Q else Q false H1
def tOr (t u : TT) : TT := fun σ H Q => t σ H fun c H1 => if c = true then Q true H1 else u σ H1 Q
def tNot (t : TT) : TT := fun σ H Q => t σ H fun c H1 => Q (!c) H1
theorem pw_and1 (ha : PT X a tA) : PW X (.BoolOp .And [a] pos) tA := by
  intro wh pins s σ H Q I h
  refine isTrue_and (thn (ha pins s σ H Q I h) fun c s1 e => ?_)
  cases c with
  | true => exact isTrue_and_nil e
  | false => exact e
theorem pw_or1 (ha : PT X a tA) : PW X (.BoolOp .Or [a] pos) tA := by
  intro wh pins s σ H Q I h
  refine isTrue_or (thn (ha pins s σ H Q I h) fun c s1 e => ?_)
  cases c with
  | false => exact isTrue_or_nil e
  | true => exact e
theorem pw_and (ha : PT X a tA) (hb : PW X (.BoolOp .And (b :: rest) pos) tB') : PW X (.BoolOp .And (a :: b :: rest) pos) (tAnd tA tB') := by
  intro wh pins s σ H Q I h
  refine isTrue_and (thn (ha pins s σ H _ I h) fun c s1 ⟨H1, I1, q1⟩ => ?_)
  cases c with
  | true => exact hb wh pins s1 σ H1 Q I1 q1
  | false => exact ⟨H1, I1, q1⟩
theorem pw_or (ha : PT X a tA) (hb : PW X (.BoolOp .Or (b :: rest) pos) tB') : PW X (.BoolOp .Or (a :: b :: rest) pos) (tOr tA tB') := by
  intro wh pins s σ H Q I h
  refine isTrue_or (thn (ha pins s σ H _ I h) fun c s1 ⟨H1, I1, q1⟩ => ?_)
  cases c with
  | true => exact ⟨H1, I1, q1⟩
  | false => exact hb wh pins s1 σ H1 Q I1 q1
theorem pt_not (ha : PT X a tA) : PT X (.UnaryOp .Not a pos) (tNot tA) := by
  intro pins s σ H Q I h
  exact isTrue_not (ha pins s σ H (fun c H1 => Q (!c) H1) I h)
/-- .. as values (bools) -/
def tAndV (ta tb : TE) : TE := fun σ H Q => ta σ H fun x H1 => ∃ c, x = .bl c ∧ if c = true then tb σ H1 Q else Q (.bl false) H1
def tOrV (ta tb : TE) : TE := fun σ H Q => ta σ H fun x H1 => ∃ c, x = .bl c ∧ if c = true then Q (.bl true) H1 else tb σ H1 Q
def tNotV (ta : TE) : TE := fun σ H Q => ta σ H fun x H1 => ∃ c, x = .bl c ∧ Q (.bl (!c)) H1
theorem pe_one {op} {t : TE} (h : PE X a t) : PE X (.BoolOp op [a] pos) t := fun pins s σ H Q I hw => BoolOp_one (h pins s σ H Q I hw)
theorem pe_and (ha : PE X a ta) (hb : PE X (.BoolOp .And (b :: rest) pos) tb) : PE X (.BoolOp .And (a :: b :: rest) pos) (tAndV ta tb) := by
  intro pins s σ H Q I h
  refine BoolOp_and (thn (ha pins s σ H _ I h) fun v s1 ⟨x, H1, I1, r1, q1⟩ => ?_)
  obtain ⟨c, rfl, q1⟩ := q1
  cases r1
  refine wpAny_truthy_bool ?_
  cases c with
  | true => exact hb pins s1 σ H1 Q I1 q1
  | false => exact ⟨.bl false, H1, I1, rfl, q1⟩
theorem pe_or (ha : PE X a ta) (hb : PE X (.BoolOp .Or (b :: rest) pos) tb) : PE X (.BoolOp .Or (a :: b :: rest) pos) (tOrV ta tb) := by
  intro pins s σ H Q I h
  refine BoolOp_or (thn (ha pins s σ H _ I h) fun v s1 ⟨x, H1, I1, r1, q1⟩ => ?_)
  obtain ⟨c, rfl, q1⟩ := q1
  cases r1
  refine wpAny_truthy_bool ?_
  cases c with
  | false => exact hb pins s1 σ H1 Q I1 q1
  | true => exact ⟨.bl true, H1, I1, rfl, q1⟩
theorem pe_not (ha : PE X a ta) : PE X (.UnaryOp .Not a pos) (tNotV ta) := by
  intro pins s σ H Q I h
  refine UnaryOp_ (thn (ha pins s σ H _ I h) fun v s1 ⟨x, H1, I1, r1, q1⟩ => ?_)
  obtain ⟨c, rfl, q1⟩ := q1
  cases r1
  exact not_of (wpAny_truthy_bool ⟨.bl (!c), H1, I1, rfl, q1⟩)
/-- a if t else b -/
def tIf (t : TT) (ta tb : TE) : TE := fun σ H Q => t σ H fun c H1 => if c = true then ta σ H1 Q else tb σ H1 Q
theorem pe_ifExp {c : Expr} (hc : PT X c tA) (ha : PE X a ta) (hb : PE X b tb) : PE X (.IfExp c a b pos) (tIf tA ta tb) := by
  intro pins s σ H Q I h
  refine wpAny_IfExp (thn (hc pins s σ H _ I h) fun d s1 ⟨H1, I1, q1⟩ => ?_)
  cases d with
  | true => exact ha pins s1 σ H1 Q I1 q1
  | false => exact hb pins s1 σ H1 Q I1 q1
end
end L2

namespace L2
open PySem PySem.Spec PyProof.Rows

/-! ### a list, a tuple that is read: tracked, frozen, or an object of the module -/
def SqL (K : PySem.W.Frag) (H : Hp) (a : Addr) (xs : List V) : Prop :=
  Rd H a (.lst xs) ∨
    ∃ (o : Obj) (its : Array Value) (n : Nat), K.lookup a = some o ∧ o.cls = .type "list" ∧ o.dict = none ∧ o.data = .seq its n ∧ its.size ≤ sizeLine ∧ Vals xs its.toList
def SqT (K : PySem.W.Frag) (H : Hp) (a : Addr) (xs : List V) : Prop :=
  Rd H a (.tup xs) ∨
    ∃ (o : Obj) (its : Array Value) (n : Nat), K.lookup a = some o ∧ o.cls = .type "tuple" ∧ o.data = .seq its n ∧ its.size ≤ sizeLine ∧ Vals xs its.toList
def absV : Value → Option V
  | .none => some .non
  | .bool b => some (.bl b)
  | .int i _ => some (.int i)
  | .str x _ => some (.str x)
  | .bytes b _ => some (.byt b)
  | .float b _ => some (.flt b)
  | .ref a => some (.ref a)
  | .type n => some (.ty n)
  | _ => none
theorem RelV.abs {x : V} {u : Value} (r : RelV x u) : absV u = some x := by
  cases x with
  | non => cases r; rfl
  | bl _ => cases r; rfl
  | int _ => obtain ⟨t, rfl⟩ := r; rfl
  | str _ => obtain ⟨t, rfl⟩ := r; rfl
  | byt _ => obtain ⟨t, rfl⟩ := r; rfl
  | flt _ => obtain ⟨t, rfl⟩ := r; rfl
  | ref _ => cases r; rfl
  | ty _ => cases r; rfl
theorem RelV.inj {x y : V} {u : Value} (r : RelV x u) (q : RelV y u) : x = y := Option.some.inj (r.abs.symm.trans q.abs)
theorem Vals.inj : ∀ {xs ys : List V} {us : List Value}, Vals xs us → Vals ys us → xs = ys
  | _, _, _, .nil, .nil => rfl
  | _, _, _, .cons r t, .cons r' t' => by rw [r.inj r', Vals.inj t t']
section
variable {X : Cx} {pins : List (Addr × Obj)} {σ : St} {H : Hp} {s : Shared} {a : Addr} {xs ys : List V}
theorem SqL.of {K : PySem.W.Frag} (h : H a = some (.lst xs)) : SqL K H a xs := .inl (.inl h)
theorem SqT.of {K : PySem.W.Frag} (h : H a = some (.tup xs)) : SqT K H a xs := .inl (.inl h)
theorem Inv.list (I : Inv X pins σ H s) (h : SqL X.K H a xs) : ∃ its : List Value, Vals xs its ∧ PlainL s.heap a its.toArray ∧ xs.length ≤ sizeLine := by
  rcases h with h | ⟨o, its, n, hk, hc, hd, hs, hz, r⟩
  · obtain ⟨z, its, n, r, e⟩ := h.ok I.hok
    exact ⟨its, r, ⟨_, n, e, rfl, rfl, rfl⟩, z⟩
  · refine ⟨its.toList, r, ⟨o, n, I.kIn a o hk, hc, hd, by simpa using hs⟩, ?_⟩
    have e := r.length
    simp only [Array.length_toList] at e
    omega
theorem Inv.tuple (I : Inv X pins σ H s) (h : SqT X.K H a xs) : ∃ its : List Value, Vals xs its ∧ IsTup s.heap a its.toArray ∧ xs.length ≤ sizeLine := by
  rcases h with h | ⟨o, its, n, hk, hc, hs, hz, r⟩
  · obtain ⟨z, its, r, p⟩ := h.ok I.hok
    exact ⟨its, r, p, z⟩
  · refine ⟨its.toList, r, ⟨o, I.kIn a o hk, hc, n, by simpa using hs⟩, ?_⟩
    have e := r.length
    simp only [Array.length_toList] at e
    omega
theorem Inv.list_inj (I : Inv X pins σ H s) (h : SqL X.K H a xs) (h' : SqL X.K H a ys) : xs = ys := by
  obtain ⟨its, r, ⟨o, n, e, _, _, d⟩, _⟩ := I.list h
  obtain ⟨its', r', ⟨o', n', e', _, _, d'⟩, _⟩ := I.list h'
  rw [e] at e'; cases e'
  rw [d] at d'
  injection d' with d1 _
  have : its = its' := by simpa using congrArg Array.toList d1
  subst this
  exact r.inj r'
theorem Inv.tuple_inj (I : Inv X pins σ H s) (h : SqT X.K H a xs) (h' : SqT X.K H a ys) : xs = ys := by
  obtain ⟨its, r, ⟨o, e, _, n, d⟩, _⟩ := I.tuple h
  obtain ⟨its', r', ⟨o', e', _, n', d'⟩, _⟩ := I.tuple h'
  rw [e] at e'; cases e'
  rw [d] at d'
  injection d' with d1 _
  have : its = its' := by simpa using congrArg Array.toList d1
  subst this
  exact r.inj r'
end

/-! ### another wish about exceptions -/
abbrev Cx.wish (X : Cx) (E : Value → Shared → Prop) : Cx := { X with xe := E }
/-- no exception leaves -/
abbrev Cx.nox (X : Cx) : Cx := X.wish fun _ _ => False
theorem Cx.Ok.wish {X : Cx} (ok : X.Ok) (E : Value → Shared → Prop) : (X.wish E).Ok :=
  ⟨ok.mod, ok.kind, ok.glob, ok.blt, ok.above, ok.inj, ok.has, ok.cab, ok.hd, ok.frames, ok.stk, ok.exf, ok.bs, ok.bsz, ok.noex, ok.exfs, ok.funs, ok.frf⟩
theorem Cx.Ok.unwish {X : Cx} {E : Value → Shared → Prop} (ok : (X.wish E).Ok) : X.Ok :=
  ⟨ok.mod, ok.kind, ok.glob, ok.blt, ok.above, ok.inj, ok.has, ok.cab, ok.hd, ok.frames, ok.stk, ok.exf, ok.bs, ok.bsz, ok.noex, ok.exfs, ok.funs, ok.frf⟩
section
variable {X : Cx} {pins : List (Addr × Obj)} {σ : St} {H : Hp} {s : Shared} {E : Value → Shared → Prop}
theorem Inv.wish (I : Inv X pins σ H s) (E : Value → Shared → Prop) : Inv (X.wish E) pins σ H s := ⟨I.ok.wish E, I.os, I.bare, I.base, I.loc, I.cell, I.free, I.freeC, I.pin, I.hok, I.len⟩
theorem Inv.unwish (I : Inv (X.wish E) pins σ H s) : Inv X pins σ H s := ⟨I.ok.unwish, I.os, I.bare, I.base, I.loc, I.cell, I.free, I.freeC, I.pin, I.hok, I.len⟩
theorem SP.unwish {D : Ends} {f : Flow} {s' : Shared} (h : SP (X.wish E) pins D f s') : SP X pins D f s' := by
  cases f with
  | next => obtain ⟨σ', H', I, q⟩ := h; exact ⟨σ', H', I.unwish, q⟩
  | brk => obtain ⟨σ', H', I, q⟩ := h; exact ⟨σ', H', I.unwish, q⟩
  | cont => obtain ⟨σ', H', I, q⟩ := h; exact ⟨σ', H', I.unwish, q⟩
  | ret u => obtain ⟨v, σ', H', I, r, q⟩ := h; exact ⟨v, σ', H', I.unwish, r, q⟩
theorem PE.nox {e : Expr} {t : TE} (h : PE X.nox e t) : PE X e t := fun pins s σ H Q I hw =>
  wpAny_mono (h pins s σ H Q (I.wish _) hw) (fun _ _ ⟨v, H', I', r, q⟩ => ⟨v, H', I'.unwish, r, q⟩) fun _ _ z => False.elim z
theorem PT.nox {e : Expr} {t : TT} (h : PT X.nox e t) : PT X e t := fun pins s σ H Q I hw =>
  wpAny_mono (h pins s σ H Q (I.wish _) hw) (fun _ _ ⟨H', I', q⟩ => ⟨H', I'.unwish, q⟩) fun _ _ z => False.elim z
theorem PSs.nox {st : List Stmt} {t : TS} (h : PSs X.nox st t) : PSs X st t := fun pins s σ H D I hw =>
  wpAny_mono (h pins s σ H D (I.wish _) hw) (fun _ _ q => q.unwish) fun _ _ z => False.elim z
end

/-! ### blocks and small statements -/
section
variable {X : Cx} {st : Stmt} {rest : List Stmt} {t u : TS} {e : Expr} {te : TE} {pos : Pos}
def tNext : TS := fun D σ H => D.nx σ H
def tSeq (t u : TS) : TS := fun D σ H => t { D with nx := u D } σ H
theorem pss_nil : PSs X [] tNext := fun _ _ σ H _ I h => wpAny_execs_nil ⟨σ, H, I, h⟩
theorem pss_cons (h1 : PS X st t) (h2 : PSs X rest u) : PSs X (st :: rest) (tSeq t u) := by
  intro pins s σ H D I h
  refine wpAny_execs_cons (thn (h1 pins s σ H { D with nx := u D } I h) fun f s1 q => ?_)
  cases f with
  | next =>
    obtain ⟨σ', H', I', q⟩ := q
    exact h2 pins s1 σ' H' D I' q
  | ret v => exact q
  | brk => exact q
  | cont => exact q
theorem pss_one (h1 : PS X st t) : PSs X [st] t := by
  intro pins s σ H D I h
  refine wpAny_execs_cons (thn (h1 pins s σ H D I h) fun f s1 q => ?_)
  cases f with
  | next => exact wpAny_execs_nil q
  | ret v => exact q
  | brk => exact q
  | cont => exact q
def tBreak : TS := fun D σ H => D.bk σ H
def tCont : TS := fun D σ H => D.ct σ H
theorem ps_pass : PS X (.Pass pos) tNext := fun _ _ σ H _ I h => wpAny_Pass ⟨σ, H, I, h⟩
theorem ps_break : PS X (.Break pos) tBreak := fun _ _ σ H _ I h => wpAny_Break ⟨σ, H, I, h⟩
theorem ps_continue : PS X (.Continue pos) tCont := fun _ _ σ H _ I h => wpAny_Continue ⟨σ, H, I, h⟩
/-- in a def's body nothing is shown -/
theorem Inv.quiet {pins : List (Addr × Obj)} {σ : St} {H : Hp} {s : Shared} (I : Inv X pins σ H s) : interactive X.env = false := by simp [interactive, I.ok.kind]
/-- a docstring -/
theorem ps_doc {x j pos pos'} : PS X (.Expr (.Constant (.str x) j pos) pos') tNext := fun _ s σ H _ I h => wpAny_Expr (Calls.Constant_str (show SP X _ _ .next { s with toks := s.toks + 1 } from ⟨σ, H, I.tok _, h⟩)) I.quiet
/-- an expression whose value is dropped -/
def tDrop (te : TE) : TS := fun D σ H => te σ H fun _ H1 => D.nx σ H1
theorem ps_expr (he : PE X e te) (hs : swapsWith e none pos.line X.env = pure false := by rfl) : PS X (.Expr e pos) (tDrop te) := by
  intro pins s σ H D I h
  exact wpAny_Expr_any (thn (he pins s σ H _ I h) fun v s1 ⟨x, H1, I1, r1, q1⟩ => ⟨σ, H1, I1, q1⟩) I.quiet hs
def tRet (te : TE) : TS := fun D σ H => te σ H D.rt
theorem ps_ret (he : PE X e te) : PS X (.Return (some e) pos) (tRet te) := by
  intro pins s σ H D I h
  exact wpAny_Return_some (thn (he pins s σ H _ I h) fun v s1 ⟨x, H1, I1, r1, q1⟩ => ⟨x, σ, H1, I1, r1, q1⟩)
def tRetN : TS := fun D _ H => D.rt .non H
theorem ps_retN : PS X (.Return none pos) tRetN := fun _ _ σ H _ I h => wpAny_Return_none ⟨.non, σ, H, I, rfl, h⟩
def tIfS (c : TT) (t u : TS) : TS := fun D σ H => c σ H fun b H1 => if b = true then t D σ H1 else u D σ H1
theorem ps_if {c : Expr} {a b : List Stmt} {tc : TT} (hc : PT X c tc) (ha : PSs X a t) (hb : PSs X b u) : PS X (.If c a b pos) (tIfS tc t u) := by
  intro pins s σ H D I h
  refine wpAny_If (thn (hc pins s σ H _ I h) fun d s1 ⟨H1, I1, q1⟩ => ?_)
  cases d with
  | true => exact ha pins s1 σ H1 D I1 q1
  | false => exact hb pins s1 σ H1 D I1 q1
/-- code that the proof never comes to -/
def tNever : TS := fun _ _ _ => False
theorem ps_never : PS X st tNever := fun _ _ _ _ _ _ h => h.elim
theorem pss_never {sts : List Stmt} : PSs X sts tNever := fun _ _ _ _ _ _ h => h.elim
end

/-! ### targets -/
abbrev TG := V → St → Hp → (St → Hp → Prop) → Prop
abbrev TGs := List V → St → Hp → (St → Hp → Prop) → Prop
def PG (X : Cx) (target : Expr) (t : TG) : Prop :=
  ∀ (pins : List (Addr × Obj)) (s : Shared) (σ : St) (H : Hp) (v : V) (u : Value) (Q : St → Hp → Prop), Inv X pins σ H s → RelV v u → t v σ H Q →
    wpAny (model X.prog X.w) X.A (assign target X.env u) (fun _ s' => ∃ σ' H', Inv X pins σ' H' s' ∧ Q σ' H') X.xe s
/-- several targets, one after another -/
def PGs (X : Cx) (ts : List Expr) (t : TGs) : Prop :=
  ∀ (pins : List (Addr × Obj)) (s : Shared) (σ : St) (H : Hp) (vs : List V) (us : List Value) (Q : St → Hp → Prop), Inv X pins σ H s → Vals vs us → t vs σ H Q →
    wpAny (model X.prog X.w) X.A (assignInOrder ((assignEach ts X.env).map (·.2)) us) (fun _ s' => ∃ σ' H', Inv X pins σ' H' s' ∧ Q σ' H') X.xe s
/-- o[i] = v, by values -/
abbrev TSet := V → V → V → Hp → (Hp → Prop) → Prop
def PSet (X : Cx) (t : TSet) : Prop :=
  ∀ (pins : List (Addr × Obj)) (s : Shared) (σ : St) (H : Hp) (o i v : V) (ov iv u : Value) (Q : Hp → Prop), Inv X pins σ H s → RelV o ov → RelV i iv → RelV v u → t o i v H Q →
    wpAny (model X.prog X.w) X.A (setItem ov iv u) (fun _ s' => ∃ H', Inv X pins σ H' s' ∧ Q H') X.xe s
/-- a op= b, by values -/
abbrev TIp := V → V → Hp → VK → Prop
def PIp (X : Cx) (op : Operator) (t : TIp) : Prop :=
  ∀ (pins : List (Addr × Obj)) (s : Shared) (σ : St) (H : Hp) (x y : V) (v u : Value) (Q : VK), Inv X pins σ H s → RelV x v → RelV y u → t x y H Q →
    wpAny (model X.prog X.w) X.A (inplaceOp op v u) (EP X pins σ Q) X.xe s
section
variable {X : Cx} {pos : Pos}
def gName (i : Nat) : TG := fun v σ H Q => Q (σ.set i (some v)) H
theorem pg_name {i : Nat} {x : Str} (hN : X.N.Nodup) (hi : X.N[i]? = some x) (hx : Loc X.env.scope x) (hf : X.fn x = true ∨ X.env.scope.names.lookup x = some .local := by first | exact .inl rfl | exact .inr rfl | assumption) : PG X (.Name x pos) (gName i) := by
  intro pins s σ H v u Q I r h
  exact wpAny_assign_Name (store_ok I hN hi hx r (fun s' I' => ⟨_, H, I', h⟩) hf)
def gNil : TGs := fun vs σ H Q => vs = [] ∧ Q σ H
def gCons (t : TG) (u : TGs) : TGs := fun vs σ H Q => ∃ v r, vs = v :: r ∧ t v σ H fun σ' H' => u r σ' H' Q
theorem pgs_nil : PGs X [] gNil := by
  intro pins s σ H vs us Q I r h
  obtain ⟨e, h⟩ := h
  subst e
  cases r
  exact assignInOrder_nil ⟨σ, H, I, h⟩
theorem pgs_cons {e : Expr} {es : List Expr} {t : TG} {u : TGs} (h1 : PG X e t) (h2 : PGs X es u)
    (hs : (assignEach (e :: es) X.env).map (·.2) = assign e X.env :: (assignEach es X.env).map (·.2) := by rfl) : PGs X (e :: es) (gCons t u) := by
  intro pins s σ H vs us Q I r h
  obtain ⟨v, vr, e1, h⟩ := h
  subst e1
  cases r with
  | cons r rr =>
    rw [hs]
    refine assignInOrder_cons (thn (h1 pins s σ H _ _ _ I r h) fun _ s1 ⟨σ1, H1, I1, q1⟩ => ?_)
    exact h2 pins s1 σ1 H1 _ _ Q I1 rr q1
/-- (a, b, ..) = a tuple of that length -/
def gTup (K : PySem.W.Frag) (n : Nat) (t : TGs) : TG := fun v σ H Q => ∃ a xs, v = .ref a ∧ SqT K H a xs ∧ xs.length = n ∧ t xs σ H Q
theorem pg_tup {es : List Expr} {k : Nat} {t : TGs} {n : Nat} (hc : X.calm = true) (h : PGs X es t)
    (hn : (assignEach es X.env).length = n := by rfl) (hst : (assignEach es X.env).findIdx? (·.1) = none := by rfl) : PG X (.Tuple es k pos) (gTup X.K n t) := by
  intro pins s σ H v u Q I r hw
  obtain ⟨a, xs, e1, hq, hl, hw⟩ := hw
  subst e1
  cases r
  obtain ⟨its, rv, ht, hz⟩ := I.tuple hq
  refine assign_Tuple_tuple (I.ok.hd hc) ht (by simp [hn, ← hl, rv.length]) hst fun h' hx => ?_
  have I1 : Inv X pins σ H { s with heap := h' } := I.kept (t' := s.toks) fun b o e => hx b o (Nat.ne_of_lt (Heap.lt_size e)) e
  exact h pins _ σ H xs _ Q I1 (by simpa using rv) hw
/-- o[i] = .. -/
def gSub (to ti : TE) (t : TSet) : TG := fun v σ H Q => to σ H fun o H1 => ti σ H1 fun i H2 => t o i v H2 fun H3 => Q σ H3
theorem pg_sub {o i : Expr} {to ti : TE} {t : TSet} (ho : PE X o to) (hi : PE X i ti) (hs : PSet X t)
    (ha : ∀ v, assign (.Subscript o i pos) X.env v = (do
      let ov ← holding [v] (eval o X.env)
      let iv ← holding [v, ov] (eval i X.env)
      standAt pos
      holding [v, ov, iv] (setItem ov iv v)
      release [v, ov, iv] []) := by intro _; rfl) : PG X (.Subscript o i pos) (gSub to ti t) := by
  intro pins s σ H v u Q I r h
  rw [ha]
  refine wpAny_bind (wpAny_holding (thn (ho pins s σ H _ I h) fun ov s1 ⟨x, H1, I1, r1, q1⟩ => ?_))
  refine wpAny_bind (wpAny_holding (thn (hi pins s1 σ H1 _ I1 q1) fun iv s2 ⟨y, H2, I2, r2, q2⟩ => ?_))
  refine wpAny_bind (wpAny_standAt (wpAny_bind (wpAny_holding (thn (hs pins s2 σ H2 x y v ov iv u _ I2 r1 r2 r q2) fun _ s3 ⟨H3, I3, q3⟩ => ?_))))
  exact wpAny_release ⟨σ, H3, I3, q3⟩
/-- target = value -/
def tAsg (te : TE) (g : TG) : TS := fun D σ H => te σ H fun x H1 => g x σ H1 D.nx
theorem ps_asg {tg e : Expr} {te : TE} {g : TG} (he : PE X e te) (hg : PG X tg g) (hs : swapsWithSole [tg] e pos.line X.env = pure false := by rfl) (hw : swappedStores [tg] e X.env = pure none := by rfl)
    (h1 : (assignEach [tg] X.env).map (·.2) = [assign tg X.env] := by rfl) : PS X (.Assign [tg] e pos) (tAsg te g) := by
  intro pins s σ H D I h
  refine wpAny_Assign_stores (thn (he pins s σ H _ I h) fun v s1 ⟨x, H1, I1, r1, q1⟩ => ?_) hs hw
  rw [h1]
  exact thn (hg pins s1 σ H1 x v _ I1 r1 q1) fun _ s2 q => q
/-- name = value -/
theorem ps_set {i : Nat} {x : Str} {e : Expr} {te : TE} {pos' : Pos} (hN : X.N.Nodup) (hi : X.N[i]? = some x) (hx : Loc X.env.scope x) (he : PE X e te) (hs : swapsWith e (some (.Name x pos')) pos.line X.env = pure false := by rfl) (hf : X.fn x = true ∨ X.env.scope.names.lookup x = some .local := by first | exact .inl rfl | exact .inr rfl | assumption) :
    PS X (.Assign [.Name x pos'] e pos) (tAsg te (gName i)) := by
  intro pins s σ H D I h
  refine wpAny_Assign_Name (thn (he pins s σ H _ I h) fun v s1 ⟨y, H1, I1, r1, q1⟩ => ?_) hs
  exact store_ok I1 hN hi hx r1 (fun s2 I2 => ⟨_, H1, I2, q1⟩) hf
/-- a, b = x, y with plain local names: stored from the right; the pair itself is not tracked (the opening rows as in PyProof/Rows/TupAssign.lean:23) -/
def tPar (i j : Nat) (ta : TA) : TS := fun D σ H => ta σ H fun vs H1 => ∃ v w, vs = [v, w] ∧ D.nx ((σ.set i (some v)).set j (some w)) H1
theorem ps_par {i j : Nat} {x y : Str} {a b : Expr} {ta : TA} {px py pt : Pos} {kt k2 pt2} (hc : X.calm = true) (hN : X.N.Nodup) (hi : X.N[i]? = some x) (hj : X.N[j]? = some y) (hij : i ≠ j)
    (hx : X.env.scope.names.lookup x = some .local) (hy : X.env.scope.names.lookup y = some .local) (ha : PA X [a, b] ta)
    (hw : swappedStores [.Tuple [.Name x px, .Name y py] kt pt] (.Tuple [a, b] k2 pt2) X.env = pure (some [x, y]))
    (hs : swapsWithSole [.Tuple [.Name x px, .Name y py] kt pt] (.Tuple [a, b] k2 pt2) pos.line X.env = pure false := by rfl) :
    PS X (.Assign [.Tuple [.Name x px, .Name y py] kt pt] (.Tuple [a, b] k2 pt2) pos) (tPar i j ta) := by
  intro pins s σ H D I h
  rw [exec_Assign_arm]
  refine wpAny_bind (wpAny_standAt ?_)
  rw [hs]
  refine wpAny_bind (wpAny_pure ?_)
  rw [if_neg (by decide)]
  refine wpAny_bind (Tuple_ (thn (ha _ pins s σ H _ I h) fun us s1 ⟨vs, H1, I1, r1, q1⟩ => ?_))
  obtain ⟨v, w, e1, q1⟩ := q1
  subst e1
  obtain ⟨u1, u2, rfl, rv, rw'⟩ : ∃ u1 u2, us = [u1, u2] ∧ RelV v u1 ∧ RelV w u2 := by
    cases r1 with
    | cons p q =>
      cases q with
      | cons p' q' =>
        cases q'
        exact ⟨_, _, rfl, p, p'⟩
  refine wpAny_newObj_type ?_ (by show 2 ≤ sizeLine; decide)
  have I2 : Inv X pins σ H1 { s1 with heap := s1.heap.push { cls := .type "tuple", data := .seq [u1, u2].toArray } } := I1.kept (t' := s1.toks) fun b o e => Heap.get?_push_of_some _ e
  rw [hw]
  refine wpAny_bind (wpAny_pure ?_)
  show wpAny (model X.prog X.w) X.A (do rule "assign.swapped-stores"; let items ← unpackItems (.ref s1.heap.objs.size) 2 none; assignInOrder [fun v => bindName X.env y v, fun v => bindName X.env x v] items.reverse; pure Flow.next) _ _ _
  refine wpAny_bind (wpAny_rule (wpAny_bind (unpackItems_tuple (items := #[u1, u2]) (I.ok.hd hc) (IsTup.new s1.heap _) fun h' hx' => ?_)))
  have I3 := I2.kept (h' := h') (t' := s1.toks) fun b o e => hx' b o (Nat.ne_of_lt (Heap.lt_size e)) e
  show wpAny _ _ (assignInOrder [fun v => bindName X.env y v, fun v => bindName X.env x v] [u2, u1] >>= fun _ => pure Flow.next) _ _ _
  refine wpAny_bind (assignInOrder_cons (wpAny_bindName (store_ok I3 hN hj (.inl hy) rw' (fun s2 I4 => ?_) (.inr hy))))
  refine assignInOrder_cons (wpAny_bindName (store_ok I4 hN hi (.inl hx) rv (fun s3 I5 => assignInOrder_nil (wpAny_pure ?_)) (.inr hx)))
  rw [List.set_comm _ _ (Ne.symm hij)] at I5
  exact ⟨_, H1, I5, q1⟩
/-- name op= e -/
def tAug (i : Nat) (te : TE) (ti : TIp) : TS := fun D σ H => ∃ x, σ[i]? = some (some x) ∧ te σ H fun y H1 => ti x y H1 fun z H2 => D.nx (σ.set i (some z)) H2
theorem ps_aug {i : Nat} {x : Str} {e : Expr} {te : TE} {op : Operator} {ti : TIp} {pos' : Pos} (hN : X.N.Nodup) (hi : X.N[i]? = some x) (hx : Loc X.env.scope x) (he : PE X e te) (ho : PIp X op ti) (hf : X.fn x = true ∨ X.env.scope.names.lookup x = some .local := by first | exact .inl rfl | exact .inr rfl | assumption) :
    PS X (.AugAssign (.Name x pos') op e pos) (tAug i te ti) := by
  intro pins s σ H D I h
  obtain ⟨v, e1, h⟩ := h
  obtain ⟨m, hn, hl⟩ := I.loc
  have vis : Vis X.env.scope x := by rcases hx with k | k; exact .inl k; exact .inr (.inl k)
  obtain ⟨u, r, l⟩ := hl i x v hi e1 vis
  refine wpAny_AugAssign_Name ?_
  have go : wpAny (model X.prog X.w) X.A (eval e X.env) (fun w s₂ => wpAny (model X.prog X.w) X.A (inplaceOp op u w) (fun r s₃ => wpAny (model X.prog X.w) X.A (storeName X.env x r) (fun _ => SP X pins D .next) X.xe s₃) X.xe s₂) X.xe s := by
    refine thn (he pins s σ H _ I h) fun w s1 ⟨y, H1, I1, r1, q1⟩ => ?_
    refine thn (ho pins s1 σ H1 v y u w _ I1 r r1 q1) fun z s2 ⟨zv, H2, I2, r2, q2⟩ => ?_
    exact store_ok I2 hN hi hx r2 (fun s3 I3 => ⟨_, H2, I3, q2⟩) hf
  rcases l with ⟨hk, hm⟩ | ⟨hk, c, hc, hcell⟩
  · exact wpAny_loadName_local I.ok.kind hk hn hm go
  · rcases hk with hk | hk
    · exact wpAny_loadName_cell I.ok.kind hk hc hcell go
    · rcases hx with k | k
      · have : X.env.scope.names.lookup x = some .free := hk
        rw [k] at this; cases this
      · have : X.env.scope.names.lookup x = some .free := hk
        rw [k] at this; cases this
/-- o[i] op= e -/
def tAugS (to ti te : TE) (tget : V → V → Hp → VK → Prop) (tip : TIp) (tset : TSet) : TS := fun D σ H => to σ H fun o H1 => ti σ H1 fun i H2 => tget o i H2 fun x H3 => te σ H3 fun y H4 => tip x y H4 fun z H5 => tset o i z H5 fun H6 => D.nx σ H6
/-- o[i], by values -/
def PGet (X : Cx) (t : V → V → Hp → VK → Prop) : Prop :=
  ∀ (pins : List (Addr × Obj)) (s : Shared) (σ : St) (H : Hp) (o i : V) (ov iv : Value) (Q : VK), Inv X pins σ H s → RelV o ov → RelV i iv → t o i H Q →
    wpAny (model X.prog X.w) X.A (getItem ov iv) (EP X pins σ Q) X.xe s
theorem ps_augS {o i e : Expr} {to ti te : TE} {tget : V → V → Hp → VK → Prop} {tip : TIp} {tset : TSet} {op : Operator} {tpos : Pos} (ho : PE X o to) (hi : PE X i ti) (hg : PGet X tget) (he : PE X e te) (hp : PIp X op tip) (hs : PSet X tset)
    (ha : ∀ ov iv new, augStore i ov iv new = (do holding [new, ov, iv] (setItem ov iv new); release [new, ov, iv] []; pure .next) := by intros; rfl) : PS X (.AugAssign (.Subscript o i tpos) op e pos) (tAugS to ti te tget tip tset) := by
  intro pins s σ H D I h
  refine wpAny_AugAssign_SubscriptAny (thn (ho pins s σ H _ I h) fun ov s1 ⟨x1, H1, I1, r1, q1⟩ => ?_) ha
  refine thn (hi pins s1 σ H1 _ I1 q1) fun iv s2 ⟨x2, H2, I2, r2, q2⟩ => ?_
  refine thn (hg pins s2 σ H2 x1 x2 ov iv _ I2 r1 r2 q2) fun old s3 ⟨x3, H3, I3, r3, q3⟩ => ?_
  refine thn (he pins s3 σ H3 _ I3 q3) fun v s4 ⟨x4, H4, I4, r4, q4⟩ => ?_
  refine thn (hp pins s4 σ H4 x3 x4 old v _ I4 r3 r4 q4) fun new s5 ⟨x5, H5, I5, r5, q5⟩ => ?_
  exact thn (hs pins s5 σ H5 x1 x2 x5 ov iv new _ I5 r1 r2 r5 q5) fun _ s6 ⟨H6, I6, q6⟩ => ⟨σ, H6, I6, q6⟩
/-- ints -/
def ipI (f : Int → Int → Int) : TIp := fun x y H Q => ∃ i j, x = .int i ∧ y = .int j ∧ Q (.int (f i j)) H
theorem ip_add : PIp X .Add (ipI fun i j => i + j) := by
  intro pins s σ H x y v u Q I r1 r2 h
  obtain ⟨i, j, e1, e2, q⟩ := h
  subst e1; subst e2
  obtain ⟨t, rfl⟩ := r1
  obtain ⟨t', rfl⟩ := r2
  exact iadd_int ⟨.int _, H, I.tok _, ⟨_, rfl⟩, q⟩
theorem ip_sub : PIp X .Sub (ipI fun i j => i - j) := by
  intro pins s σ H x y v u Q I r1 r2 h
  obtain ⟨i, j, e1, e2, q⟩ := h
  subst e1; subst e2
  obtain ⟨t, rfl⟩ := r1
  obtain ⟨t', rfl⟩ := r2
  exact isub_int ⟨.int _, H, I.tok _, ⟨_, rfl⟩, q⟩
end

/-! ### while -/
section
variable {X : Cx} {pos : Pos}
/-- the invariant W with its measure -/
def tWhile (c : TT) (tb : TS) : TS := fun D σ H => ∃ W : Nat → St → Hp → Prop, (∃ m, W m σ H) ∧ ∀ m σ H, W m σ H →
  c σ H fun b H1 => if b = true then ∃ N : St → Hp → Prop, (∀ σ' H', N σ' H' → ∃ m', m' < m ∧ W m' σ' H') ∧ tb { D with nx := N, ct := N, bk := D.nx } σ H1 else D.nx σ H1
theorem ps_while {c : Expr} {body : List Stmt} {tc : TT} {tb : TS} (hp : PassesOwn (model X.prog X.w) X.A X.env X.xe) (hc : PT X c tc) (hb : PSs X body tb) : PS X (.While c body [] pos) (tWhile tc tb) := by
  intro pins s σ H D I h
  obtain ⟨W, ⟨m0, w0⟩, turn⟩ := h
  refine wpAny_While (codeAny_whileLoop (fun n s' => ∃ σ' H', Inv X pins σ' H' s' ∧ W n σ' H') ?_ m0 ⟨σ, H, I, w0⟩)
  rintro n s1 ⟨σ1, H1, I1, w1⟩
  refine wpAny_passesOwn hp (thn (hc pins s1 σ1 H1 _ I1 (turn n σ1 H1 w1)) fun b s2 ⟨H2, I2, q2⟩ => ?_)
  cases b with
  | true =>
    obtain ⟨N, hN, q2⟩ := q2
    rw [if_pos rfl]
    refine wpAny_passesOwn hp (thn (hb pins s2 σ1 H2 _ I2 q2) fun f s3 q3 => ?_)
    cases f with
    | next =>
      obtain ⟨σ3, H3, I3, n3⟩ := q3
      obtain ⟨m', hm, w3⟩ := hN σ3 H3 n3
      exact ⟨m', hm, σ3, H3, I3, w3⟩
    | cont =>
      obtain ⟨σ3, H3, I3, n3⟩ := q3
      obtain ⟨m', hm, w3⟩ := hN σ3 H3 n3
      exact ⟨m', hm, σ3, H3, I3, w3⟩
    | brk => exact q3
    | ret v => exact q3
  | false =>
    rw [if_neg Bool.false_ne_true]
    exact wpAny_execs_nil ⟨σ1, H2, I2, q2⟩
end

/-! ### what a loop or a comprehension walks -/
/-- at turn i: it yields x (the heap may grow), or it stops -/
structure It where
  go : Nat → Hp → Prop
  yld : Nat → Hp → V → Hp → Prop
  stop : Nat → Hp → Prop
/-- the iterator's own objects may turn: they are not the frame's, not pinned, younger than the entry (or a comprehension's own) -/
def FpOk (X : Cx) (pins : List (Addr × Obj)) (H : Hp) (b : Addr) : Prop :=
  H b = none ∧ b ≠ X.env.locals ∧ b ∉ X.fs ∧ (b ∈ X.ex ∨ X.s₀.heap.objs.size ≤ b) ∧ (∀ x c, X.env.cells.lookup x = some c → c ≠ b) ∧ ∀ p ∈ X.pn ++ pins, p.1 ≠ b
theorem Inv.fpOk {X : Cx} {pins : List (Addr × Obj)} {σ : St} {H H' : Hp} {s : Shared} {b : Addr} (I : Inv X pins σ H s) (hb : s.heap.objs.size ≤ b) (hn : H' b = none) : FpOk X pins H' b := by
  refine ⟨hn, Nat.ne_of_gt (Nat.lt_of_lt_of_le I.lt hb), I.nofs hb, .inr (Nat.le_trans I.sz hb), fun x c e z => ?_, fun p hp z => ?_⟩
  · obtain ⟨v, q⟩ := I.cell x c e
    exact absurd (Nat.lt_of_lt_of_le q.lt (by rw [z]; exact hb)) (Nat.lt_irrefl _)
  · exact absurd (Nat.lt_of_lt_of_le (Heap.lt_size (I.pin p hp).1) (by rw [z]; exact hb)) (Nat.lt_irrefl _)
structure Turn (P : Program) (w : World) (K : PySem.W.Frag) (tg : Expr) (J : It) (fp : List Addr) (it : Addr) (tn : Nat → Heap → Prop) : Prop where
  mem : it ∈ fp
  obj : ∀ i h, tn i h → ∀ b ∈ fp, ∃ o, h.get? b = some o ∧ ∀ v, o.data ≠ .cell v
  keep : ∀ i h h', tn i h → (∀ b ∈ fp, ∀ o, h.get? b = some o → h'.get? b = some o) → tn i h'
  item : ∀ (X : Cx), X.prog = P → X.w = w → X.K = K → X.calm = true → ∀ (i : Nat) (pins : List (Addr × Obj)) (s : Shared) (σ : St) (H : Hp) (E : Value → Shared → Prop), Inv X pins σ H s → (∀ b ∈ fp, FpOk X pins H b) → tn i s.heap → J.go i H →
    wpAny (model P w) X.A (pyNext (.ref it)) (fun r s1 => ∃ u, r = some u ∧
      wpAny (model P w) X.A (letOwnedTupleGo tg (.ref it) u) (fun _ s2 => ∃ x H', Inv X pins σ H' s2 ∧ RelV x u ∧ J.yld i H x H' ∧ tn (i + 1) s2.heap ∧ ∀ b ∈ fp, H' b = none) E s1) E s
  done : ∀ (X : Cx), X.prog = P → X.w = w → X.K = K → X.calm = true → ∀ (i : Nat) (pins : List (Addr × Obj)) (s : Shared) (σ : St) (H : Hp) (E : Value → Shared → Prop), Inv X pins σ H s → (∀ b ∈ fp, FpOk X pins H b) → tn i s.heap → J.stop i H →
    wpAny (model P w) X.A (pyNext (.ref it)) (fun r s1 => r = none ∧ Inv X pins σ H s1) E s
  self : ∀ (A : Around) (i : Nat) (s : Shared) (Q : Value → Shared → Prop) (E : Value → Shared → Prop), tn i s.heap → Q (.ref it) s → wpAny (model P w) A (pyIter (.ref it)) Q E s
abbrev TI := St → Hp → (It → Hp → Prop) → Prop
/-- an iterator has come -/
def PIE (X : Cx) (pins : List (Addr × Obj)) (σ : St) (tg : Expr) (R : It → Hp → Prop) (itv : Value) (s2 : Shared) : Prop :=
  ∃ (it : Addr) (fp : List Addr) (tn : Nat → Heap → Prop) (J : It) (H' : Hp), itv = .ref it ∧ Inv X pins σ H' s2 ∧ Turn X.prog X.w X.K tg J fp it tn ∧ tn 0 s2.heap ∧ (∀ b ∈ fp, FpOk X pins H' b) ∧ R J H'
def PI (X : Cx) (tg iter : Expr) (wi : TI) : Prop :=
  ∀ (pins : List (Addr × Obj)) (s : Shared) (σ : St) (H : Hp) (R : It → Hp → Prop), Inv X pins σ H s → wi σ H R →
    wpAny (model X.prog X.w) X.A (eval iter X.env) (fun v s1 => wpAny (model X.prog X.w) X.A (pyIter v) (PIE X pins σ tg R) X.xe s1) X.xe s

/-- the step ahead of the store is nothing for an iterator that keeps no tuple -/
theorem go_of {M : Model} {A : Around} {E : Value → Shared → Prop} {s : Shared} {tg : Expr} {it : Addr} {u : Value} {o : Obj} {n : String} {vs : Array Value} {Q : Unit → Shared → Prop} (ho : s.heap.get? it = some o) (hc : o.cls = .type n) (hd : o.data = .fields vs)
    (hn : ["enumerate", "zip", "dict_itemiterator", "dict_reverseitemiterator", "odict_iterator", "itertools.zip_longest", "itertools.pairwise"].contains n = false) (hQ : Q () s) : wpAny M A (letOwnedTupleGo tg (.ref it) u) Q E s := by
  unfold letOwnedTupleGo
  cases tg <;> first
    | exact wpAny_pure hQ
    | (cases u <;> first
        | exact wpAny_pure hQ
        | (refine wpAny_bind (wpAny_load ho ?_)
           rw [hc, hd]
           show wpAny M A (if (["enumerate", "zip", "dict_itemiterator", "dict_reverseitemiterator", "odict_iterator", "itertools.zip_longest", "itertools.pairwise"].contains n && vs[0]? == some (rawInt _)) = true then _ else _) Q E s
           rw [if_neg (by intro h; rw [hn, Bool.false_and] at h; cases h)]
           exact wpAny_pure hQ))

/-- the list at a, as it stands at each turn (a loop may append to it) -/
def Itl (K : PySem.W.Frag) (a : Addr) : It :=
  ⟨fun i H => ∃ xs x, SqL K H a xs ∧ xs[i]? = some x, fun i H x H' => H' = H ∧ ∀ xs, SqL K H a xs → xs[i]? = some x, fun i H => ∃ xs, SqL K H a xs ∧ xs.length ≤ i⟩
def Itt (K : PySem.W.Frag) (a : Addr) : It :=
  ⟨fun i H => ∃ xs x, SqT K H a xs ∧ xs[i]? = some x, fun i H x H' => H' = H ∧ ∀ xs, SqT K H a xs → xs[i]? = some x, fun i H => ∃ xs, SqT K H a xs ∧ xs.length ≤ i⟩
/-- lo, lo + 1, .. (n of them) -/
def Itr (lo : Int) (n : Nat) : It := ⟨fun i _ => i < n, fun i H x H' => H' = H ∧ x = .int (lo + i), fun i _ => n ≤ i⟩
theorem turn_list {P : Program} {w : World} {K : PySem.W.Frag} {tg : Expr} (a it : Addr) : Turn P w K tg (Itl K a) [it] it (fun i h => h.IsListIter it a i) where
  mem := by simp
  obj := fun i h st b hb => by
    have e : b = it := by simpa using hb
    subst e
    obtain ⟨o, e, c, d⟩ := st
    exact ⟨o, e, fun v z => by rw [d] at z; cases z⟩
  keep := fun i h h' st k => st.at fun o e => k it (by simp) o e
  item := by
    intro X hP hw hK hc i pins s σ H E I hf st hg
    subst hP hw hK
    obtain ⟨xs, x, hq, hx⟩ := hg
    obtain ⟨its, rv, p, hz⟩ := I.list hq
    obtain ⟨u, hu, ru⟩ := rv.get hx
    obtain ⟨f0, f1, f2, f3, f4, f5⟩ := hf it (by simp)
    refine wpAny_pyNext_list_item st p.isList (x := u) (by simpa using hu) fun h' st' sb => ?_
    have I1 : Inv X pins σ H { s with heap := h' } := I.turned (t' := s.toks) (fun b o hb e => (sb.2 b hb).trans e) f0 f1 f3 f4 f5
    obtain ⟨o, e, c, d⟩ := id st'
    exact ⟨u, rfl, go_of (s := { s with heap := h' }) e c d (by decide) ⟨x, H, I1, ru, ⟨rfl, fun ys hy => by rw [I.list_inj hy hq]; exact hx⟩, st', fun b hb => (hf b hb).1⟩⟩
  done := by
    intro X hP hw hK hc i pins s σ H E I hf st hg
    subst hP hw hK
    obtain ⟨xs, hq, hx⟩ := hg
    obtain ⟨its, rv, p, hz⟩ := I.list hq
    obtain ⟨f0, f1, f2, f3, f4, f5⟩ := hf it (by simp)
    have hl := rv.length
    exact wpAny_pyNext_list_end (I.ok.hd hc) st p.isList (by simp; omega) fun h' eb => ⟨rfl, I.turned (t' := s.toks) (fun b o hb e => eb b o hb e) f0 f1 f3 f4 f5⟩
  self := fun _ _ _ _ _ st h => wpAny_pyIter_listiter st h
theorem turn_tuple {P : Program} {w : World} {K : PySem.W.Frag} {tg : Expr} (a it : Addr) : Turn P w K tg (Itt K a) [it] it (fun i h => h.IsTupleIter it a i) where
  mem := by simp
  obj := fun i h st b hb => by
    have e : b = it := by simpa using hb
    subst e
    obtain ⟨o, e, c, d⟩ := st
    exact ⟨o, e, fun v z => by rw [d] at z; cases z⟩
  keep := fun i h h' st k => st.at fun o e => k it (by simp) o e
  item := by
    intro X hP hw hK hc i pins s σ H E I hf st hg
    subst hP hw hK
    obtain ⟨xs, x, hq, hx⟩ := hg
    obtain ⟨its, rv, p, hz⟩ := I.tuple hq
    obtain ⟨u, hu, ru⟩ := rv.get hx
    obtain ⟨f0, f1, f2, f3, f4, f5⟩ := hf it (by simp)
    refine wpAny_pyNext_tuple_item st (show s.heap.IsTuple a its.toArray from p) (x := u) (by simpa using hu) fun h' st' sb => ?_
    have I1 : Inv X pins σ H { s with heap := h' } := I.turned (t' := s.toks) (fun b o hb e => (sb.2 b hb).trans e) f0 f1 f3 f4 f5
    obtain ⟨o, e, c, d⟩ := id st'
    exact ⟨u, rfl, go_of (s := { s with heap := h' }) e c d (by decide) ⟨x, H, I1, ru, ⟨rfl, fun ys hy => by rw [I.tuple_inj hy hq]; exact hx⟩, st', fun b hb => (hf b hb).1⟩⟩
  done := by
    intro X hP hw hK hc i pins s σ H E I hf st hg
    subst hP hw hK
    obtain ⟨xs, hq, hx⟩ := hg
    obtain ⟨its, rv, p, hz⟩ := I.tuple hq
    obtain ⟨f0, f1, f2, f3, f4, f5⟩ := hf it (by simp)
    have hl := rv.length
    exact wpAny_pyNext_tuple_end (I.ok.hd hc) st (show s.heap.IsTuple a its.toArray from p) (by simp; omega) fun h' eb => ⟨rfl, I.turned (t' := s.toks) (fun b o hb e => eb b o hb e) f0 f1 f3 f4 f5⟩
  self := fun _ _ _ _ _ st h => wpAny_pyIter_tupleiter st h
theorem turn_range {P : Program} {w : World} {K : PySem.W.Frag} {tg : Expr} (it : Addr) (lo : Int) (n : Nat) : Turn P w K tg (Itr lo n) [it] it (fun i h => IsRangeIter h it (lo + (i : Nat) * 1) ((n : Int) - (i : Nat)) 1) where
  mem := by simp
  obj := fun i h st b hb => by
    have e : b = it := by simpa using hb
    subst e
    exact ⟨_, st, fun v z => by
      have z' : Data.fields _ = Data.cell v := z
      cases z'⟩
  keep := fun i h h' st k => k it (by simp) _ st
  item := by
    intro X hP hw hK hc i pins s σ H E I hf st hg
    subst hP hw hK
    obtain ⟨f0, f1, f2, f3, f4, f5⟩ := hf it (by simp)
    have W := Walks.range (prog := X.prog) (w := X.w) (I.ok.hd hc) it lo 1 n
    refine W.item i s _ _ hg st fun v h' tk hv st' kk => ?_
    obtain ⟨t, rfl⟩ := hv
    have I1 : Inv X pins σ H { s with heap := h', toks := tk } := I.turned (fun b o hb e => kk b o (by simpa using hb) e) f0 f1 f3 f4 f5
    refine ⟨_, rfl, go_of (s := { s with heap := h', toks := tk }) (n := "range_iterator") st' rfl rfl (by decide) ⟨.int (lo + i), H, I1, ⟨t, ?_⟩, ⟨rfl, rfl⟩, st', fun b hb => (hf b hb).1⟩⟩
    rw [Int.mul_one]
  done := by
    intro X hP hw hK hc i pins s σ H E I hf st hg
    subst hP hw hK
    obtain ⟨f0, f1, f2, f3, f4, f5⟩ := hf it (by simp)
    exact wpAny_pyNext_range_end (I.ok.hd hc) st (by have : n ≤ i := hg; omega) fun h' eb => ⟨rfl, I.turned (t' := s.toks) (fun b o hb e => eb b o hb e) f0 f1 f3 f4 f5⟩
  self := fun _ _ _ _ _ st h => wpAny_pyIter_rangeiter st h
end L2

namespace L2
open PySem PySem.Spec PyProof.Rows
section
variable {X : Cx} {tg : Expr}
def iList (K : PySem.W.Frag) (tl : TE) : TI := fun σ H R => tl σ H fun x H1 => ∃ a, x = .ref a ∧ (∃ xs, SqL K H1 a xs) ∧ R (Itl K a) H1
def iTup (K : PySem.W.Frag) (tl : TE) : TI := fun σ H R => tl σ H fun x H1 => ∃ a, x = .ref a ∧ (∃ xs, SqT K H1 a xs) ∧ R (Itt K a) H1
theorem pi_list {l : Expr} {tl : TE} (hl : PE X l tl) : PI X tg l (iList X.K tl) := by
  intro pins s σ H R I h
  refine thn (hl pins s σ H _ I h) fun v s1 ⟨x, H1, I1, r1, q1⟩ => ?_
  obtain ⟨a, e, ⟨xs, hq⟩, q⟩ := q1
  subst e
  cases r1
  obtain ⟨its, rv, p, hz⟩ := I1.list hq
  refine wpAny_pyIter_list p.isList ?_
  refine ⟨s1.heap.objs.size, [s1.heap.objs.size], _, _, H1, rfl, I1.kept (t' := s1.toks) fun b o e => Heap.get?_push_of_some _ e, turn_list a _, ⟨_, Heap.get?_push_size _ rfl, rfl, rfl⟩, fun b hb => ?_, q⟩
  have e : b = s1.heap.objs.size := by simpa using hb
  subst e
  exact I1.fpOk (Nat.le_refl _) (I1.hok.fresh (Nat.le_refl _))
theorem pi_tup {l : Expr} {tl : TE} (hl : PE X l tl) : PI X tg l (iTup X.K tl) := by
  intro pins s σ H R I h
  refine thn (hl pins s σ H _ I h) fun v s1 ⟨x, H1, I1, r1, q1⟩ => ?_
  obtain ⟨a, e, ⟨xs, hq⟩, q⟩ := q1
  subst e
  cases r1
  obtain ⟨its, rv, p, hz⟩ := I1.tuple hq
  refine wpAny_pyIter_tuple (show s1.heap.IsTuple a its.toArray from p) ?_
  refine ⟨s1.heap.objs.size, [s1.heap.objs.size], _, _, H1, rfl, I1.kept (t' := s1.toks) fun b o e => Heap.get?_push_of_some _ e, turn_tuple a _, ⟨_, Heap.get?_push_size _ rfl, rfl, rfl⟩, fun b hb => ?_, q⟩
  have e : b = s1.heap.objs.size := by simpa using hb
  subst e
  exact I1.fpOk (Nat.le_refl _) (I1.hok.fresh (Nat.le_refl _))
/-- a range object just made, walked -/
theorem range_it {pins : List (Addr × Obj)} {σ : St} {H : Hp} {s : Shared} {R : It → Hp → Prop} {E : Value → Shared → Prop} {lo hi : Int} {t u v : Tok} {tk : Nat} (I : Inv X pins σ H s) (h1 : -(2 ^ 62) ≤ lo) (h2 : lo < 2 ^ 62) (h3 : -(2 ^ 62) ≤ hi) (h4 : hi < 2 ^ 62)
    (q : R (Itr lo (hi - lo).toNat) H) : wpAny (model X.prog X.w) X.A (pyIter (.ref s.heap.objs.size)) (PIE X pins σ tg R) E { s with heap := s.heap.push { cls := .type "range", data := .fields #[.int lo t, .int hi u, .int 1 v] }, toks := tk } := by
  refine wpAny_pyIter_range (IsRange.new ..) (small_one h1 h2 h3 h4) ?_
  have I1 : Inv X pins σ H { s with heap := s.heap.push { cls := .type "range", data := .fields #[.int lo t, .int hi u, .int 1 v] }, toks := tk } := I.kept fun b o e => Heap.get?_push_of_some _ e
  refine ⟨(s.heap.push { cls := .type "range", data := .fields #[.int lo t, .int hi u, .int 1 v] }).objs.size, [(s.heap.push { cls := .type "range", data := .fields #[.int lo t, .int hi u, .int 1 v] }).objs.size], _, _, H, rfl,
    I1.kept (t' := tk) fun b o e => Heap.get?_push_of_some _ e, turn_range _ lo (hi - lo).toNat, ?_, fun b hb => ?_, q⟩
  · have e1 : lo + ((0 : Nat) : Int) * 1 = lo := by simp
    have e2 : (((hi - lo).toNat : Nat) : Int) - ((0 : Nat) : Int) = Builtin.Range.rangeSize lo hi 1 := by rw [rangeSize_one]; split <;> omega
    show IsRangeIter _ _ (lo + ((0 : Nat) : Int) * 1) ((((hi - lo).toNat : Nat) : Int) - ((0 : Nat) : Int)) 1
    rw [e1, e2]
    exact Heap.get?_push_size _ rfl
  · have e : b = (s.heap.push { cls := .type "range", data := .fields #[.int lo t, .int hi u, .int 1 v] }).objs.size := by simpa using hb
    subst e
    exact I1.fpOk (Nat.le_refl _) (I1.hok.fresh (Nat.le_refl _))
def iRng1 (ta : TA) : TI := fun σ H R => ta σ H fun vs H1 => ∃ j : Int, vs = [.int j] ∧ -(2 ^ 62) ≤ j ∧ j < 2 ^ 62 ∧ R (Itr 0 j.toNat) H1
def iRng2 (ta : TA) : TI := fun σ H R => ta σ H fun vs H1 => ∃ i j : Int, vs = [.int i, .int j] ∧ (-(2 ^ 62) ≤ i ∧ i < 2 ^ 62 ∧ -(2 ^ 62) ≤ j ∧ j < 2 ^ 62) ∧ R (Itr i (j - i).toNat) H1
theorem pi_range1 {a : Expr} {ta : TA} {p pos : Pos} (hg : Gl X "range") (hm : X.mg "range" = none) (ha : PA X [a] ta) (hs : starEach [a] X.env = [(false, eval a X.env)] := by rfl) : PI X tg (.Call (.Name "range" p) [a] [] pos) (iRng1 ta) := by
  intro pins s σ H R I h
  refine Call_ (ld_blt I hg hm boot_range (PyProof.Rows.callWith_type1 (thn (ha pos pins s σ H _ I h) fun us s1 ⟨vs, H1, I1, r1, q1⟩ => ?_) hs rfl))
  obtain ⟨j, e, q1, q2, q⟩ := q1
  subst e
  cases r1 with
  | cons r rr =>
    cases rr
    obtain ⟨t, rfl⟩ := r
    exact call_range_1 (range_it I1 (by omega) (by omega) q1 q2 (by simpa using q))
theorem pi_range2 {a b : Expr} {ta : TA} {p pos : Pos} (hg : Gl X "range") (hm : X.mg "range" = none) (ha : PA X [a, b] ta) (hs : starEach [a, b] X.env = [(false, eval a X.env), (false, eval b X.env)] := by rfl) (hs2 : starEach [b] X.env = [(false, eval b X.env)] := by rfl) :
    PI X tg (.Call (.Name "range" p) [a, b] [] pos) (iRng2 ta) := by
  intro pins s σ H R I h
  refine Call_ (ld_blt I hg hm boot_range (PyProof.Rows.callWith_type1 (thn (ha pos pins s σ H _ I h) fun us s1 ⟨vs, H1, I1, r1, q1⟩ => ?_) (by rw [hs, hs2]) (by rw [hs2]; rfl)))
  obtain ⟨i, j, e, ⟨q1, q2, q3, q4⟩, q⟩ := q1
  subst e
  cases r1 with
  | cons r rr =>
    cases rr with
    | cons r' rr =>
      cases rr
      obtain ⟨t, rfl⟩ := r
      obtain ⟨t', rfl⟩ := r'
      exact call_range_2 (range_it I1 q1 q2 q3 q4 q)

/-! ### for -/
/-- W: the invariant by the turn and a measure; N: what the body is to reach -/
def tFor (wi : TI) (g : TG) (tb : TS) : TS := fun D σ H => wi σ H fun J H1 => ∃ W : Nat → Nat → St → Hp → Prop, (∃ m, W 0 m σ H1) ∧ ∀ i m σ H, W i m σ H →
  (J.stop i H ∧ D.nx σ H) ∨ (J.go i H ∧ ∃ N : St → Hp → Prop, (∀ σ' H', N σ' H' → ∃ m', m' < m ∧ W (i + 1) m' σ' H') ∧ ∀ x H', J.yld i H x H' → g x σ H' fun σ2 H2 => tb { D with nx := N, ct := N, bk := D.nx } σ2 H2)
/-- the records at fp as they stand -/
def pinsAt (fp : List Addr) (h : Heap) : List (Addr × Obj) := fp.filterMap fun b => (h.get? b).map fun o => (b, o)
theorem mem_pinsAt {fp : List Addr} {h : Heap} {b : Addr} {o : Obj} (hb : b ∈ fp) (e : h.get? b = some o) : (b, o) ∈ pinsAt fp h := List.mem_filterMap.mpr ⟨b, hb, by rw [e]; rfl⟩
theorem of_pinsAt {fp : List Addr} {h : Heap} {p : Addr × Obj} (hp : p ∈ pinsAt fp h) : p.1 ∈ fp ∧ h.get? p.1 = some p.2 := by
  obtain ⟨b, hb, e⟩ := List.mem_filterMap.mp hp
  cases q : h.get? b with
  | none => rw [q] at e; cases e
  | some o =>
    rw [q] at e
    have e' : (b, o) = p := Option.some.inj e
    subst e'
    exact ⟨hb, q⟩
theorem Inv.pinned {pins : List (Addr × Obj)} {σ : St} {H : Hp} {s : Shared} {fp : List Addr} (I : Inv X pins σ H s) (hf : ∀ b ∈ fp, FpOk X pins H b) (ho : ∀ b ∈ fp, ∃ o, s.heap.get? b = some o ∧ ∀ v, o.data ≠ .cell v) : Inv X (pins ++ pinsAt fp s.heap) σ H s :=
  I.pins_of fun p hp => (List.mem_append.mp hp).elim (fun z => I.pin p (List.mem_append_right _ z)) fun z => by
    obtain ⟨hb, e⟩ := of_pinsAt z
    obtain ⟨f0, f1, f2, _⟩ := hf p.1 hb
    obtain ⟨o, e', d⟩ := ho p.1 hb
    rw [e] at e'; cases e'
    exact ⟨e, f0, f1, f2, d⟩
theorem Inv.unpinned {pins pl : List (Addr × Obj)} {σ : St} {H : Hp} {s : Shared} (I : Inv X (pins ++ pl) σ H s) : Inv X pins σ H s := I.pins_of fun p hp => I.pin p (List.mem_append_right _ (List.mem_append_left _ hp))
theorem ps_for {iter : Expr} {body : List Stmt} {wi : TI} {g : TG} {tb : TS} {pos : Pos} (hp : PassesOwn (model X.prog X.w) X.A X.env X.xe) (hc : X.calm = true) (hi : PI X tg iter wi) (hg : PG X tg g) (hb : PSs X body tb)
    (hs : ∀ x, foldedSetIterable iter X.env x = pure x := by intro _; rfl) : PS X (.For tg iter body [] pos) (tFor wi g tb) := by
  intro pins s σ H D I h
  refine wpAny_For (thn (hi pins s σ H _ I h) fun v s1 h1 => thn h1 fun itv s2 h2 => ?_) hs
  obtain ⟨it, fp, tn, J, H2, e, I2, T, st2, f2, W, ⟨m0, w0⟩, turn⟩ := h2
  subst e
  -- what stays true of the iterator's objects through the loop
  have stat : ∀ {H' : Hp}, (∀ b ∈ fp, H' b = none) → ∀ b ∈ fp, FpOk X pins H' b := fun hn b hb => ⟨hn b hb, (f2 b hb).2⟩
  refine codeAny_forLoop_any (fun n s' => ∃ i σ' H', Inv X pins σ' H' s' ∧ tn i s'.heap ∧ (∀ b ∈ fp, H' b = none) ∧ W i n σ' H') ?_ m0 ⟨0, σ, H2, I2, st2, fun b hb => (f2 b hb).1, w0⟩
  rintro n s3 ⟨i, σ3, H3, I3, st3, fr3, w3⟩
  rcases turn i n σ3 H3 w3 with ⟨stop, qn⟩ | ⟨go, N, hN, step⟩
  · refine wpAny_passesOwn hp (thn (T.done X rfl rfl rfl hc i pins s3 σ3 H3 X.xe I3 (stat fr3) st3 stop) fun r s4 ⟨hr, I4⟩ => ?_)
    subst hr
    exact wpAny_execs_nil ⟨σ3, H3, I4, qn⟩
  · refine wpAny_passesOwn hp (thn (T.item X rfl rfl rfl hc i pins s3 σ3 H3 X.xe I3 (stat fr3) st3 go) fun r s4 ⟨u, hr, h4⟩ => ?_)
    subst hr
    refine wpAny_passesOwn hp (thn h4 fun _ s5 ⟨x, H5, I5, r5, y5, st5, fr5⟩ => ?_)
    have I5' := I5.pinned (stat fr5) (T.obj _ _ st5)
    refine wpAny_passesOwn hp (thn (hg _ s5 σ3 H5 x u _ I5' r5 (step x H5 y5)) fun _ s6 ⟨σ6, H6, I6, q6⟩ => ?_)
    refine wpAny_passesOwn hp (thn (hb _ s6 σ6 H6 _ I6 q6) fun f s7 q7 => ?_)
    have again : ∀ {σ7 : St} {H7 : Hp}, Inv X (pins ++ pinsAt fp s5.heap) σ7 H7 s7 → N σ7 H7 → ∃ m, m < n ∧ ∃ i σ' H', Inv X pins σ' H' s7 ∧ tn i s7.heap ∧ (∀ b ∈ fp, H' b = none) ∧ W i m σ' H' := fun {σ7 H7} I7 n7 => by
      obtain ⟨m', hm, w7⟩ := hN σ7 H7 n7
      refine ⟨m', hm, i + 1, σ7, H7, I7.unpinned, T.keep _ _ _ st5 fun b hb o e => (I7.pin (b, o) (List.mem_append_right _ (List.mem_append_right _ (mem_pinsAt hb e)))).1, fun b hb => ?_, w7⟩
      obtain ⟨o, e, d⟩ := T.obj _ _ st5 b hb
      exact (I7.pin (b, o) (List.mem_append_right _ (List.mem_append_right _ (mem_pinsAt hb e)))).2.1
    cases f with
    | next => obtain ⟨σ7, H7, I7, n7⟩ := q7; exact again I7 n7
    | cont => obtain ⟨σ7, H7, I7, n7⟩ := q7; exact again I7 n7
    | brk => obtain ⟨σ7, H7, I7, q7⟩ := q7; exact ⟨σ7, H7, I7.unpinned, q7⟩
    | ret v => obtain ⟨x7, σ7, H7, I7, r7, q7⟩ := q7; exact ⟨x7, σ7, H7, I7.unpinned, r7, q7⟩
end

/-! ### the forms one uses -/
/-- over a list that the body leaves as it is -/
theorem for_list {K : PySem.W.Frag} {a : Addr} {xs : List V} {g : TG} {tb : TS} {D : Ends} {σ : St} {H : Hp} (Pv : Nat → St → Hp → Prop) (h0 : Pv 0 σ H) (hl : ∀ i σ H, i ≤ xs.length → Pv i σ H → SqL K H a xs)
    (hs : ∀ i x σ H, xs[i]? = some x → Pv i σ H → g x σ H fun σ2 H2 => tb { D with nx := Pv (i + 1), ct := Pv (i + 1), bk := D.nx } σ2 H2) (hd : ∀ σ H, Pv xs.length σ H → D.nx σ H) :
    ∃ W : Nat → Nat → St → Hp → Prop, (∃ m, W 0 m σ H) ∧ ∀ i m σ H, W i m σ H →
      ((Itl K a).stop i H ∧ D.nx σ H) ∨ ((Itl K a).go i H ∧ ∃ N : St → Hp → Prop, (∀ σ' H', N σ' H' → ∃ m', m' < m ∧ W (i + 1) m' σ' H') ∧ ∀ x H', (Itl K a).yld i H x H' → g x σ H' fun σ2 H2 => tb { D with nx := N, ct := N, bk := D.nx } σ2 H2) := by
  refine ⟨fun i m σ H => m = xs.length - i ∧ i ≤ xs.length ∧ Pv i σ H, ⟨xs.length, by simp, Nat.zero_le _, h0⟩, ?_⟩
  rintro i m σ H ⟨rfl, hi, p⟩
  have q := hl i σ H hi p
  by_cases hlt : i < xs.length
  · refine .inr ⟨⟨xs, xs[i], q, by simp [hlt]⟩, Pv (i + 1), fun σ' H' p' => ⟨xs.length - (i + 1), by omega, rfl, hlt, p'⟩, fun x H' y => ?_⟩
    obtain ⟨e, y⟩ := y
    subst e
    exact hs i x σ _ (y xs q) p
  · have e : i = xs.length := by omega
    subst e
    exact .inl ⟨⟨xs, q, Nat.le_refl _⟩, hd σ H p⟩
theorem for_tup {K : PySem.W.Frag} {a : Addr} {xs : List V} {g : TG} {tb : TS} {D : Ends} {σ : St} {H : Hp} (Pv : Nat → St → Hp → Prop) (h0 : Pv 0 σ H) (hl : ∀ i σ H, i ≤ xs.length → Pv i σ H → SqT K H a xs)
    (hs : ∀ i x σ H, xs[i]? = some x → Pv i σ H → g x σ H fun σ2 H2 => tb { D with nx := Pv (i + 1), ct := Pv (i + 1), bk := D.nx } σ2 H2) (hd : ∀ σ H, Pv xs.length σ H → D.nx σ H) :
    ∃ W : Nat → Nat → St → Hp → Prop, (∃ m, W 0 m σ H) ∧ ∀ i m σ H, W i m σ H →
      ((Itt K a).stop i H ∧ D.nx σ H) ∨ ((Itt K a).go i H ∧ ∃ N : St → Hp → Prop, (∀ σ' H', N σ' H' → ∃ m', m' < m ∧ W (i + 1) m' σ' H') ∧ ∀ x H', (Itt K a).yld i H x H' → g x σ H' fun σ2 H2 => tb { D with nx := N, ct := N, bk := D.nx } σ2 H2) := by
  refine ⟨fun i m σ H => m = xs.length - i ∧ i ≤ xs.length ∧ Pv i σ H, ⟨xs.length, by simp, Nat.zero_le _, h0⟩, ?_⟩
  rintro i m σ H ⟨rfl, hi, p⟩
  have q := hl i σ H hi p
  by_cases hlt : i < xs.length
  · refine .inr ⟨⟨xs, xs[i], q, by simp [hlt]⟩, Pv (i + 1), fun σ' H' p' => ⟨xs.length - (i + 1), by omega, rfl, hlt, p'⟩, fun x H' y => ?_⟩
    obtain ⟨e, y⟩ := y
    subst e
    exact hs i x σ _ (y xs q) p
  · have e : i = xs.length := by omega
    subst e
    exact .inl ⟨⟨xs, q, Nat.le_refl _⟩, hd σ H p⟩
theorem for_range {lo : Int} {n : Nat} {g : TG} {tb : TS} {D : Ends} {σ : St} {H : Hp} (Pv : Nat → St → Hp → Prop) (h0 : Pv 0 σ H)
    (hs : ∀ i σ H, i < n → Pv i σ H → g (.int (lo + i)) σ H fun σ2 H2 => tb { D with nx := Pv (i + 1), ct := Pv (i + 1), bk := D.nx } σ2 H2) (hd : ∀ σ H, Pv n σ H → D.nx σ H) :
    ∃ W : Nat → Nat → St → Hp → Prop, (∃ m, W 0 m σ H) ∧ ∀ i m σ H, W i m σ H →
      ((Itr lo n).stop i H ∧ D.nx σ H) ∨ ((Itr lo n).go i H ∧ ∃ N : St → Hp → Prop, (∀ σ' H', N σ' H' → ∃ m', m' < m ∧ W (i + 1) m' σ' H') ∧ ∀ x H', (Itr lo n).yld i H x H' → g x σ H' fun σ2 H2 => tb { D with nx := N, ct := N, bk := D.nx } σ2 H2) := by
  refine ⟨fun i m σ H => m = n - i ∧ i ≤ n ∧ Pv i σ H, ⟨n, by simp, Nat.zero_le _, h0⟩, ?_⟩
  rintro i m σ H ⟨rfl, hi, p⟩
  by_cases hlt : i < n
  · refine .inr ⟨hlt, Pv (i + 1), fun σ' H' p' => ⟨n - (i + 1), by omega, rfl, hlt, p'⟩, fun x H' y => ?_⟩
    obtain ⟨e, y⟩ := y
    subst e y
    exact hs i σ _ hlt p
  · have e : i = n := by omega
    subst e
    exact .inl ⟨Nat.le_refl _, hd σ H p⟩
/-- while, by a word and a measure of the state -/
theorem while_by {c : TT} {tb : TS} {D : Ends} {σ : St} {H : Hp} (Pv : St → Hp → Prop) (μ : St → Hp → Nat) (h0 : Pv σ H)
    (hs : ∀ σ H, Pv σ H → c σ H fun b H1 => if b = true then tb { D with nx := fun σ' H' => Pv σ' H' ∧ μ σ' H' < μ σ H, ct := fun σ' H' => Pv σ' H' ∧ μ σ' H' < μ σ H, bk := D.nx } σ H1 else D.nx σ H1)
    (mono : ∀ σ H Q Q', (∀ b H1, Q b H1 → Q' b H1) → c σ H Q → c σ H Q') : tWhile c tb D σ H := by
  refine ⟨fun m σ H => m = μ σ H ∧ Pv σ H, ⟨_, rfl, h0⟩, ?_⟩
  rintro m σ H ⟨rfl, p⟩
  refine mono σ H _ _ (fun b H1 q => ?_) (hs σ H p)
  cases b with
  | true => exact ⟨_, fun σ' H' ⟨p', l⟩ => ⟨_, l, rfl, p'⟩, q⟩
  | false => exact q
end L2

namespace L2
open PySem PySem.Spec PyProof.Rows

abbrev R2 := V → V → Hp → VK → Prop
/-- a two-place operation on values: f is binaryOp op, inplaceOp op or compareOp op -/
def OpR (X : Cx) (f : Value → Value → Sem Value) (r : R2) : Prop :=
  ∀ (pins : List (Addr × Obj)) (s : Shared) (σ : St) (H : Hp) (x y : V) (v u : Value) (Q : VK), Inv X pins σ H s → RelV x v → RelV y u → r x y H Q →
    wpAny (model X.prog X.w) X.A (f v u) (EP X pins σ Q) X.xe s
/-- a one-place operation -/
def UnR (X : Cx) (f : Value → Sem Value) (r : V → Hp → VK → Prop) : Prop :=
  ∀ (pins : List (Addr × Obj)) (s : Shared) (σ : St) (H : Hp) (x : V) (v : Value) (Q : VK), Inv X pins σ H s → RelV x v → r x H Q →
    wpAny (model X.prog X.w) X.A (f v) (EP X pins σ Q) X.xe s
/-- a call of a value that is known (a builtin, a type) with values -/
def CallR (X : Cx) (f : Value) (r : List V → Hp → VK → Prop) : Prop :=
  ∀ (pins : List (Addr × Obj)) (s : Shared) (σ : St) (H : Hp) (xs : List V) (us : List Value) (Q : VK), Inv X pins σ H s → Vals xs us → r xs H Q →
    wpAny (model X.prog X.w) X.A (call f us) (EP X pins σ Q) X.xe s
/-- a value's truth -/
def TruR (X : Cx) (r : V → Hp → (Bool → Hp → Prop) → Prop) : Prop :=
  ∀ (pins : List (Addr × Obj)) (s : Shared) (σ : St) (H : Hp) (x : V) (v : Value) (Q : Bool → Hp → Prop), Inv X pins σ H s → RelV x v → r x H Q →
    wpAny (model X.prog X.w) X.A (truthy v) (TP X pins σ Q) X.xe s

def tOp (r : R2) (ta tb : TE) : TE := fun σ H Q => ta σ H fun x H1 => tb σ H1 fun y H2 => r x y H2 Q
def tUn (r : V → Hp → VK → Prop) (ta : TE) : TE := fun σ H Q => ta σ H fun x H1 => r x H1 Q
/-- ints in, under C, and a value out -/
def rI (C : Int → Int → Prop) (g : Int → Int → V) : R2 := fun x y H Q => ∃ i j, x = .int i ∧ y = .int j ∧ C i j ∧ Q (g i j) H
def rI0 (g : Int → Int → V) : R2 := fun x y H Q => ∃ i j, x = .int i ∧ y = .int j ∧ Q (g i j) H
def rU (g : Int → V) : V → Hp → VK → Prop := fun x H Q => ∃ i, x = .int i ∧ Q (g i) H

section
variable {X : Cx} {a b c : Expr} {ta tb tc : TE} {pos : Pos}

theorem binT (ha : PE X a ta) (hb : PE X b tb) {pins : List (Addr × Obj)} {s : Shared} {σ : St} {H : Hp} {R : V → V → Hp → Prop} (I : Inv X pins σ H s)
    (h : ta σ H fun x H1 => tb σ H1 fun y H2 => R x y H2) {Q : Value → Shared → Prop} {f : Value → Value → Sem Value}
    (hf : ∀ v u s2 x y H2, Inv X pins σ H2 s2 → RelV x v → RelV y u → R x y H2 → wpAny (model X.prog X.w) X.A (f v u) Q X.xe s2) :
    wpAny (model X.prog X.w) X.A (eval a X.env) (fun v s₁ => wpAny (model X.prog X.w) X.A (eval b X.env) (fun u s₂ => wpAny (model X.prog X.w) X.A (f v u) Q X.xe s₂) X.xe s₁) X.xe s := by
  refine thn (ha pins s σ H _ I h) fun v s1 ⟨x, H1, I1, r1, q1⟩ => ?_
  refine thn (hb pins s1 σ H1 _ I1 q1) fun u s2 ⟨y, H2, I2, r2, q2⟩ => ?_
  exact hf v u s2 x y H2 I2 r1 r2 q2

theorem pe_op {op : Operator} {r : R2} (ho : OpR X (binaryOp op) r) (ha : PE X a ta) (hb : PE X b tb) : PE X (.BinOp a op b pos) (tOp r ta tb) := by
  intro pins s σ H Q I h
  exact wpAny_BinOp (binT ha hb I h fun v u s2 x y H2 I2 rx ry q => ho pins s2 σ H2 x y v u Q I2 rx ry q)
theorem pe_un {op : UnaryOp} {r : V → Hp → VK → Prop} (ho : UnR X (unaryOp op) r) (ha : PE X a ta) : PE X (.UnaryOp op a pos) (tUn r ta) := by
  intro pins s σ H Q I h
  exact UnaryOp_ (thn (ha pins s σ H _ I h) fun v s1 ⟨x, H1, I1, r1, q1⟩ => ho pins s1 σ H1 x v Q I1 r1 q1)
/-- a op= e at a name: the name's slot i -/
theorem augR {op : Operator} {r : R2} (ho : OpR X (inplaceOp op) r) {pins : List (Addr × Obj)} {s : Shared} {σ : St} {H : Hp} {x y : V} {v u : Value} {Q : VK} (I : Inv X pins σ H s)
    (rx : RelV x v) (ry : RelV y u) (q : r x y H Q) : wpAny (model X.prog X.w) X.A (inplaceOp op v u) (EP X pins σ Q) X.xe s := ho pins s σ H x y v u Q I rx ry q

/-! ### ints -/
theorem opI {f : Value → Value → Sem Value} {C : Int → Int → Prop} {g : Int → Int → Int}
    (rule : ∀ (i j : Int) (t u : Tok) (s : Shared) (Q : Value → Shared → Prop) (E : Value → Shared → Prop), C i j → Q (.int (g i j) s.toks) { s with toks := s.toks + 1 } → wpAny (model X.prog X.w) X.A (f (.int i t) (.int j u)) Q E s) :
    OpR X f (rI C fun i j => .int (g i j)) := by
  intro pins s σ H x y v u Q I rx ry h
  obtain ⟨i, j, rfl, rfl, hc, q⟩ := h
  obtain ⟨t, rfl⟩ := rx
  obtain ⟨t', rfl⟩ := ry
  exact rule i j t t' s _ _ hc ⟨.int (g i j), H, I.tok _, ⟨_, rfl⟩, q⟩
theorem opI0 {f : Value → Value → Sem Value} {g : Int → Int → Int}
    (rule : ∀ (i j : Int) (t u : Tok) (s : Shared) (Q : Value → Shared → Prop) (E : Value → Shared → Prop), Q (.int (g i j) s.toks) { s with toks := s.toks + 1 } → wpAny (model X.prog X.w) X.A (f (.int i t) (.int j u)) Q E s) :
    OpR X f (rI0 fun i j => .int (g i j)) := by
  intro pins s σ H x y v u Q I rx ry h
  obtain ⟨i, j, rfl, rfl, q⟩ := h
  obtain ⟨t, rfl⟩ := rx
  obtain ⟨t', rfl⟩ := ry
  exact rule i j t t' s _ _ ⟨.int (g i j), H, I.tok _, ⟨_, rfl⟩, q⟩
theorem opB0 {f : Value → Value → Sem Value} {g : Int → Int → Bool}
    (rule : ∀ (i j : Int) (t u : Tok) (s : Shared) (Q : Value → Shared → Prop) (E : Value → Shared → Prop), Q (.bool (g i j)) s → wpAny (model X.prog X.w) X.A (f (.int i t) (.int j u)) Q E s) :
    OpR X f (rI0 fun i j => .bl (g i j)) := by
  intro pins s σ H x y v u Q I rx ry h
  obtain ⟨i, j, rfl, rfl, q⟩ := h
  obtain ⟨t, rfl⟩ := rx
  obtain ⟨t', rfl⟩ := ry
  exact rule i j t t' s _ _ ⟨.bl (g i j), H, I, rfl, q⟩

def CDiv (i j : Int) : Prop := 0 < j ∧ j < 1073741824
def CDivN (i j : Int) : Prop := j ≠ 0 ∧ j.natAbs < 1073741824
def CPow (i j : Int) : Prop := 0 ≤ j ∧ j ≤ 1000000 ∧ i.natAbs < 2 ^ 64
def CMul (i j : Int) : Prop := (-(2 ^ 64) < i ∧ i < 2 ^ 64) ∨ (-(2 ^ 64) < j ∧ j < 2 ^ 64)
theorem CMul.ok {i j : Int} (h : CMul i j) : IntMulOk i j := by
  rcases h with ⟨h1, h2⟩ | ⟨h1, h2⟩
  · exact .of_left (intBits_le_64 h1 h2)
  · exact .of_right (intBits_le_64 h1 h2)
theorem two_pow_nn (k : Nat) : (0 : Int) ≤ 2 ^ k := by
  rw [two_pow_cast]
  exact Int.natCast_nonneg _

theorem op_add : OpR X (binaryOp .Add) (rI0 fun i j => .int (i + j)) := opI0 fun _ _ _ _ _ _ _ q => add_int q
theorem op_sub : OpR X (binaryOp .Sub) (rI0 fun i j => .int (i - j)) := opI0 fun _ _ _ _ _ _ _ q => sub_int q
theorem op_mul : OpR X (binaryOp .Mult) (rI CMul fun i j => .int (i * j)) := opI fun _ _ _ _ _ _ _ hc q => mul_int q hc.ok
/-- // by a positive divisor -/
theorem op_fdiv : OpR X (binaryOp .FloorDiv) (rI CDiv fun i j => .int (i / j)) := opI fun i j _ _ _ _ _ hc q => by
  have h1 : (0 : Int) < j := hc.1
  have h2 : j < 1073741824 := hc.2
  exact floordiv_int (by omega) (by rw [Int.fdiv_eq_ediv_of_nonneg i (by omega)]; exact q) (.inl (PyProof.noPylong_small (by omega)))
theorem op_fdivN : OpR X (binaryOp .FloorDiv) (rI CDivN fun i j => .int (i.fdiv j)) := opI fun _ _ _ _ _ _ _ hc q => floordiv_int hc.1 q (.inl (PyProof.noPylong_small hc.2))
/-- % by a positive divisor of any size -/
theorem op_mod : OpR X (binaryOp .Mod) (rI (fun _ j => 0 < j) fun i j => .int (i % j)) := opI fun i j _ _ _ _ _ hc q => by
  have h1 : (0 : Int) < j := hc
  exact mod_int' (by omega) (by rw [Int.fmod_eq_emod_of_nonneg i (by omega)]; exact q)
theorem op_modN : OpR X (binaryOp .Mod) (rI (fun _ j => j ≠ 0) fun i j => .int (i.fmod j)) := opI fun _ _ _ _ _ _ _ hc q => mod_int' hc q
theorem op_pow : OpR X (binaryOp .Pow) (rI CPow fun i j => .int (i ^ j.toNat)) := opI fun _ _ _ _ _ _ _ hc q => pow_int_small hc.1 hc.2.1 hc.2.2 q
theorem op_shl : OpR X (binaryOp .LShift) (rI CPow fun i j => .int (i * 2 ^ j.toNat)) := opI fun _ _ _ _ _ _ _ hc q => lshift_int_small hc.1 hc.2.1 hc.2.2 q
theorem op_shr : OpR X (binaryOp .RShift) (rI (fun _ j => 0 ≤ j) fun i j => .int (i / 2 ^ j.toNat)) := opI fun i j _ _ _ _ _ hc q =>
  rshift_int hc (by rw [Int.fdiv_eq_ediv_of_nonneg i (two_pow_nn _)]; exact q)
theorem op_and : OpR X (binaryOp .BitAnd) (rI0 fun i j => .int (Builtin.bitAnd i j)) := opI0 fun _ _ _ _ _ _ _ q => and_int q
theorem op_or : OpR X (binaryOp .BitOr) (rI0 fun i j => .int (Builtin.bitOr i j)) := opI0 fun _ _ _ _ _ _ _ q => or_int q
theorem op_xor : OpR X (binaryOp .BitXor) (rI0 fun i j => .int (Builtin.bitXor i j)) := opI0 fun _ _ _ _ _ _ _ q => xor_int q

theorem iop_add : OpR X (inplaceOp .Add) (rI0 fun i j => .int (i + j)) := opI0 fun _ _ _ _ _ _ _ q => iadd_int q
theorem iop_sub : OpR X (inplaceOp .Sub) (rI0 fun i j => .int (i - j)) := opI0 fun _ _ _ _ _ _ _ q => isub_int q
theorem iop_mul : OpR X (inplaceOp .Mult) (rI CMul fun i j => .int (i * j)) := opI fun _ _ _ _ _ _ _ hc q => imul_int q hc.ok
theorem iop_fdiv : OpR X (inplaceOp .FloorDiv) (rI CDiv fun i j => .int (i / j)) := opI fun i j _ _ _ _ _ hc q => by
  have h1 : (0 : Int) < j := hc.1
  have h2 : j < 1073741824 := hc.2
  exact ifloordiv_int (by omega) (by rw [Int.fdiv_eq_ediv_of_nonneg i (by omega)]; exact q) (.inl (PyProof.noPylong_small (by omega)))
theorem iop_mod : OpR X (inplaceOp .Mod) (rI (fun _ j => 0 < j) fun i j => .int (i % j)) := opI fun i j _ _ _ _ _ hc q => by
  have h1 : (0 : Int) < j := hc
  exact imod_int (by omega) (by rw [Int.fmod_eq_emod_of_nonneg i (by omega)]; exact q)
theorem iop_shl : OpR X (inplaceOp .LShift) (rI CPow fun i j => .int (i * 2 ^ j.toNat)) := opI fun _ _ _ _ _ _ _ hc q => ilshift_int_small hc.1 hc.2.1 hc.2.2 q
theorem iop_shr : OpR X (inplaceOp .RShift) (rI (fun _ j => 0 ≤ j) fun i j => .int (i / 2 ^ j.toNat)) := opI fun i j _ _ _ _ _ hc q =>
  irshift_int hc (by rw [Int.fdiv_eq_ediv_of_nonneg i (two_pow_nn _)]; exact q)
theorem iop_and : OpR X (inplaceOp .BitAnd) (rI0 fun i j => .int (Builtin.bitAnd i j)) := opI0 fun _ _ _ _ _ _ _ q => iand_int q
theorem iop_or : OpR X (inplaceOp .BitOr) (rI0 fun i j => .int (Builtin.bitOr i j)) := opI0 fun _ _ _ _ _ _ _ q => ior_int q
theorem iop_xor : OpR X (inplaceOp .BitXor) (rI0 fun i j => .int (Builtin.bitXor i j)) := opI0 fun _ _ _ _ _ _ _ q => ixor_int q

theorem unI {f : Value → Sem Value} {g : Int → Int}
    (rule : ∀ (i : Int) (t : Tok) (s : Shared) (Q : Value → Shared → Prop) (E : Value → Shared → Prop), Q (.int (g i) s.toks) { s with toks := s.toks + 1 } → wpAny (model X.prog X.w) X.A (f (.int i t)) Q E s) :
    UnR X f (rU fun i => .int (g i)) := by
  intro pins s σ H x v Q I rx h
  obtain ⟨i, rfl, q⟩ := h
  obtain ⟨t, rfl⟩ := rx
  exact rule i t s _ _ ⟨.int (g i), H, I.tok _, ⟨_, rfl⟩, q⟩
theorem un_neg : UnR X (unaryOp .USub) (rU fun i => .int (-i)) := unI fun _ _ _ _ _ q => neg_int q
theorem un_inv : UnR X (unaryOp .Invert) (rU fun i => .int (Builtin.bitNot i)) := unI fun _ _ _ _ _ q => invert_int q

/-! ### bools among ints: n += (a < b) -/
theorem op_add_ib : OpR X (binaryOp .Add) (fun x y H Q => ∃ i k, x = .int i ∧ y = .bl k ∧ Q (.int (i + b2i k)) H) := by
  intro pins s σ H x y v u Q I rx ry h
  obtain ⟨i, k, rfl, rfl, q⟩ := h
  obtain ⟨t, rfl⟩ := rx
  cases ry
  exact add_int_bool ⟨.int (i + b2i k), H, I.tok _, ⟨_, rfl⟩, q⟩
end

/-! ### comparisons -/
/-- the scalars that == tells apart as data does -/
def scal : V → V → Bool
  | .non, .non => true | .non, .int _ => true | .int _, .non => true | .non, .bl _ => true | .bl _, .non => true | .non, .str _ => true | .str _, .non => true
  | .int _, .int _ => true | .bl _, .bl _ => true | .str _, .str _ => true | .byt _, .byt _ => true
  | .int _, .str _ => true | .str _, .int _ => true | .bl _, .str _ => true | .str _, .bl _ => true
  | _, _ => false
def rEq : R2 := fun x y H Q => scal x y = true ∧ Q (.bl (decide (x = y))) H
def rNe : R2 := fun x y H Q => scal x y = true ∧ Q (.bl (!decide (x = y))) H

theorem dec_int {i j : Int} : decide (V.int i = V.int j) = (i == j) := by
  rw [Bool.eq_iff_iff]
  simp
theorem dec_bl {i j : Bool} : decide (V.bl i = V.bl j) = (i == j) := by
  rw [Bool.eq_iff_iff]
  simp
theorem dec_str {i j : Str} : decide (V.str i = V.str j) = (i == j) := by
  rw [Bool.eq_iff_iff]
  simp
theorem dec_byt {i j : Array UInt8} : decide (V.byt i = V.byt j) = (i.toList == j.toList) := by
  rw [Bool.eq_iff_iff]
  cases i
  cases j
  simp

section
variable {X : Cx} {a b c : Expr} {ta tb tc : TE} {pos : Pos}
theorem fin_bl {pins : List (Addr × Obj)} {σ : St} {H : Hp} {s : Shared} {Q : VK} {k k' : Bool} (I : Inv X pins σ H s) (q : Q (.bl k) H) (e : k = k') : EP X pins σ Q (.bool k') s := by
  subst e
  exact ⟨.bl k, H, I, rfl, q⟩
theorem op_eq : OpR X (compareOp .Eq) rEq := by
  intro pins s σ H x y v u Q I rx ry h
  obtain ⟨hs, q⟩ := h
  cases x with
  | non =>
    cases rx
    cases y with
    | non => cases ry; exact PySem.EqNone.eq_none_none (fin_bl I q (by simp))
    | bl j => cases ry; exact PySem.EqNone.eq_none_bool (fin_bl I q (by simp))
    | int j => obtain ⟨t', rfl⟩ := ry; exact PySem.EqNone.eq_none_int (fin_bl I q (by simp))
    | str j => obtain ⟨t', rfl⟩ := ry; exact PySem.EqNone.eq_none_str (fin_bl I q (by simp))
    | _ => exact absurd (show false = true from hs) Bool.false_ne_true
  | bl i =>
    cases rx
    cases y with
    | non => cases ry; exact PySem.EqNone.eq_bool_none (fin_bl I q (by simp))
    | bl j => cases ry; exact eq_bool (fin_bl I q dec_bl)
    | str j => obtain ⟨t', rfl⟩ := ry; exact PySem.EqMixed.eq_bool_str (fin_bl I q (by simp))
    | _ => exact absurd (show false = true from hs) Bool.false_ne_true
  | int i =>
    obtain ⟨t, rfl⟩ := rx
    cases y with
    | non => cases ry; exact PySem.EqNone.eq_int_none (fin_bl I q (by simp))
    | int j => obtain ⟨t', rfl⟩ := ry; exact eq_int (fin_bl I q dec_int)
    | str j => obtain ⟨t', rfl⟩ := ry; exact PySem.EqMixed.eq_int_str (fin_bl I q (by simp))
    | _ => exact absurd (show false = true from hs) Bool.false_ne_true
  | str i =>
    obtain ⟨t, rfl⟩ := rx
    cases y with
    | non => cases ry; exact PySem.EqNone.eq_str_none (fin_bl I q (by simp))
    | bl j => cases ry; exact PySem.EqMixed.eq_str_bool (fin_bl I q (by simp))
    | int j => obtain ⟨t', rfl⟩ := ry; exact PySem.EqMixed.eq_str_int (fin_bl I q (by simp))
    | str j => obtain ⟨t', rfl⟩ := ry; exact eq_str (fin_bl I q dec_str)
    | _ => exact absurd (show false = true from hs) Bool.false_ne_true
  | byt i =>
    obtain ⟨t, rfl⟩ := rx
    cases y with
    | byt j => obtain ⟨t', rfl⟩ := ry; exact PySem.W.eq_bytes (fin_bl I q dec_byt)
    | _ => exact absurd (show false = true from hs) Bool.false_ne_true
  | _ => cases y <;> exact absurd (show false = true from hs) Bool.false_ne_true
theorem op_ne : OpR X (compareOp .NotEq) rNe := by
  intro pins s σ H x y v u Q I rx ry h
  obtain ⟨hs, q⟩ := h
  cases x with
  | non =>
    cases rx
    cases y with
    | non => cases ry; exact PySem.EqNone.ne_none_none (fin_bl I q (by simp))
    | bl j => cases ry; exact PySem.EqNone.ne_none_bool (fin_bl I q (by simp))
    | int j => obtain ⟨t', rfl⟩ := ry; exact PySem.EqNone.ne_none_int (fin_bl I q (by simp))
    | str j => obtain ⟨t', rfl⟩ := ry; exact PySem.EqNone.ne_none_str (fin_bl I q (by simp))
    | _ => exact absurd (show false = true from hs) Bool.false_ne_true
  | bl i =>
    cases rx
    cases y with
    | non => cases ry; exact PySem.EqNone.ne_bool_none (fin_bl I q (by simp))
    | bl j => cases ry; exact ne_bool (fin_bl I q (congrArg not dec_bl))
    | str j => obtain ⟨t', rfl⟩ := ry; exact PySem.EqMixed.ne_bool_str (fin_bl I q (by simp))
    | _ => exact absurd (show false = true from hs) Bool.false_ne_true
  | int i =>
    obtain ⟨t, rfl⟩ := rx
    cases y with
    | non => cases ry; exact PySem.EqNone.ne_int_none (fin_bl I q (by simp))
    | int j => obtain ⟨t', rfl⟩ := ry; exact ne_int (fin_bl I q (congrArg not dec_int))
    | str j => obtain ⟨t', rfl⟩ := ry; exact PySem.EqMixed.ne_int_str (fin_bl I q (by simp))
    | _ => exact absurd (show false = true from hs) Bool.false_ne_true
  | str i =>
    obtain ⟨t, rfl⟩ := rx
    cases y with
    | non => cases ry; exact PySem.EqNone.ne_str_none (fin_bl I q (by simp))
    | bl j => cases ry; exact PySem.EqMixed.ne_str_bool (fin_bl I q (by simp))
    | int j => obtain ⟨t', rfl⟩ := ry; exact PySem.EqMixed.ne_str_int (fin_bl I q (by simp))
    | str j => obtain ⟨t', rfl⟩ := ry; exact ne_str (fin_bl I q (congrArg not dec_str))
    | _ => exact absurd (show false = true from hs) Bool.false_ne_true
  | byt i =>
    obtain ⟨t, rfl⟩ := rx
    cases y with
    | byt j => obtain ⟨t', rfl⟩ := ry; exact PySem.W.ne_bytes (fin_bl I q (congrArg not dec_byt))
    | _ => exact absurd (show false = true from hs) Bool.false_ne_true
  | _ => cases y <;> exact absurd (show false = true from hs) Bool.false_ne_true

theorem op_lt : OpR X (compareOp .Lt) (rI0 fun i j => .bl (decide (i < j))) := opB0 fun _ _ _ _ _ _ _ q => lt_int q
theorem op_le : OpR X (compareOp .LtE) (rI0 fun i j => .bl (decide (i ≤ j))) := opB0 fun _ _ _ _ _ _ _ q => le_int q
theorem op_gt : OpR X (compareOp .Gt) (rI0 fun i j => .bl (decide (j < i))) := opB0 fun _ _ _ _ _ _ _ q => gt_int q
theorem op_ge : OpR X (compareOp .GtE) (rI0 fun i j => .bl (decide (j ≤ i))) := opB0 fun _ _ _ _ _ _ _ q => ge_int q
theorem op_lt_str : OpR X (compareOp .Lt) (fun x y H Q => ∃ i j, x = .str i ∧ y = .str j ∧ Q (.bl (decide (i.cps.toList < j.cps.toList))) H) := by
  intro pins s σ H x y v u Q I rx ry h
  obtain ⟨i, j, rfl, rfl, q⟩ := h
  obtain ⟨t, rfl⟩ := rx
  obtain ⟨t', rfl⟩ := ry
  exact lt_str (fin_bl I q rfl)
/-- the one string within the other -/
theorem op_in_str : OpR X (compareOp .In) (fun x y H Q => ∃ i j, x = .str i ∧ y = .str j ∧ Q (.bl (!(Builtin.Str.occurrences j i 0 j.length 1).isEmpty)) H) := by
  intro pins s σ H x y v u Q I rx ry h
  obtain ⟨i, j, rfl, rfl, q⟩ := h
  obtain ⟨t, rfl⟩ := rx
  obtain ⟨t', rfl⟩ := ry
  exact in_str (fin_bl I q rfl)

/-- is None, is not None: the right side a value none -/
theorem op_isN : OpR X (compareOp .Is) (fun x y H Q => y = .non ∧ Q (.bl (decide (x = .non))) H) := by
  intro pins s σ H x y v u Q I rx ry h
  obtain ⟨rfl, q⟩ := h
  cases ry
  refine is_none_gen (fin_bl I q ?_)
  cases x <;> first
    | (cases rx; rfl)
    | (obtain ⟨t, rfl⟩ := rx; rfl)
theorem op_notN : OpR X (compareOp .IsNot) (fun x y H Q => y = .non ∧ Q (.bl (!decide (x = .non))) H) := by
  intro pins s σ H x y v u Q I rx ry h
  obtain ⟨rfl, q⟩ := h
  cases ry
  refine isnot_none_gen (fin_bl I q ?_)
  cases x <;> first
    | (cases rx; rfl)
    | (obtain ⟨t, rfl⟩ := rx; rfl)

theorem op_notin_str : OpR X (compareOp .NotIn) (fun x y H Q => ∃ i j, x = .str i ∧ y = .str j ∧ Q (.bl (!(!(Builtin.Str.occurrences j i 0 j.length 1).isEmpty))) H) := by
  intro pins s σ H x y v u Q I rx ry h
  obtain ⟨i, j, rfl, rfl, q⟩ := h
  obtain ⟨t, rfl⟩ := rx
  obtain ⟨t', rfl⟩ := ry
  exact notIn_str (fin_bl I q rfl)
/-- is, is not of two objects that are tracked lists or instances -/
def isObj : HO → Bool
  | .lst _ => true
  | .ins _ _ _ => true
  | _ => false
theorem obj_there {pins : List (Addr × Obj)} {s : Shared} {σ : St} {H : Hp} {a : Addr} {o : HO} (I : Inv X pins σ H s) (h : H a = some o) (p : isObj o = true) : ∃ ob, s.heap.get? a = some ob ∧ ob.cls ≠ .type "tuple" := by
  cases o with
  | lst xs =>
    obtain ⟨_, its, n, _, e⟩ : xs.length ≤ sizeLine ∧ ∃ (its : List Value) (n : Nat), Vals xs its ∧ s.heap.get? a = some { cls := .type "list", data := .seq its.toArray n } := I.hok a _ h
    exact ⟨_, e, (by show Value.type "list" ≠ .type "tuple"; decide +kernel)⟩
  | ins C dx fs =>
    have x := I.hok a _ h
    obtain ⟨_, _, _, e, _⟩ := x
    exact ⟨_, e, (by show Value.ref C ≠ .type "tuple"; exact fun z => by cases z)⟩
  | _ => exact absurd (show false = true from p) Bool.false_ne_true
theorem op_is_ref : OpR X (compareOp .Is) (fun x y H Q => ∃ a b oa ob, x = .ref a ∧ y = .ref b ∧ H a = some oa ∧ isObj oa = true ∧ H b = some ob ∧ isObj ob = true ∧ Q (.bl (decide (a = b))) H) := by
  intro pins s σ H x y v u Q I rx ry h
  obtain ⟨a, b, oa, ob, rfl, rfl, ha, pa, hb, pb, q⟩ := h
  cases rx
  cases ry
  obtain ⟨o1, e1, n1⟩ := obj_there I ha pa
  obtain ⟨o2, e2, _⟩ := obj_there I hb pb
  by_cases z : a = b
  · subst z
    exact wpAny_is_ref_self (fin_bl I q (by simp))
  · exact wpAny_is_ref_other z e1 e2 n1 (fin_bl I q (by simp [z]))
theorem op_isnot_ref : OpR X (compareOp .IsNot) (fun x y H Q => ∃ a b oa ob, x = .ref a ∧ y = .ref b ∧ H a = some oa ∧ isObj oa = true ∧ H b = some ob ∧ isObj ob = true ∧ Q (.bl (!decide (a = b))) H) := by
  intro pins s σ H x y v u Q I rx ry h
  obtain ⟨a, b, oa, ob, rfl, rfl, ha, pa, hb, pb, q⟩ := h
  cases rx
  cases ry
  obtain ⟨o1, e1, n1⟩ := obj_there I ha pa
  obtain ⟨o2, e2, _⟩ := obj_there I hb pb
  by_cases z : a = b
  · subst z
    exact wpAny_isNot_ref_self (fin_bl I q (by simp))
  · exact wpAny_isNot_ref_other z e1 e2 n1 (fin_bl I q (by simp [z]))

/-- two rules for one operation: by cases -/
theorem OpR.or {f : Value → Value → Sem Value} {r r' : R2} (h : OpR X f r) (h' : OpR X f r') : OpR X f (fun x y H Q => r x y H Q ∨ r' x y H Q) := by
  intro pins s σ H x y v u Q I rx ry q
  rcases q with q | q
  · exact h pins s σ H x y v u Q I rx ry q
  · exact h' pins s σ H x y v u Q I rx ry q

theorem nomark (b : Expr) {op : CmpOp} (h : op ≠ .In := by decide) (h2 : op ≠ .NotIn := by decide) : behindInMarks op b = false := by
  have e1 : (op == CmpOp.In) = false := by cases op <;> first | rfl | exact absurd rfl h
  have e2 : (op == CmpOp.NotIn) = false := by cases op <;> first | rfl | exact absurd rfl h2
  cases b <;> simp [behindInMarks, e1, e2]
/-- a comparison as a value; hm: nomark b, or (for in, not in) by with_unfolding_all rfl -/
theorem pe_cmpR {op : CmpOp} {r : R2} (ho : OpR X (compareOp op) r) (ha : PE X a ta) (hb : PE X b tb) (hm : behindInMarks op b = false) : PE X (.Compare a [op] [b] pos) (tOp r ta tb) := by
  intro pins s σ H Q I h
  exact wpAny_Compare1 (binT ha hb I h fun v u s2 x y H2 I2 rx ry q => ho pins s2 σ H2 x y v u Q I2 rx ry q) hm
/-- a reading of a value as a test -/
def tTest (t : TE) : TT := fun σ H Q => t σ H fun x H' => ∃ k, x = .bl k ∧ Q k H'
theorem pt_cmpR {op : CmpOp} {r : R2} (ho : OpR X (compareOp op) r) (ha : PE X a ta) (hb : PE X b tb) (hm : behindInMarks op b = false) : PT X (.Compare a [op] [b] pos) (tTest (tOp r ta tb)) := by
  intro pins s σ H Q I h
  refine wpAny_isTrue_Compare1 (thn (ha pins s σ H _ I h) fun v s1 ⟨x, H1, I1, r1, q1⟩ => thn (hb pins s1 σ H1 _ I1 q1) fun u s2 ⟨y, H2, I2, r2, q2⟩ =>
    thn (ho pins s2 σ H2 x y v u _ I2 r1 r2 q2) fun c s3 ⟨z, H3, I3, r3, k, e, q3⟩ => ?_) hm
  subst e
  cases r3
  exact wpAny_truthy_bool ⟨H3, I3, q3⟩
/-- a op1 b op2 c -/
def tChain (r r' : R2) (ta tb tc : TE) : TE := fun σ H Q => ta σ H fun x H1 => tb σ H1 fun y H2 => r x y H2 fun z H3 => ∃ k, z = .bl k ∧
  (if k = true then tc σ H3 fun w' H4 => r' y w' H4 Q else Q (.bl false) H3)
theorem pe_chain {op op' : CmpOp} {r r' : R2} (ho : OpR X (compareOp op) r) (ho' : OpR X (compareOp op') r') (ha : PE X a ta) (hb : PE X b tb) (hc : PE X c tc)
    (hm : lastMarks [op, op'] [b, c] = false := by with_unfolding_all rfl) : PE X (.Compare a [op, op'] [b, c] pos) (tChain r r' ta tb tc) := by
  intro pins s σ H Q I h
  refine Compare_chain (thn (ha pins s σ H _ I h) fun v s1 ⟨x, H1, I1, r1, q1⟩ => chain_link (thn (hb pins s1 σ H1 _ I1 q1) fun u s2 ⟨y, H2, I2, r2, q2⟩ =>
    thn (ho pins s2 σ H2 x y v u _ I2 r1 r2 q2) fun d s3 ⟨z, H3, I3, r3, k, e, q3⟩ => ?_)) hm
  subst e
  cases r3
  refine wpAny_truthy_bool ?_
  cases k with
  | false => exact ite_ff ⟨.bl false, H3, I3, rfl, q3⟩
  | true => exact ite_tt (chain_last (thn (hc pins s3 σ H3 _ I3 q3) fun w' s4 ⟨z', H4, I4, r4, q4⟩ => ho' pins s4 σ H4 y z' u w' Q I4 r2 r4 q4))
theorem pt_chain {op op' : CmpOp} {r r' : R2} (ho : OpR X (compareOp op) r) (ho' : OpR X (compareOp op') r') (ha : PE X a ta) (hb : PE X b tb) (hc : PE X c tc)
    (hm : lastMarks [op, op'] [b, c] = false := by with_unfolding_all rfl) : PT X (.Compare a [op, op'] [b, c] pos) (tTest (tChain r r' ta tb tc)) := by
  intro pins s σ H Q I h
  refine isTrue_chain (thn (ha pins s σ H _ I h) fun v s1 ⟨x, H1, I1, r1, q1⟩ => test_link (thn (hb pins s1 σ H1 _ I1 q1) fun u s2 ⟨y, H2, I2, r2, q2⟩ =>
    thn (ho pins s2 σ H2 x y v u _ I2 r1 r2 q2) fun d s3 ⟨z, H3, I3, r3, k, e, q3⟩ => ?_)) hm
  subst e
  cases r3
  refine wpAny_truthy_bool ?_
  cases k with
  | false =>
    obtain ⟨k', e', q'⟩ := q3
    cases e'
    exact ite_ff ⟨H3, I3, q'⟩
  | true =>
    refine ite_tt (test_last (thn (hc pins s3 σ H3 _ I3 q3) fun w' s4 ⟨z', H4, I4, r4, q4⟩ => thn (ho' pins s4 σ H4 y z' u w' _ I4 r2 r4 q4) fun d' s5 ⟨z2, H5, I5, r5, k2, e2, q5⟩ => ?_))
    subst e2
    cases r5
    exact wpAny_truthy_bool ⟨H5, I5, q5⟩

/-! ### truth -/
/-- a value's truth by the abstract heap -/
def TruV (K : PySem.W.Frag) (x : V) (H : Hp) (k : Bool) : Prop :=
  match x with
  | .non => k = false
  | .bl b => k = b
  | .int i => k = (i != 0)
  | .str y => y.length ≤ sizeLine ∧ k = ((y.length : Int) != 0)
  | .byt y => y.size ≤ sizeLine ∧ k = ((y.size : Int) != 0)
  | .ref p => (∃ xs, SqL K H p xs ∧ k = !xs.isEmpty) ∨ (∃ xs, SqT K H p xs ∧ k = !xs.isEmpty) ∨ ∃ kvs, H p = some (.dK kvs) ∧ k = !kvs.isEmpty
  | _ => False
theorem isEmpty_kv {κ : Type} {kvs : List (κ × V)} {vs : List (κ × Value)} (r : KV kvs vs) : (!vs.isEmpty) = !kvs.isEmpty := by
  cases r <;> rfl
theorem isEmpty_of {xs : List V} {its : List Value} (r : Vals xs its) : (!its.toArray.isEmpty) = !xs.isEmpty := by
  cases r <;> simp
theorem line63 : (sizeLine : Nat) < 2 ^ 63 := by rw [sizeLine_eq]; decide
theorem tru_ok : TruR X (fun x H Q => ∃ k, TruV X.K x H k ∧ Q k H) := by
  intro pins s σ H x v Q I rx h
  obtain ⟨k, e, q⟩ := h
  have hl := line63
  have hs : sizeLine = 16777216 := sizeLine_eq
  cases x with
  | non =>
    cases rx
    have e' : k = false := e
    subst e'
    exact truthy_none ⟨H, I, q⟩
  | bl b =>
    cases rx
    have e' : k = b := e
    subst e'
    exact wpAny_truthy_bool ⟨H, I, q⟩
  | int i =>
    obtain ⟨t, rfl⟩ := rx
    have e' : k = (i != 0) := e
    subst e'
    exact PySem.P.truthy_int ⟨H, I, q⟩
  | str y =>
    obtain ⟨t, rfl⟩ := rx
    obtain ⟨hy, e'⟩ : y.length ≤ sizeLine ∧ k = ((y.length : Int) != 0) := e
    subst e'
    exact PySem.P.truthy_str (by omega) ⟨H, I.tok _, q⟩
  | byt y =>
    obtain ⟨t, rfl⟩ := rx
    obtain ⟨hy, e'⟩ : y.size ≤ sizeLine ∧ k = ((y.size : Int) != 0) := e
    subst e'
    exact PySem.W.truthy_bytes (by omega) ⟨H, I.tok _, q⟩
  | ref p =>
    cases rx
    have e' : (∃ xs, SqL X.K H p xs ∧ k = !xs.isEmpty) ∨ (∃ xs, SqT X.K H p xs ∧ k = !xs.isEmpty) ∨ ∃ kvs, H p = some (.dK kvs) ∧ k = !kvs.isEmpty := e
    rcases e' with ⟨xs, hx, e'⟩ | ⟨xs, hx, e'⟩ | ⟨kvs, hx, e'⟩
    · subst e'
      obtain ⟨its, r, pl, hz⟩ := I.list hx
      have hlen := r.length
      exact wpAny_truthy_list pl.isList (by simp only [List.size_toArray]; omega) ⟨H, I.tok _, by rw [isEmpty_of r]; exact q⟩
    · subst e'
      obtain ⟨its, r, pl, hz⟩ := I.tuple hx
      have hlen := r.length
      exact truthy_tuple pl (by simp only [List.size_toArray]; omega) ⟨H, I.tok _, by rw [isEmpty_of r]; exact q⟩
    · subst e'
      obtain ⟨hz, hS, vs, r, m⟩ : kvs.length ≤ sizeLine ∧ (p == sysModules) = false ∧ ∃ vs, KV kvs vs ∧ s.heap.DictOf (mixKind X.prog X.w) p vs := I.hok p _ hx
      have hlen : kvs.length = vs.length := Paired.length r
      exact wpAny_truthy_dict hS m (by omega) ⟨H, I.tok _, by rw [isEmpty_kv r]; exact q⟩
  | _ => exact (show False from e).elim
/-- any expression whose test is its value's truth (a name, a call, a subscript, a field ..: he by fun _ => rfl) -/
theorem pt_truth (ha : PE X a ta) (he : ∀ whole, isTrue a X.env whole = (do let v ← whole; standAt a.pos; holding [v] (truthy v))) :
    PT X a (fun σ H Q => ta σ H fun x H' => ∃ k, TruV X.K x H' k ∧ Q k H') := by
  intro pins s σ H Q I h
  exact isTrue_plain (thn (ha pins s σ H _ I h) fun v s1 ⟨x, H1, I1, r1, q1⟩ => tru_ok pins s1 σ H1 x v Q I1 r1 q1) (he _)

/-! ### strs and bytes -/
theorem pe_byt {x : List UInt8} {k : Nat} : PE X (.Constant (.bytes x) k pos) (fun _ H Q => Q (.byt x.toArray) H) := fun _ _ _ H _ I h => PySem.W.Constant_bytes ⟨.byt x.toArray, H, I.tok _, ⟨_, rfl⟩, h⟩
theorem op_add_str : OpR X (binaryOp .Add) (fun x y H Q => ∃ i j, x = .str i ∧ y = .str j ∧ i.length + j.length ≤ sizeLine ∧ Q (.str (i ++ j)) H) := by
  intro pins s σ H x y v u Q I rx ry h
  obtain ⟨i, j, rfl, rfl, hz, q⟩ := h
  obtain ⟨t, rfl⟩ := rx
  obtain ⟨t', rfl⟩ := ry
  exact add_str (fun t' tk => ⟨.str (i ++ j), H, I.tok _, ⟨_, rfl⟩, q⟩) hz
theorem iop_add_str : OpR X (inplaceOp .Add) (fun x y H Q => ∃ i j, x = .str i ∧ y = .str j ∧ i.length + j.length ≤ sizeLine ∧ Q (.str (i ++ j)) H) := by
  intro pins s σ H x y v u Q I rx ry h
  obtain ⟨i, j, rfl, rfl, hz, q⟩ := h
  obtain ⟨t, rfl⟩ := rx
  obtain ⟨t', rfl⟩ := ry
  exact iadd_str (fun t' tk => ⟨.str (i ++ j), H, I.tok _, ⟨_, rfl⟩, q⟩) hz
theorem op_add_byt : OpR X (binaryOp .Add) (fun x y H Q => ∃ i j, x = .byt i ∧ y = .byt j ∧ i.size + j.size ≤ 16777216 ∧ Q (.byt (i ++ j)) H) := by
  intro pins s σ H x y v u Q I rx ry h
  obtain ⟨i, j, rfl, rfl, hz, q⟩ := h
  obtain ⟨t, rfl⟩ := rx
  obtain ⟨t', rfl⟩ := ry
  exact PySem.W.KBy.add_bytes hz (fun t' tk => ⟨.byt (i ++ j), H, I.tok _, ⟨_, rfl⟩, q⟩)

def PlainIxT (b : Expr) : Prop := ∀ o i, subscripted b false o i = operate [o, i] (getItem o i)
/-- s[i], 0 ≤ i < len -/
theorem pe_item_str (ha : PE X a ta) (hb : PE X b tb) (hs : PlainIxT b) :
    PE X (.Subscript a b pos) (tOp (fun x y H Q => ∃ z i c, x = .str z ∧ y = .int i ∧ 0 ≤ i ∧ i < 2 ^ 63 ∧ i < z.length ∧ z.cps[i.toNat]? = some c ∧ Q (.str ⟨#[c]⟩) H) ta tb) := by
  intro pins s σ H Q I h
  refine Subscript_ (binT ha hb I h fun v u s2 x y H2 I2 rx ry q => ?_)
  obtain ⟨z, i, c, rfl, rfl, h0, h63, h1, hc, q⟩ := q
  obtain ⟨t, rfl⟩ := rx
  obtain ⟨t', rfl⟩ := ry
  have e : seqIndex? i z.length = some i.toNat := PySem.StrLaws.seqIndex_nonneg h0 h1
  exact tail_any (typeIs_str s2 z t) slot_str_getitem.lookup (getItem_str (c := c) (by
    have e1 : decide (i < -(2 ^ 63 : Int)) = false := decide_eq_false (by omega)
    have e2 : decide (i ≥ 2 ^ 63) = false := decide_eq_false (by omega)
    rw [e1, e2] <;> rfl) (by rw [e]; exact hc) ⟨.str ⟨#[c]⟩, H2, I2.tok _, ⟨_, rfl⟩, q⟩) (hs _ _)
/-- b[i], 0 ≤ i < len -/
theorem pe_item_byt (ha : PE X a ta) (hb : PE X b tb) (hs : PlainIxT b) :
    PE X (.Subscript a b pos) (tOp (fun x y H Q => ∃ (z : List UInt8) (i : Int), x = .byt z.toArray ∧ y = .int i ∧ z.length ≤ sizeLine ∧ 0 ≤ i ∧ i < z.length ∧ Q (.int ((z.getD i.toNat 0).toNat : Nat)) H) ta tb) := by
  intro pins s σ H Q I h
  refine Subscript_ (binT ha hb I h fun v u s2 x y H2 I2 rx ry q => ?_)
  obtain ⟨z, i, rfl, rfl, hz, h0, h1, q⟩ := q
  obtain ⟨t, rfl⟩ := rx
  obtain ⟨t', rfl⟩ := ry
  have hl : sizeLine = 16777216 := sizeLine_eq
  exact tail_any (PySem.W.typeIs_bytes s2 z.toArray t) PySem.W.FB.slot_bytes_getitem.lookup (PySem.W.getItem_bytes (by omega) h0 h1 ⟨.int ((z.getD i.toNat 0).toNat : Nat), H2, I2.tok _, ⟨_, rfl⟩, q⟩) (hs _ _)

/-! ### scalar builtins, by CallR -/
theorem vals1 {x : V} {us : List Value} (r : Vals [x] us) : ∃ u, us = [u] ∧ RelV x u := by
  cases r with
  | cons r1 r2 => cases r2; exact ⟨_, rfl, r1⟩
theorem vals2 {x y : V} {us : List Value} (r : Vals [x, y] us) : ∃ u w', us = [u, w'] ∧ RelV x u ∧ RelV y w' := by
  cases r with
  | cons r1 r2 =>
    cases r2 with
    | cons r3 r4 => cases r4; exact ⟨_, _, rfl, r1, r3⟩
theorem call_abs : CallR X (.builtin "abs") (fun xs H Q => ∃ i, xs = [.int i] ∧ Q (.int (if i < 0 then -i else i)) H) := by
  intro pins s σ H xs us Q I r h
  obtain ⟨i, rfl, q⟩ := h
  obtain ⟨u, rfl, t, rfl⟩ := vals1 r
  exact call_abs_int fun u tk => ⟨.int (if i < 0 then -i else i), H, I.tok _, ⟨_, rfl⟩, q⟩
theorem call_max2 (hc : X.calm = true) : CallR X (.builtin "max") (fun xs H Q => ∃ i j, xs = [.int i, .int j] ∧ Q (.int (if j > i then j else i)) H) := by
  intro pins s σ H xs us Q I r h
  obtain ⟨i, j, rfl, q⟩ := h
  obtain ⟨u, w', rfl, ⟨t, rfl⟩, ⟨t', rfl⟩⟩ := vals2 r
  refine max_two_ints (I.ok.hd hc) fun h' tk k => ⟨_, H, I.kept k, ?_, q⟩
  by_cases hj : j > i
  · rw [if_pos hj, if_pos hj]; exact ⟨_, rfl⟩
  · rw [if_neg hj, if_neg hj]; exact ⟨_, rfl⟩
theorem call_min2 (hc : X.calm = true) : CallR X (.builtin "min") (fun xs H Q => ∃ i j, xs = [.int i, .int j] ∧ Q (.int (if j < i then j else i)) H) := by
  intro pins s σ H xs us Q I r h
  obtain ⟨i, j, rfl, q⟩ := h
  obtain ⟨u, w', rfl, ⟨t, rfl⟩, ⟨t', rfl⟩⟩ := vals2 r
  refine min_two_ints (I.ok.hd hc) fun h' tk k => ⟨_, H, I.kept k, ?_, q⟩
  by_cases hj : j < i
  · rw [if_pos hj, if_pos hj]; exact ⟨_, rfl⟩
  · rw [if_neg hj, if_neg hj]; exact ⟨_, rfl⟩
theorem call_int1 : CallR X (.type "int") (fun xs H Q => (∃ i, xs = [.int i] ∧ Q (.int i) H) ∨ ∃ k, xs = [.bl k] ∧ Q (.int (if k then 1 else 0)) H) := by
  intro pins s σ H xs us Q I r h
  rcases h with ⟨i, rfl, q⟩ | ⟨k, rfl, q⟩
  · obtain ⟨u, rfl, t, rfl⟩ := vals1 r
    exact call_int_int ⟨.int i, H, I, ⟨_, rfl⟩, q⟩
  · obtain ⟨u, rfl, r1⟩ := vals1 r
    cases r1
    exact call_int_bool ⟨.int (if k then 1 else 0), H, I.tok _, ⟨_, rfl⟩, q⟩
theorem call_bool1 : CallR X (.type "bool") (fun xs H Q => (∃ i, xs = [.int i] ∧ Q (.bl (i != 0)) H) ∨ ∃ k, xs = [.bl k] ∧ Q (.bl k) H) := by
  intro pins s σ H xs us Q I r h
  rcases h with ⟨i, rfl, q⟩ | ⟨k, rfl, q⟩
  · obtain ⟨u, rfl, t, rfl⟩ := vals1 r
    exact call_bool_int ⟨.bl (i != 0), H, I, rfl, q⟩
  · obtain ⟨u, rfl, r1⟩ := vals1 r
    cases r1
    exact call_bool_bool ⟨.bl k, H, I, rfl, q⟩
theorem call_str_int : CallR X (.type "str") (fun xs H Q => ∃ i, xs = [.int i] ∧ i.natAbs.log2 < 1920 ∧ Q (.str (toString i)) H) := by
  intro pins s σ H xs us Q I r h
  obtain ⟨i, rfl, hz, q⟩ := h
  obtain ⟨u, rfl, t, rfl⟩ := vals1 r
  exact PySem.P.str_of_int hz ⟨.str _, H, I.tok _, ⟨_, rfl⟩, q⟩
theorem call_ord : CallR X (.builtin "ord") (fun xs H Q => ∃ x, xs = [.str x] ∧ x.length = 1 ∧ Q (.int (x.cps.getD 0 0 : Nat)) H) := by
  intro pins s σ H xs us Q I r h
  obtain ⟨x, rfl, hz, q⟩ := h
  obtain ⟨u, rfl, t, rfl⟩ := vals1 r
  exact ord_of_one hz ⟨.int _, H, I.tok _, ⟨_, rfl⟩, q⟩
theorem call_chr : CallR X (.builtin "chr") (fun xs H Q => ∃ i, xs = [.int i] ∧ 0 ≤ i ∧ i ≤ 1114111 ∧ Q (.str ⟨#[i.toNat]⟩) H) := by
  intro pins s σ H xs us Q I r h
  obtain ⟨i, rfl, h0, h1, q⟩ := h
  obtain ⟨u, rfl, t, rfl⟩ := vals1 r
  exact chr_of_range h0 h1 ⟨.str _, H, I.tok _, ⟨_, rfl⟩, q⟩
/-- len of a str, a bytes, a list, a tuple -/
def LenV (K : PySem.W.Frag) (x : V) (H : Hp) (n : Nat) : Prop :=
  match x with
  | .str y => y.length ≤ sizeLine ∧ n = y.length
  | .byt y => y.size ≤ sizeLine ∧ n = y.size
  | .ref p => (∃ xs, SqL K H p xs ∧ n = xs.length) ∨ ∃ xs, SqT K H p xs ∧ n = xs.length
  | _ => False
theorem call_len : CallR X (.builtin "len") (fun xs H Q => ∃ x n, xs = [x] ∧ LenV X.K x H n ∧ Q (.int n) H) := by
  intro pins s σ H xs us Q I r h
  obtain ⟨x, n, rfl, e, q⟩ := h
  obtain ⟨u, rfl, rx⟩ := vals1 r
  have hl := line63
  have hs : sizeLine = 16777216 := sizeLine_eq
  cases x with
  | str y =>
    obtain ⟨t, rfl⟩ := rx
    obtain ⟨hy, e'⟩ : y.length ≤ sizeLine ∧ n = y.length := e
    subst e'
    exact len_str (by omega) ⟨.int _, H, I.tok _, ⟨_, rfl⟩, q⟩
  | byt y =>
    obtain ⟨t, rfl⟩ := rx
    obtain ⟨hy, e'⟩ : y.size ≤ sizeLine ∧ n = y.size := e
    subst e'
    exact PySem.W.len_bytes (by omega) ⟨.int _, H, I.tok _, ⟨_, rfl⟩, q⟩
  | ref p =>
    cases rx
    have e' : (∃ xs, SqL X.K H p xs ∧ n = xs.length) ∨ ∃ xs, SqT X.K H p xs ∧ n = xs.length := e
    rcases e' with ⟨xs, hx, e'⟩ | ⟨xs, hx, e'⟩
    · subst e'
      obtain ⟨its, r', pl, hz⟩ := I.list hx
      have hlen := r'.length
      exact Calls.call_len_list pl.isList (by simp only [List.size_toArray]; omega) ⟨.int xs.length, H, I.tok _, ⟨_, by simp only [List.size_toArray]; rw [hlen]⟩, q⟩
    · subst e'
      obtain ⟨its, r', pl, hz⟩ := I.tuple hx
      have hlen := r'.length
      exact len_tuple pl (by simp only [List.size_toArray]; omega) ⟨.int xs.length, H, I.tok _, ⟨_, by simp only [List.size_toArray]; rw [hlen]⟩, q⟩
  | _ => exact (show False from e).elim
/-- divmod: a new tuple -/
theorem call_divmod : CallR X (.builtin "divmod") (fun xs H Q => ∃ i j, xs = [.int i, .int j] ∧ CDiv i j ∧ ∀ p, H p = none → Q (.ref p) (upd H p (.tup [.int (i / j), .int (i % j)]))) := by
  intro pins s σ H xs us Q I r h
  obtain ⟨i, j, rfl, ⟨h1, h2⟩, q⟩ := h
  obtain ⟨u, w', rfl, ⟨t, rfl⟩, ⟨t', rfl⟩⟩ := vals2 r
  refine divmod_int (by omega) ?_ (.inl (PyProof.noPylong_small (by omega)))
  rw [Int.fdiv_eq_ediv_of_nonneg i (by omega), Int.fmod_eq_emod_of_nonneg i (by omega)]
  have hn : H s.heap.objs.size = none := I.hok.fresh (Nat.le_refl _)
  refine ⟨.ref s.heap.objs.size, _, ?_, rfl, q _ hn⟩
  refine I.laid (fun b o e => Heap.get?_push_of_some _ e) (Nat.le_refl _) ⟨by simp only [List.length_cons, List.length_nil]; rw [sizeLine_eq]; decide, [.int (i / j) s.toks, .int (i % j) (s.toks + 1)], .cons ⟨_, rfl⟩ (.cons ⟨_, rfl⟩ .nil), ?_⟩
  exact ⟨_, Heap.get?_push_size s.heap rfl, rfl, 0, rfl⟩
end
end L2

namespace L2
open PySem PySem.Spec PyProof.Rows

/-! ### an instance, its attributes a map -/
structure ObjM (h : Heap) (x dx C : Addr) (mA : Str → Option Value) : Prop where
  obj : h.get? x = some (PySem.W.instObj C dx)
  ns : h.Ns1 dx mA
  ne : dx ≠ x

theorem lookIn_ns {h : Heap} {dx : Addr} {mA : Str → Option Value} (n : h.Ns1 dx mA) : ∃ od, h.get? dx = some od ∧ ∀ name, PySem.W.lookIn name od = some (mA name) := by
  obtain ⟨o, es, ep, ho, hd, hk, _, hm⟩ := n
  refine ⟨o, ho, fun name => ?_⟩
  have e := hm name
  unfold nsFind findBy at e
  rw [← Array.find?_toList] at e
  unfold PySem.W.lookIn
  rw [hd]
  dsimp only
  split
  · rename_i y q
    rw [q] at e
    exact congrArg some e
  · rename_i q
    rw [q] at e
    have a : es.toList.any (·.refKey) = false := by
      rw [List.any_eq_false]
      intro y hy
      obtain ⟨z, t, hkey⟩ := hk y (Array.mem_toList_iff.mp hy)
      simp [DictEntry.refKey, hkey]
    have a' : ¬ es.toList.any (·.refKey) = true := by rw [a]; exact Bool.false_ne_true
    rw [if_neg a']
    exact congrArg some e

theorem ObjM.look {h : Heap} {x dx C : Addr} {mA : Str → Option Value} (I : ObjM h x dx C mA) : ∃ od, PySem.W.InstAt h x (PySem.W.instObj C dx) C (some od) ∧ ∀ name, PySem.W.lookIn name od = some (mA name) :=
  let ⟨od, ho, hl⟩ := lookIn_ns I.ns
  ⟨od, ⟨I.obj, rfl, rfl, ho⟩, hl⟩

section
variable {prog : Program} {w : World} {A : Around} {E : Value → Shared → Prop} {s : Shared} {K : PySem.W.Frag} {x dx C f : Addr} {mA : Str → Option Value} {name : Str} {v : Value}

theorem get_map {expr : Bool} {Q : Value → Shared → Prop} (X : K.In s.heap) (I : ObjM s.heap x dx C mA) (hg : PySem.W.plainGet K C name = true) (hh : PySem.W.hasDictIn K C = true)
    (ha : PySem.W.findIn K (.ref C) name = some none) (hv : mA name = some v) (hv' : PySem.W.handedIn v = true) (h : Q v { s with toks := s.toks + 1 }) :
    wpAny (model prog w) A (getAttr (.ref x) name expr) Q E s := by
  obtain ⟨od, J, hl⟩ := I.look
  exact PySem.W.get_value X J (PySem.W.plainGet_of hg).1 (PySem.W.findObj_own hh ha rfl (by rw [hl, hv])) hv' h

theorem get_const {expr : Bool} {a : Value} {Q : Value → Shared → Prop} (X : K.In s.heap) (I : ObjM s.heap x dx C mA) (hg : PySem.W.plainGet K C name = true) (hh : PySem.W.hasDictIn K C = true)
    (ha : PySem.W.findIn K (.ref C) name = some (some a)) (hn : PySem.W.specialIn K a "__get__" = some none) (hc : PySem.W.copiedNames.contains name = false) (hv : mA name = none) (hv' : PySem.W.handedIn a = true)
    (h : Q a { s with toks := s.toks + 1 }) : wpAny (model prog w) A (getAttr (.ref x) name expr) Q E s := by
  obtain ⟨od, J, hl⟩ := I.look
  exact PySem.W.get_value X J (PySem.W.plainGet_of hg).1 (PySem.W.findObj_cls hh ha hn hv' hc (by rw [hl, hv])) hv' h

theorem get_meth {pl : Sem Bool} {Q : Value × List Value → Shared → Prop} (X : K.In s.heap) (I : ObjM s.heap x dx C mA) (hg : PySem.W.plainGet K C name = true)
    (hf : PySem.W.findIn K (.ref C) name = some (some (.ref f))) (ht : PySem.W.isFn K (.ref f) = true) (hv : mA name = none) (h : Q (.ref f, [.ref x]) s) :
    wpAny (model prog w) A (getMethod (.ref x) name pl) Q E s := by
  obtain ⟨od, J, hl⟩ := I.look
  exact PySem.W.method_fn X J (PySem.W.plainGet_of hg).1 (PySem.W.plainGet_of hg).2 hf (beq_iff_eq.mp ht) (by show (PySem.W.lookIn name od).map (·.isSome) = some false; rw [hl, hv]; rfl) h

theorem set_map {ns : List Str} {Q : Unit → Shared → Prop} (X : K.In s.heap) (I : ObjM s.heap x dx C mA)
    (hs : PySem.W.findIn K (.ref C) "__setattr__" = some (some (.builtin "object.__setattr__"))) (hp : PySem.W.plainOver K C = true) (ht : PySem.W.takerIn K C name = some none) (hh : PySem.W.hasDictIn K C = true)
    (hw : PySem.Within mA ns) (hsz : ns.length ≤ sizeLine)
    (h : ∀ h', ObjM h' x dx C (fun y => if y = name then some v else mA y) → Heap.SameBut dx s.heap h' → Q () { s with heap := h', toks := s.toks + 2 }) :
    wpAny (model prog w) A (setAttr (.ref x) name v) Q E s := by
  obtain ⟨od, J, hl⟩ := I.look
  refine PySem.W.set_plain X J hs (PySem.W.osa_open (s := { s with toks := s.toks + 1 }) (r := none) X J hp ht fun b => ?_)
  obtain ⟨cd, hc, hd'⟩ := PySem.W.any_some hh
  have hx : s.heap.get? x = some ⟨.ref C, some dx, .plain, #[]⟩ := I.obj
  refine wpAny_bind (wpAny_pure (wpAny_bind (wpAny_bind (wpAny_loadPart hx (wpAny_bind (PySem.W.Looks.here (s := { s with toks := s.toks + 1 }) (PySem.W.looks_clsIn X hc) ?_))))))
  rw [hd']
  refine wpAny_pure (a := some dx) (wpAny_bind (wpAny_pure (wpAny_bind ?_)))
  refine wpAny_nsSet1 (s := { s with toks := s.toks + 1 }) I.ns fun h' hn2 hs2 => ?_
  obtain ⟨oD, esD, epD, hoD, hdD, hcD⟩ := hn2.count (PySem.Within.cons name v hw)
  refine wpAny_bind (wpAny_lookBehind hoD (by rw [hdD]; exact pastItsLine_dict (Nat.le_trans hcD (by rw [List.length_cons]; omega))) ?_)
  exact wpAny_pure (h _ ⟨(hs2.2 _ (Ne.symm I.ne)).trans I.obj, hn2, I.ne⟩ hs2)

/-- C(..): the dict at the heap's end, the instance behind it; then its __init__ -/
theorem make_map {R : Result → Shared → Prop} {vs : List Value} {kw : List (Str × Value)} (X : K.In s.heap) (hm : PySem.W.makesIn K C = true)
    (hi : PySem.W.findIn K (.ref C) "__init__" = some (some (.ref f))) (hf : PySem.W.typeIn K (.ref f) = some (.type "function"))
    (h : codeAny (model prog w) (A.under (.builtin "type.__call__" ⟨.ref C :: vs, kw⟩)) (.call (.ref f) ⟨.ref (s.heap.objs.size + 1) :: vs, kw⟩) (PySem.W.InitBack (s.heap.objs.size + 1) R)
      { s with heap := (s.heap.push PySem.W.emptyDict).push (PySem.W.instObj C s.heap.objs.size) }) :
    codeAny (model prog w) A (.call (.ref C) ⟨vs, kw⟩) R s := by
  obtain ⟨hh, g, d, t, os⟩ := s
  exact PySem.W.make_core (PySem.W.makes_of X hm) (PySem.W.looks_findIn X hi) (fun self => PySem.W.bind_fn X self hf) (.inl rfl) h
/-- C() where there is no __init__ but object's -/
theorem make_map0 {R : Result → Shared → Prop} (X : K.In s.heap) (hm : PySem.W.makesIn K C = true)
    (hi : PySem.W.findIn K (.ref C) "__init__" = some (some (.builtin "object.__init__")))
    (hb : ∀ self, PySem.W.Looks (model prog w) s.heap (bindSpecial (.builtin "object.__init__") self) (.builtin "object.__init__", [self]))
    (h : codeAny (model prog w) (A.under (.builtin "type.__call__" ⟨[.ref C], []⟩)) (.call (.builtin "object.__init__") ⟨[.ref (s.heap.objs.size + 1)], []⟩) (PySem.W.InitBack (s.heap.objs.size + 1) R)
      { s with heap := (s.heap.push PySem.W.emptyDict).push (PySem.W.instObj C s.heap.objs.size) }) :
    codeAny (model prog w) A (.call (.ref C) ⟨[], []⟩) R s := by
  obtain ⟨hh, g, d, t, os⟩ := s
  exact PySem.W.make_core (PySem.W.makes_of X hm) (PySem.W.looks_findIn X hi) hb (.inr ⟨rfl, rfl⟩) h
end

/-! ### the attributes as a list of pairs -/
def putF (f : Str) (v : V) : List (Str × V) → List (Str × V)
  | [] => [(f, v)]
  | (g, x) :: r => if g = f then (g, v) :: r else (g, x) :: putF f v r
theorem lookup_putF (f g : Str) (v : V) : ∀ fs : List (Str × V), (putF f v fs).lookup g = if g = f then some v else fs.lookup g
  | [] => by
    show List.lookup g [(f, v)] = _
    by_cases h : g = f
    · have hb : (g == f) = true := beq_iff_eq.mpr h
      simp only [List.lookup, hb, if_pos h]
    · have hb : (g == f) = false := beq_eq_false_iff_ne.mpr h
      simp only [List.lookup, hb, if_neg h]
  | (k, x) :: r => by
    have ih := lookup_putF f g v r
    rw [show putF f v ((k, x) :: r) = (if k = f then (k, v) :: r else (k, x) :: putF f v r) from rfl]
    by_cases hk : k = f
    · rw [if_pos hk]
      by_cases h : g = k
      · have hb : (g == k) = true := beq_iff_eq.mpr h
        simp only [List.lookup, hb, if_pos (h.trans hk)]
      · have hb : (g == k) = false := beq_eq_false_iff_ne.mpr h
        simp only [List.lookup, hb, if_neg (fun e : g = f => h (e.trans hk.symm))]
    · rw [if_neg hk]
      by_cases h : g = k
      · have hb : (g == k) = true := beq_iff_eq.mpr h
        simp only [List.lookup, hb, if_neg (fun e : g = f => hk (h.symm.trans e))]
      · have hb : (g == k) = false := beq_eq_false_iff_ne.mpr h
        simp only [List.lookup, hb]
        exact ih
theorem keys_putF (f : Str) (v : V) : ∀ fs : List (Str × V), f ∈ (putF f v fs).map (·.1) ∧ ∀ g, g ∈ fs.map (·.1) → g ∈ (putF f v fs).map (·.1)
  | [] => ⟨by simp [putF], fun g h => by simp at h⟩
  | (k, x) :: r => by
    obtain ⟨i1, i2⟩ := keys_putF f v r
    rw [show putF f v ((k, x) :: r) = (if k = f then (k, v) :: r else (k, x) :: putF f v r) from rfl]
    by_cases hk : k = f
    · rw [if_pos hk]
      subst hk
      exact ⟨by simp, fun g h => by simpa using h⟩
    · rw [if_neg hk]
      refine ⟨?_, fun g h => ?_⟩
      · rw [List.map_cons]
        exact List.mem_cons_of_mem _ i1
      · rw [List.map_cons] at h ⊢
        rcases List.mem_cons.mp h with e | e
        · exact List.mem_cons.mpr (.inl e)
        · exact List.mem_cons_of_mem _ (i2 g e)
theorem length_putF (f : Str) (v : V) : ∀ fs : List (Str × V), (putF f v fs).length ≤ fs.length + 1
  | [] => by simp [putF]
  | (k, x) :: r => by
    have ih := length_putF f v r
    rw [show putF f v ((k, x) :: r) = (if k = f then (k, v) :: r else (k, x) :: putF f v r) from rfl]
    by_cases hk : k = f
    · rw [if_pos hk, List.length_cons, List.length_cons]; omega
    · rw [if_neg hk, List.length_cons, List.length_cons]; omega

theorem RelO.some_of {v : V} {o : Option Value} (r : RelO (some v) o) : ∃ u, o = some u ∧ RelV v u := by
  cases o with
  | none => exact (show False from r).elim
  | some u => exact ⟨u, rfl, r⟩
theorem RelO.none_of {o : Option Value} (r : RelO none o) : o = none := by
  cases o with
  | none => rfl
  | some u => exact (show False from r).elim
theorem handed_of {v : V} {u : Value} (r : RelV v u) : PySem.W.handedIn u = true := by
  cases v with
  | non => cases (show u = Value.none from r); rfl
  | bl b => cases (show u = Value.bool b from r); rfl
  | int i => obtain ⟨t, e⟩ := (show ∃ t, u = Value.int i t from r); cases e; rfl
  | str x => obtain ⟨t, e⟩ := (show ∃ t, u = Value.str x t from r); cases e; rfl
  | byt b => obtain ⟨t, e⟩ := (show ∃ t, u = Value.bytes b t from r); cases e; rfl
  | flt b => obtain ⟨t, e⟩ := (show ∃ t, u = Value.float b t from r); cases e; rfl
  | ref a => cases (show u = Value.ref a from r); rfl
  | ty n => cases (show u = Value.type n from r); rfl

section
variable {P : Program} {w : World} {H H' : Hp} {h h' : Heap} {a C dx : Addr} {fs fs' : List (Str × V)}
theorem ins_get (hok : HOk P w H h) (e : H a = some (.ins C dx fs)) : ∃ mA, ObjM h a dx C mA ∧ (∀ f, RelO (fs.lookup f) (mA f)) ∧ PySem.Within mA (fs.map (·.1)) ∧ fs.length ≤ 1000 ∧ H dx = some (.own a) := by
  obtain ⟨d, z, ne, ob, mA, n, r, q⟩ := (show ObjOk P w H h a (.ins C dx fs) from hok a _ e)
  exact ⟨mA, ⟨ob, n, ne⟩, r, q, z, d⟩
end

/-! ### what of the text a class must have -/
structure Cls (K : PySem.W.Frag) (C : Addr) : Prop where
  pg : PySem.W.plainGet K C Str.empty = true
  hd : PySem.W.hasDictIn K C = true
  po : PySem.W.plainOver K C = true
  sa : PySem.W.findIn K (.ref C) "__setattr__" = some (some (.builtin "object.__setattr__"))
theorem Cls.get {K : PySem.W.Frag} {C : Addr} (c : Cls K C) (f : Str) : PySem.W.plainGet K C f = true := c.pg
/-- no class of it has the name -/
def NoAttr (K : PySem.W.Frag) (C : Addr) (f : Str) : Prop := PySem.W.findIn K (.ref C) f = some none
theorem NoAttr.taker {K : PySem.W.Frag} {C : Addr} {f : Str} (n : NoAttr K C f) : PySem.W.takerIn K C f = some none := by
  unfold PySem.W.takerIn
  rw [show PySem.W.findIn K (.ref C) f = some none from n]
  rfl
/-- a constant of the class -/
structure Con (K : PySem.W.Frag) (C : Addr) (f : Str) (v : V) (u : Value) : Prop where
  at_ : PySem.W.findIn K (.ref C) f = some (some u)
  rel : RelV v u
  get : PySem.W.specialIn K u "__get__" = some none
  cp : PySem.W.copiedNames.contains f = false
/-- a method: a plain def of the class or of one above it -/
structure Meth (K : PySem.W.Frag) (C : Addr) (m : Str) (f : Addr) : Prop where
  at_ : PySem.W.findIn K (.ref C) m = some (some (.ref f))
  fn : PySem.W.isFn K (.ref f) = true
  kp : PySem.W.keepIn K (.ref f) = true

section
variable {X : Cx} {pins : List (Addr × Obj)} {σ : St} {H : Hp} {s : Shared} {a C dx : Addr} {fs : List (Str × V)} {f : Str} {v : V} {A : Around} {E : Value → Shared → Prop}

theorem getattr_ok {b : Bool} {Q : Value → Shared → Prop} (I : Inv X pins σ H s) (e : H a = some (.ins C dx fs)) (c : Cls X.K C) (n : NoAttr X.K C f) (l : fs.lookup f = some v)
    (h : ∀ u s', Inv X pins σ H s' → RelV v u → Q u s') : wpAny (model X.prog X.w) A (getAttr (.ref a) f b) Q E s := by
  obtain ⟨mA, O, r, _, _, _⟩ := ins_get I.hok e
  obtain ⟨u, hu, ru⟩ := RelO.some_of (v := v) (o := mA f) (by rw [← l]; exact r f)
  exact get_map I.kIn O (c.get f) c.hd n hu (handed_of ru) (h u _ (I.tok _) ru)

theorem getcon_ok {b : Bool} {u : Value} {Q : Value → Shared → Prop} (I : Inv X pins σ H s) (e : H a = some (.ins C dx fs)) (c : Cls X.K C) (k : Con X.K C f v u) (l : fs.lookup f = none)
    (h : ∀ s', Inv X pins σ H s' → Q u s') : wpAny (model X.prog X.w) A (getAttr (.ref a) f b) Q E s := by
  obtain ⟨mA, O, r, _, _, _⟩ := ins_get I.hok e
  have hn : mA f = none := RelO.none_of (by rw [← l]; exact r f)
  exact get_const I.kIn O (c.get f) c.hd k.at_ k.get k.cp hn (handed_of k.rel) (h _ (I.tok _))

theorem getmeth_ok {m : Str} {g : Addr} {pl : Sem Bool} {Q : Value × List Value → Shared → Prop} (I : Inv X pins σ H s) (e : H a = some (.ins C dx fs)) (c : Cls X.K C) (k : Meth X.K C m g) (l : fs.lookup m = none)
    (h : Q (.ref g, [.ref a]) s) : wpAny (model X.prog X.w) A (getMethod (.ref a) m pl) Q E s := by
  obtain ⟨mA, O, r, _, _, _⟩ := ins_get I.hok e
  have hn : mA m = none := RelO.none_of (by rw [← l]; exact r m)
  exact get_meth I.kIn O (c.get m) k.at_ k.fn hn h

theorem setattr_ok {y : V} {u : Value} {Q : Unit → Shared → Prop} (I : Inv X pins σ H s) (e : H a = some (.ins C dx fs)) (c : Cls X.K C) (n : NoAttr X.K C f) (hl : fs.length < 1000) (ry : RelV y u)
    (h : ∀ s', Inv X pins σ (upd H a (.ins C dx (putF f y fs))) s' → Q () s') : wpAny (model X.prog X.w) A (setAttr (.ref a) f u) Q E s := by
  obtain ⟨mA, O, r, wi, _, ho⟩ := ins_get I.hok e
  have hz : (fs.map (·.1)).length ≤ sizeLine := by rw [List.length_map, sizeLine_eq]; omega
  refine set_map I.kIn O c.sa c.po n.taker c.hd wi hz fun h' O' sb => h _ ?_
  have hd : ∃ o, h'.get? dx = some o := let ⟨o, _, _, e', _⟩ := O'.ns; ⟨o, e'⟩
  refine I.write (x := a) (e := dx) (by rw [e]; exact True.intro) (.inr ho) (fun b q hb z => (sb.2 b hb).trans z) hd ?_
  refine ⟨by rw [upd_ne O.ne]; exact ho, ?_, O.ne, O'.obj, _, O'.ns, fun g => ?_, fun g hg => ?_⟩
  · have := length_putF f y fs; omega
  · show RelO ((putF f y fs).lookup g) (if g = f then some u else mA g)
    rw [lookup_putF]
    by_cases q : g = f
    · rw [if_pos q, if_pos q]; exact ry
    · rw [if_neg q, if_neg q]; exact r g
  · by_cases q : g = f
    · rw [q]; exact (keys_putF f y fs).1
    · refine (keys_putF f y fs).2 g (wi g fun z => hg ?_)
      show (if g = f then some u else mA g) = none
      rw [if_neg q]; exact z

/-- a new instance, tracked, without attributes -/
theorem Inv.made (I : Inv X pins σ H s) : Inv X pins σ (upd (upd H s.heap.objs.size (.own (s.heap.objs.size + 1))) (s.heap.objs.size + 1) (.ins C s.heap.objs.size []))
    { s with heap := (s.heap.push PySem.W.emptyDict).push (PySem.W.instObj C s.heap.objs.size) } := by
  have e1 : (s.heap.push PySem.W.emptyDict).get? s.heap.objs.size = some PySem.W.emptyDict := Heap.get?_push_size s.heap rfl
  have e2 : ((s.heap.push PySem.W.emptyDict).push (PySem.W.instObj C s.heap.objs.size)).get? (s.heap.objs.size + 1) = some (PySem.W.instObj C s.heap.objs.size) := by
    have := Heap.get?_push_size (s.heap.push PySem.W.emptyDict) (o := PySem.W.instObj C s.heap.objs.size) rfl
    rwa [Heap.size_push] at this
  have e3 : (s.heap.push PySem.W.emptyDict).Ns s.heap.objs.size (fun _ => none) := ⟨PySem.W.emptyDict, #[], _, e1, rfl, (fun e he => absurd he (by simp)), fun _ => rfl⟩
  have I1 := I.laid (a := s.heap.objs.size) (o := .own (s.heap.objs.size + 1)) (h' := s.heap.push PySem.W.emptyDict) (t' := s.toks) (fun b u q => Heap.get?_push_of_some _ q) (Nat.le_refl _) ⟨_, e1⟩
  refine I1.laid (a := s.heap.objs.size + 1) (o := .ins C s.heap.objs.size []) (t' := s.toks) (fun b u q => Heap.get?_push_of_some _ q) (Nat.le_of_eq (Heap.size_push _ _)) ?_
  have ne : s.heap.objs.size ≠ s.heap.objs.size + 1 := Nat.ne_of_lt (Nat.lt_succ_self _)
  refine ⟨by rw [upd_ne ne, upd_same], Nat.zero_le _, ne, e2, fun _ => none, (Heap.Ns1.of_empty e3).at fun o q => Heap.get?_push_of_some _ q, fun _ => True.intro, fun y hy => absurd rfl hy⟩

/-- e.f where nothing but the object is asked: through attributeBase (super) and the last hold -/
theorem attr_of {prog : Program} {w : World} {env : Env} {e : Expr} {f : Str} {pos : Pos} {s : Shared} {Q : Value → Shared → Prop} (hb : attributeBase e f env (eval e env) = eval e env)
    (h : wpAny (model prog w) A (eval e env) (fun o s₁ => wpAny (model prog w) A (getAttr o f true) Q E s₁) E s) : wpAny (model prog w) A (eval (.Attribute e f pos) env) Q E s :=
  Attribute_any_ h (by rw [arm_eval_Attribute, hb])
end

/-! ### readings and rules -/
/-- e.f, an attribute of the instance -/
def tFld (K : PySem.W.Frag) (ta : TE) (f : Str) : TE := fun σ H Q => ta σ H fun x H1 => ∃ a C dx fs v, x = .ref a ∧ H1 a = some (.ins C dx fs) ∧ Cls K C ∧ NoAttr K C f ∧ fs.lookup f = some v ∧ Q v H1
/-- e.f, a constant of the class -/
def tCon (K : PySem.W.Frag) (ta : TE) (f : Str) : TE := fun σ H Q => ta σ H fun x H1 => ∃ a C dx fs v u, x = .ref a ∧ H1 a = some (.ins C dx fs) ∧ Cls K C ∧ Con K C f v u ∧ fs.lookup f = none ∧ Q v H1
/-- e.f = value -/
def sFld (K : PySem.W.Frag) (ta tv : TE) (f : Str) : TS := fun D σ H => tv σ H fun y H1 => ta σ H1 fun x H2 => ∃ a C dx fs, x = .ref a ∧ H2 a = some (.ins C dx fs) ∧ Cls K C ∧ NoAttr K C f ∧ fs.length < 1000 ∧
  D.nx σ (upd H2 a (.ins C dx (putF f y fs)))
/-- an augmented operator on two values -/
def InOp (X : Cx) (op : Operator) (rd : V → V → Hp → VK → Prop) : Prop :=
  ∀ (pins : List (Addr × Obj)) (s : Shared) (σ : St) (H : Hp) (x y : V) (u v : Value) (Q : VK), Inv X pins σ H s → RelV x u → RelV y v → rd x y H Q → wpAny (model X.prog X.w) X.A (inplaceOp op u v) (EP X pins σ Q) X.xe s
/-- e.f op= value -/
def sFldAug (K : PySem.W.Frag) (ta tv : TE) (rd : V → V → Hp → VK → Prop) (f : Str) : TS := fun D σ H => ta σ H fun x H1 => ∃ a C dx fs v, x = .ref a ∧ H1 a = some (.ins C dx fs) ∧ Cls K C ∧ NoAttr K C f ∧ fs.lookup f = some v ∧
  tv σ H1 fun y H2 => rd v y H2 fun z H3 => ∃ dx' fs', H3 a = some (.ins C dx' fs') ∧ fs'.length < 1000 ∧ D.nx σ (upd H3 a (.ins C dx' (putF f z fs')))

section
variable {X : Cx} {o e value : Expr} {f : Str} {pos pos' tpos : Pos} {ta tv : TE}
theorem pe_fld (he : PE X e ta) (hb : attributeBase e f X.env (eval e X.env) = eval e X.env) : PE X (.Attribute e f pos) (tFld X.K ta f) := by
  intro pins s σ H Q I h
  refine attr_of hb (thn (he pins s σ H _ I h) fun u s1 ⟨x, H1, I1, rx, a, C, dx, fs, v, ex, ea, c, n, l, q⟩ => ?_)
  subst ex
  obtain rfl : u = Value.ref a := rx
  exact getattr_ok I1 ea c n l fun u' s2 I2 ru => ⟨v, H1, I2, ru, q⟩
theorem pe_con (he : PE X e ta) (hb : attributeBase e f X.env (eval e X.env) = eval e X.env) : PE X (.Attribute e f pos) (tCon X.K ta f) := by
  intro pins s σ H Q I h
  refine attr_of hb (thn (he pins s σ H _ I h) fun u s1 ⟨x, H1, I1, rx, a, C, dx, fs, v, u0, ex, ea, c, k, l, q⟩ => ?_)
  subst ex
  obtain rfl : u = Value.ref a := rx
  exact getcon_ok I1 ea c k l fun s2 I2 => ⟨v, H1, I2, k.rel, q⟩
theorem ps_fld (ha : PE X o ta) (hv : PE X value tv) (hs : swapsWith value (some (.Attribute o f pos')) pos.line X.env = pure false) : PS X (.Assign [.Attribute o f pos'] value pos) (sFld X.K ta tv f) := by
  intro pins s σ H D I h
  refine plainObj_wpAny_Assign_Attribute (thn (hv pins s σ H _ I h) fun u s1 ⟨y, H1, I1, ry, q⟩ => thn (ha pins s1 σ H1 _ I1 q) fun ov s2 ⟨x, H2, I2, rx, a, C, dx, fs, ex, ea, c, n, l, q2⟩ => ?_) hs
  subst ex
  obtain rfl : ov = Value.ref a := rx
  exact setattr_ok I2 ea c n l ry fun s3 I3 => ⟨σ, _, I3, q2⟩
theorem ps_fldaug {op : Operator} {rd : V → V → Hp → VK → Prop} (ha : PE X o ta) (hv : PE X value tv) (hop : InOp X op rd) : PS X (.AugAssign (.Attribute o f tpos) op value pos) (sFldAug X.K ta tv rd f) := by
  intro pins s σ H D I h
  refine wpAny_AugAssign_AttributeAny (thn (ha pins s σ H _ I h) fun ov s1 ⟨x, H1, I1, rx, a, C, dx, fs, v, ex, ea, c, n, l, q⟩ => ?_)
  subst ex
  obtain rfl : ov = Value.ref a := rx
  refine getattr_ok I1 ea c n l fun u s2 I2 ru => thn (hv pins s2 σ H1 _ I2 q) fun w3 s3 ⟨y, H2, I3, ry, q3⟩ => thn (hop pins s3 σ H2 v y u w3 _ I3 ru ry q3) fun w4 s4 ⟨z, H3, I4, rz, dx', fs', ea', l', q4⟩ => ?_
  exact setattr_ok I4 ea' c n l' rz fun s5 I5 => ⟨σ, _, I5, q4⟩
def rAdd : V → V → Hp → VK → Prop := fun x y H Q => ∃ i j, x = .int i ∧ y = .int j ∧ Q (.int (i + j)) H
def rSub : V → V → Hp → VK → Prop := fun x y H Q => ∃ i j, x = .int i ∧ y = .int j ∧ Q (.int (i - j)) H
theorem in_add : InOp X .Add rAdd := by
  rintro pins s σ H x y u v Q I rx ry ⟨i, j, rfl, rfl, q⟩
  obtain ⟨t, rfl⟩ := (show ∃ t, u = Value.int i t from rx)
  obtain ⟨t', rfl⟩ := (show ∃ t', v = Value.int j t' from ry)
  exact PyProof.Rows.iadd_int ⟨.int (i + j), H, I.tok _, ⟨_, rfl⟩, q⟩
theorem in_sub : InOp X .Sub rSub := by
  rintro pins s σ H x y u v Q I rx ry ⟨i, j, rfl, rfl, q⟩
  obtain ⟨t, rfl⟩ := (show ∃ t, u = Value.int i t from rx)
  obtain ⟨t', rfl⟩ := (show ∃ t', v = Value.int j t' from ry)
  exact PyProof.Rows.isub_int ⟨.int (i - j), H, I.tok _, ⟨_, rfl⟩, q⟩

/-- what is between an instance and its method: the tree of a method call -/
theorem methcall_of {pl : Sem Bool} {m : Str} {apos : Pos} {args : List Expr} {pins : List (Addr × Obj)} {s : Shared} {σ : St} {H : Hp} {Q : Value → Shared → Prop} {te : TE} (he : PE X e te) (I : Inv X pins σ H s)
    (h : te σ H fun x H1 => ∃ a C dx fs g, x = .ref a ∧ H1 a = some (.ins C dx fs) ∧ Cls X.K C ∧ Meth X.K C m g ∧ fs.lookup m = none ∧
      ∀ s1, Inv X pins σ H1 s1 → wpAny (model X.prog X.w) X.A (callWith pos (.ref g) [.ref a] (backTo pos (starEach args X.env)) (backToKw pos (keywordEach [] X.env))) Q X.xe s1)
    (ht : eval (.Call (.Attribute e m apos) args [] pos) X.env = (do
      let ov ← eval e X.env
      standAt apos.atName
      let (f, first) ← holding [ov] (getMethod ov m pl)
      callWith pos f first (backTo pos (starEach args X.env)) (backToKw pos (keywordEach [] X.env)))) :
    wpAny (model X.prog X.w) X.A (eval (.Call (.Attribute e m apos) args [] pos) X.env) Q X.xe s := by
  refine PySem.W.methodCall_KW (pl := pl) (thn (he pins s σ H _ I h) fun u s1 ⟨x, H1, I1, rx, a, C, dx, fs, g, ex, ea, c, k, l, q⟩ => ?_) ht
  subst ex
  obtain rfl : u = Value.ref a := rx
  exact getmeth_ok I1 ea c k l (q s1 I1)
end

/-! ### isinstance -/
section
variable {X : Cx} {pins : List (Addr × Obj)} {σ : St} {H : Hp} {s : Shared} {A : Around} {E : Value → Shared → Prop} {Q : Value → Shared → Prop} {c : Value} {b : Bool}
/-- the type of a value, as the fragment's deciders take it; for an instance its class -/
inductive TyOf (K : PySem.W.Frag) (H : Hp) : V → Value → Prop where
  | non : TyOf K H .non (.type "NoneType")
  | bl (x : Bool) : TyOf K H (.bl x) (.type "bool")
  | int (i : Int) : TyOf K H (.int i) (.type "int")
  | str (x : Str) : TyOf K H (.str x) (.type "str")
  | flt (x : UInt64) : TyOf K H (.flt x) (.type "float")
  | lst {a : Addr} {xs : List V} (e : H a = some (.lst xs)) : TyOf K H (.ref a) (.type "list")
  | frz {a : Addr} {o : Obj} {xs : List V} (e : H a = some (.frz o (.lst xs))) : TyOf K H (.ref a) (.type "list")
  | tup {a : Addr} {xs : List V} (e : H a = some (.tup xs)) : TyOf K H (.ref a) (.type "tuple")
  | dK {a : Addr} {kvs : List (Key × V)} (e : H a = some (.dK kvs)) : TyOf K H (.ref a) (.type "dict")
  | dT {a : Addr} {kvs : List (List Key × V)} (e : H a = some (.dT kvs)) : TyOf K H (.ref a) (.type "dict")
  | ins {a C dx : Addr} {fs : List (Str × V)} (e : H a = some (.ins C dx fs)) (cl : Cls K C) (ha : PySem.W.findIn K (.ref C) "__class__" = some (some (.builtin "object.__class__")))
      (hn : PySem.W.specialIn K (.builtin "object.__class__") "__get__" = some (some (.builtin "getset_descriptor.__get__"))) (htk : PySem.W.takesIn K (.builtin "object.__class__") = some true)
      (hm : PySem.W.mroIn K C (.type "object") = some true) : TyOf K H (.ref a) (.ref C)
/-- isinstance(x, c) for one class c, a built-in or an own one: kitOne's answer -/
theorem isinst_ok {x : V} {u t : Value} (I : Inv X pins σ H s) (rx : RelV x u) (ty : TyOf X.K H x t) (e : PySem.W.kitOne X.K t c = some b) (h : ∀ tk, Q (.bool b) { s with toks := tk }) :
    wpAny (model X.prog X.w) A (call (.builtin "isinstance") [u, c]) Q E s := by
  cases ty with
  | non => cases (show u = Value.none from rx); exact PySem.W.kia_one PySem.W.kitx_none I.kIn True.intro e (fun z => nomatch z) h
  | bl y => cases (show u = Value.bool y from rx); exact PySem.W.kia_one PySem.W.kitx_bool I.kIn True.intro e (fun z => nomatch z) h
  | int i => obtain ⟨t, q⟩ := (show ∃ t, u = Value.int i t from rx); cases q; exact PySem.W.kia_one PySem.W.kitx_int I.kIn True.intro e (fun z => nomatch z) h
  | str y => obtain ⟨t, q⟩ := (show ∃ t, u = Value.str y t from rx); cases q; exact PySem.W.kia_one PySem.W.kitx_str I.kIn True.intro e (fun z => nomatch z) h
  | flt y => obtain ⟨t, q⟩ := (show ∃ t, u = Value.float y t from rx); cases q; exact PySem.W.kia_one PySem.W.kitx_float I.kIn True.intro e (fun z => nomatch z) h
  | @lst a xs ea =>
    cases (show u = Value.ref a from rx)
    obtain ⟨_, _, n, _, h1⟩ := (show ObjOk X.prog X.w H s.heap a (.lst xs) from I.hok a _ ea)
    exact PySem.W.kia_one PySem.W.kitx_list I.kIn ⟨_, h1, rfl⟩ e (fun z => nomatch z) h
  | @frz a ob xs ea =>
    cases (show u = Value.ref a from rx)
    obtain ⟨_, _, _, n, _, h1⟩ := (show ObjOk X.prog X.w H s.heap a (.frz ob (.lst xs)) from I.hok a _ ea)
    exact PySem.W.kia_one PySem.W.kitx_list I.kIn ⟨_, h1, rfl⟩ e (fun z => nomatch z) h
  | @tup a xs ea =>
    cases (show u = Value.ref a from rx)
    obtain ⟨_, _, _, p⟩ := (show ObjOk X.prog X.w H s.heap a (.tup xs) from I.hok a _ ea)
    obtain ⟨o, h1, h2, _⟩ := p
    exact PySem.W.kia_one PySem.W.kitx_tuple I.kIn ⟨o, h1, h2⟩ e (fun z => nomatch z) h
  | @dK a kvs ea =>
    cases (show u = Value.ref a from rx)
    obtain ⟨_, _, vs, _, p⟩ := (show ObjOk X.prog X.w H s.heap a (.dK kvs) from I.hok a _ ea)
    obtain ⟨o, es, ep, h1, h2, _⟩ := p
    exact PySem.W.kia_one PySem.W.kitx_dict I.kIn ⟨o, h1, h2.1⟩ e (fun z => nomatch z) h
  | @dT a kvs ea =>
    cases (show u = Value.ref a from rx)
    obtain ⟨_, _, xs, _, o, es, ep, h1, h2, _⟩ := (show ObjOk X.prog X.w H s.heap a (.dT kvs) from I.hok a _ ea)
    exact PySem.W.kia_one PySem.W.kitx_dict I.kIn ⟨o, h1, h2.1⟩ e (fun z => nomatch z) h
  | @ins a C dx fs ea cl ha hn htk hm =>
    cases (show u = Value.ref a from rx)
    obtain ⟨mA, O, _⟩ := ins_get I.hok ea
    obtain ⟨od, J, _⟩ := O.look
    exact PySem.W.kia_one (PySem.W.kitx_own (cl.get _) cl.hd ha hn htk hm) I.kIn J e (fun z => nomatch z) h
end
end L2

namespace L2
open PySem PySem.Spec PyProof.Rows

/-! ### room -/
structure Room (k : Nat) (A : Around) : Prop where
  hd : A.handled = none
  dp : A.depth + 3 * k + 5 < recursionLimit
  un : A.units + 16 * k + 200 < cLine
theorem Room.mono {j k : Nat} {A : Around} (r : Room k A) (h : j ≤ k) : Room j A := ⟨r.hd, by have := r.dp; omega, by have := r.un; omega⟩
theorem Room.deeper {k : Nat} {A : Around} (r : Room (k + 1) A) (env : Env) : Room k (A.deeper env) :=
  ⟨r.hd, by have := r.dp; show A.depth + 1 + 3 * k + 5 < _; omega, by have := r.un; show A.units + 3 + 16 * k + 200 < _; omega⟩
theorem Room.in1 {k : Nat} {A : Around} (r : Room (k + 1) A) : Room k A.in1 :=
  ⟨r.hd, by have := r.dp; show A.depth + 3 * k + 5 < _; omega, by have := r.un; show A.units + 1 + 16 * k + 200 < _; omega⟩
theorem make_depth {A : Around} {C : Addr} {us : List Value} {kw : List (Str × Value)} : (A.under (.builtin "type.__call__" ⟨.ref C :: us, kw⟩)).depth = A.depth + 1 := by
  first | rfl | simp [Around.under, Code.weight, Code.isCreation, Code.isGuard, Code.isCaller, Code.frames, Code.isFrame, guardIds]
theorem make_units {A : Around} {C : Addr} {us : List Value} {kw : List (Str × Value)} : (A.under (.builtin "type.__call__" ⟨.ref C :: us, kw⟩)).units = A.units + 1 := by
  first | rfl | simp [Around.under, Code.cUnits, Code.frames, Code.isFrame]
theorem Room.make {k : Nat} {A : Around} (r : Room (k + 1) A) (C : Addr) (us : List Value) (kw : List (Str × Value)) : Room k (A.under (.builtin "type.__call__" ⟨.ref C :: us, kw⟩)) :=
  ⟨r.hd, by have := r.dp; rw [make_depth]; omega, by have := r.un; rw [make_units]; omega⟩
theorem Room.depth {k : Nat} {A : Around} (r : Room k A) : A.depth < recursionLimit := by have := r.dp; omega
theorem Room.units {k : Nat} {A : Around} (r : Room k A) : A.units + 64 < cLine := by have := r.un; omega
theorem Room.units0 {k : Nat} {A : Around} (r : Room k A) : A.units < cLine := by have := r.un; omega

/-! ### argument lists and displays -/
def tNil : TA := fun _ H Q => Q [] H
def tCons (ta : TE) (tr : TA) : TA := fun σ H Q => ta σ H fun x H1 => tr σ H1 fun xs H2 => Q (x :: xs) H2
section
variable {X : Cx} {e : Expr} {es : List Expr} {te : TE} {t : TA} {pos : Pos}
theorem pa_nil : PA X [] tNil := fun _ _ _ _ H Q I h => Calls.spliced_nil ⟨[], H, I, .nil, h⟩
theorem pa_cons (ha : PE X e te) (hr : PA X es t) (hs : starEach (e :: es) X.env = (false, eval e X.env) :: starEach es X.env := by rfl) : PA X (e :: es) (tCons te t) := by
  intro pos pins s σ H Q I h
  rw [hs]
  show wpAny _ _ (spliced ((false, eval e X.env) :: backTo pos (starEach es X.env))) _ _ s
  refine Calls.spliced_cons (thn (ha pins s σ H _ I h) fun u s1 ⟨x, H1, I1, r1, q1⟩ => ?_)
  exact thn (hr pos pins s1 σ H1 _ I1 q1) fun us s2 ⟨xs, H2, I2, r2, q2⟩ => ⟨x :: xs, H2, I2, .cons r1 r2, q2⟩

/-- a tuple, a list of written items -/
def tTup (t : TA) : TE := fun σ H Q => t σ H fun xs H1 => xs.length ≤ sizeLine ∧ ∀ p, H1 p = none → Q (.ref p) (upd H1 p (.tup xs))
def tLst (t : TA) : TE := fun σ H Q => t σ H fun xs H1 => xs.length ≤ sizeLine ∧ ∀ p, H1 p = none → Q (.ref p) (upd H1 p (.lst xs))
theorem pe_tup {x1} (h : PA X es t) : PE X (.Tuple es x1 pos) (tTup t) := by
  intro pins s σ H Q I hq
  refine wpAny_Tuple_spliced (thn (h pos pins s σ H _ I hq) fun us s1 ⟨xs, H1, I1, r, z, q⟩ => ⟨by rw [← r.length]; exact z, ?_⟩)
  have hf : H1 s1.heap.objs.size = none := I1.hok.fresh (Nat.le_refl _)
  refine ⟨.ref s1.heap.objs.size, upd H1 s1.heap.objs.size (.tup xs), I1.laid (t' := s1.toks) (fun b u e => Heap.get?_push_of_some _ e) (Nat.le_refl _) ?_, rfl, q _ hf⟩
  exact ⟨z, us, r, ⟨_, Heap.get?_push_size _ rfl, rfl, _, rfl⟩⟩
theorem pe_lst (h : PA X es t) : PE X (.List es pos) (tLst t) := by
  intro pins s σ H Q I hq
  refine wpAny_List_spliced (thn (h pos pins s σ H _ I hq) fun us s1 ⟨xs, H1, I1, r, z, q⟩ => ⟨by rw [← r.length]; exact z, ?_⟩)
  have hf : H1 s1.heap.objs.size = none := I1.hok.fresh (Nat.le_refl _)
  refine ⟨.ref s1.heap.objs.size, upd H1 s1.heap.objs.size (.lst xs), I1.laid (t' := s1.toks) (fun b u e => Heap.get?_push_of_some _ e) (Nat.le_refl _) ?_, rfl, q _ hf⟩
  exact ⟨z, us, 0, r, Heap.get?_push_size _ rfl⟩
end

/-! ### what a def promises -/
/-- a def's promise: the bound arguments in the parameters' order, the heap, the wanted end, the wanted exception -/
abbrev Sp := List V → Hp → VK → XK → Prop
/-- how an exception lies behind a call (file 08 gives it): the callers' frames, abstract heap and state ahead of the call, the wish, the exception, the state -/
abbrev CXT := List Env → Hp → Shared → XK → Value → Shared → Prop

/-- the state at a call -/
structure Env0 (P : Program) (w : World) (K : PySem.W.Frag) (mg : Str → Option Value) (base : Heap) (A : Around) (outer : List Env) (s : Shared) (H : Hp) : Prop where
  frames : A.frames = some outer
  mod : Mod K mg base
  bs : ∀ b o, base.get? b = some o → s.heap.get? b = some o ∧ H b = none
  bsz : base.objs.size ≤ s.heap.objs.size
  funs : s.heap.FunFrames base outer
  frf : ∀ b ∈ frs outer, H b = none
  hok : HOk P w H s.heap
  bare : AllBare s.gens
/-- a call's end -/
def CE (outer : List Env) (P : Program) (w : World) (H : Hp) (s : Shared) (Q : VK) (u : Value) (s' : Shared) : Prop :=
  ∃ v H', s'.os = s.os ∧ AllBare s'.gens ∧ Un (frs outer) [] H H' s.heap s'.heap ∧ HOk P w H' s'.heap ∧ RelV v u ∧ Q v H'
def CR (CX : CXT) (outer : List Env) (P : Program) (w : World) (H : Hp) (s : Shared) (Q : VK) (E : XK) (r : Result) (s' : Shared) : Prop :=
  match r with
  | .ok (.ret u) => CE outer P w H s Q u s'
  | .ok _ => False
  | .error e => CX outer H s E e s'
structure FnOk (P : Program) (w : World) (K : PySem.W.Frag) (mg : Str → Option Value) (base : Heap) (CX : CXT) (k : Nat) (f : Addr) (fd : FuncData) (ps : List Str) (sp : Sp) : Prop where
  len : ∀ vs H Q E, sp vs H Q E → vs.length = ps.length
  run : ∀ (A : Around) (outer : List Env) (s : Shared) (H : Hp) (args : Args) (us : List Value) (vs : List V) (Q : VK) (E : XK), Room k A → Env0 P w K mg base A outer s H → BindsTo s fd args (ps.zip us) → Vals vs us → sp vs H Q E →
    codeAny (model P w) A (.call (.ref f) args) (CR CX outer P w H s Q E) s
theorem FnOk.mono {P : Program} {w : World} {K : PySem.W.Frag} {mg : Str → Option Value} {base : Heap} {CX : CXT} {j k : Nat} {f : Addr} {fd : FuncData} {ps : List Str} {sp : Sp} (F : FnOk P w K mg base CX j f fd ps sp) (h : j ≤ k) :
    FnOk P w K mg base CX k f fd ps sp := ⟨F.len, fun A outer s H args us vs Q E hr => F.run A outer s H args us vs Q E (hr.mono h)⟩
/-- a weaker promise -/
theorem FnOk.imp {P : Program} {w : World} {K : PySem.W.Frag} {mg : Str → Option Value} {base : Heap} {CX : CXT} {k : Nat} {f : Addr} {fd : FuncData} {ps : List Str} {sp sp' : Sp} (F : FnOk P w K mg base CX k f fd ps sp)
    (h : ∀ vs H Q E, sp' vs H Q E → sp vs H Q E) : FnOk P w K mg base CX k f fd ps sp' :=
  ⟨fun vs H Q E q => F.len vs H Q E (h _ _ _ _ q), fun A outer s H args us vs Q E hr he hb hv hs => F.run A outer s H args us vs Q E hr he hb hv (h _ _ _ _ hs)⟩

theorem Env0.make {P : Program} {w : World} {K : PySem.W.Frag} {mg : Str → Option Value} {base : Heap} {A : Around} {outer : List Env} {s : Shared} {H : Hp} (e : Env0 P w K mg base A outer s H) (C : Addr) (us : List Value) (kw : List (Str × Value)) :
    Env0 P w K mg base (A.under (.builtin "type.__call__" ⟨.ref C :: us, kw⟩)) outer s H := ⟨by first | exact e.frames | (simpa [Around.under, Code.envs, Code.isFrame, pushEnvs] using e.frames), e.mod, e.bs, e.bsz, e.funs, e.frf, e.hok, e.bare⟩
theorem Env0.in1 {P : Program} {w : World} {K : PySem.W.Frag} {mg : Str → Option Value} {base : Heap} {A : Around} {outer : List Env} {s : Shared} {H : Hp} (e : Env0 P w K mg base A outer s H) :
    Env0 P w K mg base A.in1 outer s H := ⟨e.frames, e.mod, e.bs, e.bsz, e.funs, e.frf, e.hok, e.bare⟩

section
variable {X : Cx} {pins : List (Addr × Obj)} {σ : St} {H : Hp} {s s' : Shared}
/-- from a body: what a callee wants -/
theorem Inv.env0 (I : Inv X pins σ H s) : Env0 X.prog X.w X.K X.mg X.base X.A X.stack s H :=
  ⟨I.ok.frames, I.ok.mod, I.bs, Nat.le_trans I.ok.bsz I.sz, I.stack, I.stkFree, I.hok, I.bare⟩
/-- behind a call -/
theorem Inv.after {Q : VK} {u : Value} (I : Inv X pins σ H s) (h : CE X.stack X.prog X.w H s Q u s') : EP X pins σ Q u s' := by
  obtain ⟨v, H', os, bare, un, hok, r, q⟩ := h
  obtain ⟨hh, g, d, t, os'⟩ := s'
  obtain rfl : os' = s.os := os
  exact ⟨v, H', I.call (h' := hh) (g' := g) (d' := d) (t' := t) (ch := []) un hok bare (fun b z => absurd z (by simp)), r, q⟩
end

/-! ### calls -/
/-- f(..): the written arguments, then the defaults dvs; E: what is wanted of an exception -/
def tCall (sp : Sp) (dvs : List V) (E : XK) (t : TA) : TE := fun σ H Q => t σ H fun vs H1 => sp (vs ++ dvs) H1 Q E
/-- o.m(..) of an instance of the class at C -/
def tMeth (C : Addr) (m : Str) (sp : Sp) (dvs : List V) (E : XK) (ta : TE) (t : TA) : TE := fun σ H Q => ta σ H fun x H1 => ∃ a dx fs, x = .ref a ∧ H1 a = some (.ins C dx fs) ∧ fs.lookup m = none ∧
  t σ H1 fun vs H2 => sp (x :: (vs ++ dvs)) H2 Q E
/-- C(..): a new instance and its dict, then __init__ -/
def tMake (C : Addr) (sp : Sp) (dvs : List V) (E : XK) (t : TA) : TE := fun σ H Q => t σ H fun vs H1 => ∀ x dx, H1 x = none → H1 dx = none → dx ≠ x →
  sp (.ref x :: (vs ++ dvs)) (upd (upd H1 dx (.own x)) x (.ins C dx [])) (fun v H2 => v = .non ∧ Q (.ref x) H2) E

/-- how the parameters are bound: us the positional arguments, kw the keywords' values by name, ds the defaults that fill up -/
def Binds (K : PySem.W.Frag) (fd : FuncData) (ps : List Str) (ds : List Value) : Prop :=
  ∀ (s : Shared) (us : List Value), K.In s.heap → (us ++ ds).length = ps.length → BindsTo s fd ⟨us, []⟩ (ps.zip (us ++ ds))
/-- every parameter is given -/
theorem Binds.all {K : PySem.W.Frag} {fd : FuncData} {ps : List Str} (h : ∀ us : List Value, us.length = ps.length → bindArgs fd ⟨us, []⟩ = pure (ps.zip us)) : Binds K fd ps [] := fun s us _ hl => by
  rw [List.append_nil] at hl ⊢
  exact .of_eq (h us hl)

/-- an exception of a callee reaches what this body wants of exceptions -/
def Passes (CX : CXT) (X : Cx) (E : XK) : Prop := ∀ (pins : List (Addr × Obj)) (σ : St) (H : Hp) (s : Shared) (e : Value) (s' : Shared), Inv X pins σ H s → CX X.stack H s E e s' → X.xe e s'

section
variable {X : Cx} {CX : CXT} {k : Nat} {f C : Addr} {fd : FuncData} {ps : List Str} {sp : Sp} {dvs : List V} {ds : List Value} {E : XK} {x m : Str} {p pos apos : Pos} {e o : Expr} {es : List Expr} {ta : TE} {t : TA}

/-- the callee runs -/
theorem run_fn {pins : List (Addr × Obj)} {σ : St} {H : Hp} {s : Shared} {Q : VK} {us : List Value} {vs : List V} (F : FnOk X.prog X.w X.K X.mg X.base CX k f fd ps sp) (hr : Room k X.A) (hb : Binds X.K fd ps ds) (hd : Vals dvs ds) (hx : Passes CX X E)
    (I : Inv X pins σ H s) (r : Vals vs us) (h : sp (vs ++ dvs) H Q E) : wpAny (model X.prog X.w) X.A (call (.ref f) us) (EP X pins σ Q) X.xe s := by
  have r2 : Vals (vs ++ dvs) (us ++ ds) := r.append hd
  have hl : (us ++ ds).length = ps.length := by rw [← r2.length]; exact F.len _ _ _ _ h
  refine wpAny_call (codeAny_mono (F.run X.A X.stack s H ⟨us, []⟩ (us ++ ds) (vs ++ dvs) Q E hr I.env0 (hb s us I.kIn hl) r2 h) fun r s' hq => ?_)
  cases r with
  | error e => exact hx pins σ H s e s' I hq
  | ok fl =>
    cases fl with
    | ret u => exact I.after hq
    | next => exact False.elim hq
    | brk => exact False.elim hq
    | cont => exact False.elim hq

theorem pe_call (F : FnOk X.prog X.w X.K X.mg X.base CX k f fd ps sp) (hr : Room k X.A) (hg : Gl X x) (hm : X.mg x = some (.ref f)) (hk : PySem.W.keepIn X.K (.ref f) = true) (hb : Binds X.K fd ps ds) (hd : Vals dvs ds) (hx : Passes CX X E)
    (ha : PA X (e :: es) t) (hdb : (x == ("__debug__" : Str)) = false := by decide) (he : starEach (e :: es) X.env = (false, eval e X.env) :: starEach es X.env := by rfl) (hpl : (backTo pos (starEach es X.env)).any (·.1) = false := by rfl) :
    PE X (.Call (.Name x p) (e :: es) [] pos) (tCall sp dvs E t) := by
  intro pins s σ H Q I h
  refine wpAny_Call_Name_kw (ld_glob I hg hm ?_ hdb)
  refine PySem.W.callWith_K (h₀ := X.base) I.ok.mod.kin hk (thn (ha pos pins s σ H _ I h) fun us s1 ⟨vs, H1, I1, r, q⟩ => ⟨I1.kIn, ?_⟩) he hpl
  exact run_fn F hr hb hd hx I1 r q
theorem pe_call0 (F : FnOk X.prog X.w X.K X.mg X.base CX k f fd ps sp) (hr : Room k X.A) (hg : Gl X x) (hm : X.mg x = some (.ref f)) (hk : PySem.W.keepIn X.K (.ref f) = true) (hb : Binds X.K fd ps ds) (hd : Vals dvs ds) (hx : Passes CX X E)
    (hdb : (x == ("__debug__" : Str)) = false := by decide) : PE X (.Call (.Name x p) [] [] pos) (tCall sp dvs E tNil) := by
  intro pins s σ H Q I h
  refine wpAny_Call_Name_kw (ld_glob I hg hm ?_ hdb)
  exact PySem.W.callWith_K0 I.kIn hk (run_fn (us := []) F hr hb hd hx I .nil h)

/-- o.m(e, ..) -/
theorem pe_meth {pl : Sem Bool} (he : PE X o ta) (c : Cls X.K C) (hm : Meth X.K C m f) (F : FnOk X.prog X.w X.K X.mg X.base CX k f fd ps sp) (hr : Room k X.A) (hb : Binds X.K fd ps ds) (hd : Vals dvs ds) (hx : Passes CX X E) (ha : PA X (e :: es) t)
    (hst : starEach (e :: es) X.env = (false, eval e X.env) :: starEach es X.env := by rfl) (hpl : (backTo pos (starEach es X.env)).any (·.1) = false := by rfl)
    (ht : eval (.Call (.Attribute o m apos) (e :: es) [] pos) X.env = (do
      let ov ← eval o X.env
      standAt apos.atName
      let (f, first) ← holding [ov] (getMethod ov m pl)
      callWith pos f first (backTo pos (starEach (e :: es) X.env)) (backToKw pos (keywordEach [] X.env))) := by rfl) :
    PE X (.Call (.Attribute o m apos) (e :: es) [] pos) (tMeth C m sp dvs E ta t) := by
  intro pins s σ H Q I h
  refine PySem.W.methodCall_KW (pl := pl) (thn (he pins s σ H _ I h) fun u s1 ⟨x, H1, I1, rx, a, dx, fs, ex, ea, l, q⟩ => ?_) ht
  subst ex
  obtain rfl : u = Value.ref a := rx
  refine getmeth_ok I1 ea c hm l ?_
  refine PySem.W.callWith_K (first := [.ref a]) (h₀ := X.base) I.ok.mod.kin hm.kp (thn (ha pos pins s1 σ H1 _ I1 q) fun us s2 ⟨vs, H2, I2, r, q2⟩ => ⟨I2.kIn, ?_⟩) hst hpl
  exact run_fn (us := .ref a :: us) (vs := .ref a :: vs) F hr hb hd hx I2 (.cons rfl r) q2
/-- o.m() -/
theorem pe_meth0 {pl : Sem Bool} (he : PE X o ta) (c : Cls X.K C) (hm : Meth X.K C m f) (F : FnOk X.prog X.w X.K X.mg X.base CX k f fd ps sp) (hr : Room k X.A) (hb : Binds X.K fd ps ds) (hd : Vals dvs ds) (hx : Passes CX X E)
    (ht : eval (.Call (.Attribute o m apos) [] [] pos) X.env = (do
      let ov ← eval o X.env
      standAt apos.atName
      let (f, first) ← holding [ov] (getMethod ov m pl)
      callWith pos f first (backTo pos (starEach [] X.env)) (backToKw pos (keywordEach [] X.env))) := by rfl) :
    PE X (.Call (.Attribute o m apos) [] [] pos) (tMeth C m sp dvs E ta tNil) := by
  intro pins s σ H Q I h
  refine PySem.W.methodCall_KW (pl := pl) (thn (he pins s σ H _ I h) fun u s1 ⟨x, H1, I1, rx, a, dx, fs, ex, ea, l, q⟩ => ?_) ht
  subst ex
  obtain rfl : u = Value.ref a := rx
  refine getmeth_ok I1 ea c hm l ?_
  exact PySem.W.callWith_K0 (first := [.ref a]) I1.kIn hm.kp (run_fn (us := [.ref a]) (vs := [.ref a]) F hr hb hd hx I1 (.cons rfl .nil) q)

/-- what a class must have to be made -/
structure Mk (K : PySem.W.Frag) (C f : Addr) : Prop where
  makes : PySem.W.makesIn K C = true
  init : PySem.W.findIn K (.ref C) "__init__" = some (some (.ref f))
  fn : PySem.W.isFn K (.ref f) = true
  kp : PySem.W.keepIn K (.ref C) = true

theorem run_make {pins : List (Addr × Obj)} {σ : St} {H : Hp} {s : Shared} {Q : VK} {us : List Value} {vs : List V} (M : Mk X.K C f) (F : FnOk X.prog X.w X.K X.mg X.base CX k f fd ps sp) (hr : Room (k + 1) X.A) (hb : Binds X.K fd ps ds) (hd : Vals dvs ds)
    (hx : Passes CX X E) (I : Inv X pins σ H s) (r : Vals vs us)
    (h : ∀ x dx, H x = none → H dx = none → dx ≠ x → sp (.ref x :: (vs ++ dvs)) (upd (upd H dx (.own x)) x (.ins C dx [])) (fun v H2 => v = .non ∧ Q (.ref x) H2) E) :
    wpAny (model X.prog X.w) X.A (call (.ref C) us) (EP X pins σ Q) X.xe s := by
  have hq := h (s.heap.objs.size + 1) s.heap.objs.size (I.hok.fresh (Nat.le_succ _)) (I.hok.fresh (Nat.le_refl _)) (Nat.ne_of_lt (Nat.lt_succ_self _))
  have I2 := Inv.made (C := C) I
  have r2 : Vals (V.ref (s.heap.objs.size + 1) :: (vs ++ dvs)) (Value.ref (s.heap.objs.size + 1) :: (us ++ ds)) := .cons rfl (r.append hd)
  have hl : (Value.ref (s.heap.objs.size + 1) :: us ++ ds).length = ps.length := by
    have e := r2.length
    rw [F.len _ _ _ _ hq] at e
    exact e.symm
  refine wpAny_call (make_map (f := f) I.kIn M.makes M.init (beq_iff_eq.mp M.fn) (codeAny_mono (F.run _ X.stack _ _ ⟨Value.ref (s.heap.objs.size + 1) :: us, []⟩ (Value.ref (s.heap.objs.size + 1) :: (us ++ ds)) _ _ E (hr.make C us [])
    (I2.env0.make C us []) (hb _ (Value.ref (s.heap.objs.size + 1) :: us) I2.kIn hl) r2 hq) fun r s' hq' => ?_))
  cases r with
  | error e => exact hx pins σ _ _ e s' I2 hq'
  | ok fl =>
    cases fl with
    | ret u =>
      obtain ⟨v, H', I3, rv, ev, q3⟩ := I2.after hq'
      subst ev
      exact ⟨rv, ⟨V.ref (s.heap.objs.size + 1), H', I3, rfl, q3⟩⟩
    | next => exact False.elim hq'
    | brk => exact False.elim hq'
    | cont => exact False.elim hq'
theorem pe_make (M : Mk X.K C f) (F : FnOk X.prog X.w X.K X.mg X.base CX k f fd ps sp) (hr : Room (k + 1) X.A) (hg : Gl X x) (hm : X.mg x = some (.ref C)) (hb : Binds X.K fd ps ds) (hd : Vals dvs ds) (hx : Passes CX X E)
    (ha : PA X (e :: es) t) (hdb : (x == ("__debug__" : Str)) = false := by decide) (he : starEach (e :: es) X.env = (false, eval e X.env) :: starEach es X.env := by rfl) (hpl : (backTo pos (starEach es X.env)).any (·.1) = false := by rfl) :
    PE X (.Call (.Name x p) (e :: es) [] pos) (tMake C sp dvs E t) := by
  intro pins s σ H Q I h
  refine wpAny_Call_Name_kw (ld_glob I hg hm ?_ hdb)
  refine PySem.W.callWith_K (h₀ := X.base) I.ok.mod.kin M.kp (thn (ha pos pins s σ H _ I h) fun us s1 ⟨vs, H1, I1, r, q⟩ => ⟨I1.kIn, ?_⟩) he hpl
  exact run_make M F hr hb hd hx I1 r q
theorem pe_make0 (M : Mk X.K C f) (F : FnOk X.prog X.w X.K X.mg X.base CX k f fd ps sp) (hr : Room (k + 1) X.A) (hg : Gl X x) (hm : X.mg x = some (.ref C)) (hb : Binds X.K fd ps ds) (hd : Vals dvs ds) (hx : Passes CX X E)
    (hdb : (x == ("__debug__" : Str)) = false := by decide) : PE X (.Call (.Name x p) [] [] pos) (tMake C sp dvs E tNil) := by
  intro pins s σ H Q I h
  refine wpAny_Call_Name_kw (ld_glob I hg hm ?_ hdb)
  exact PySem.W.callWith_K0 I.kIn M.kp (run_make (us := []) M F hr hb hd hx I .nil h)
end

/-! ### keywords -/
/-- the values of the keywords, from the left -/
def PK (X : Cx) (kws : List Keyword) (t : TA) : Prop :=
  ∀ (pos : Pos) (pins : List (Addr × Obj)) (s : Shared) (σ : St) (H : Hp) (Q : List V → Hp → Prop), Inv X pins σ H s → t σ H Q → wpAny (model X.prog X.w) X.A (evalAll ((backToKw pos (keywordEach kws X.env)).map (·.2))) (AP X pins σ Q) X.xe s
section
variable {X : Cx} {CX : CXT} {k : Nat} {f C : Addr} {fd : FuncData} {ps ks : List Str} {sp : Sp} {E : XK} {x m : Str} {p pos apos kpos : Pos} {e o : Expr} {es : List Expr} {kws : List Keyword} {te ta : TE} {t tk : TA} {nm : Option Str}
theorem pk_nil : PK X [] tNil := fun _ _ _ _ H Q I h => wpAny_evalAll_nil ⟨[], H, I, .nil, h⟩
theorem pk_cons (ha : PE X e te) (hr : PK X kws t) : PK X (⟨nm, e, kpos⟩ :: kws) (tCons te t) := by
  intro pos pins s σ H Q I h
  show wpAny _ _ (evalAll ((do let v ← eval e X.env; standAt pos; pure v) :: (backToKw pos (keywordEach kws X.env)).map (·.2))) _ _ s
  refine wpAny_evalAll_cons (wpAny_bind (thn (ha pins s σ H _ I h) fun u s1 ⟨x, H1, I1, r1, q1⟩ => wpAny_bind (wpAny_standAt (wpAny_pure ?_))))
  exact thn (hr pos pins s1 σ H1 _ I1 q1) fun us s2 ⟨xs, H2, I2, r2, q2⟩ => ⟨x :: xs, H2, I2, .cons r1 r2, q2⟩

/-- how a call with keywords binds: g puts the positional values us and the keywords' values ws (names ks) in the parameters' order, defaults among them -/
structure KBinds (K : PySem.W.Frag) (fd : FuncData) (ps ks : List Str) (g : List Value → List Value → List Value) (gV : List V → List V → List V) : Prop where
  to : ∀ (s : Shared) (us ws : List Value), K.In s.heap → (g us ws).length = ps.length → BindsTo s fd ⟨us, ks.zip ws⟩ (ps.zip (g us ws))
  rel : ∀ {vs : List V} {us : List Value} {zs : List V} {ws : List Value}, Vals vs us → Vals zs ws → Vals (gV vs zs) (g us ws)
def tCallK (sp : Sp) (gV : List V → List V → List V) (E : XK) (t tk : TA) : TE := fun σ H Q => t σ H fun vs H1 => tk σ H1 fun zs H2 => sp (gV vs zs) H2 Q E
variable {g : List Value → List Value → List Value} {gV : List V → List V → List V}
theorem run_fnk {pins : List (Addr × Obj)} {σ : St} {H : Hp} {s : Shared} {Q : VK} {us ws : List Value} {vs zs : List V} (F : FnOk X.prog X.w X.K X.mg X.base CX k f fd ps sp) (hr : Room k X.A) (hb : KBinds X.K fd ps ks g gV) (hx : Passes CX X E)
    (I : Inv X pins σ H s) (r : Vals vs us) (rz : Vals zs ws) (h : sp (gV vs zs) H Q E) : wpAny (model X.prog X.w) X.A (call (.ref f) us (ks.zip ws)) (EP X pins σ Q) X.xe s := by
  have r2 := hb.rel r rz
  have hl : (g us ws).length = ps.length := by rw [← r2.length]; exact F.len _ _ _ _ h
  refine wpAny_call (codeAny_mono (F.run X.A X.stack s H ⟨us, ks.zip ws⟩ (g us ws) (gV vs zs) Q E hr I.env0 (hb.to s us ws I.kIn hl) r2 h) fun r s' hq => ?_)
  cases r with
  | error e => exact hx pins σ H s e s' I hq
  | ok fl =>
    cases fl with
    | ret u => exact I.after hq
    | next => exact False.elim hq
    | brk => exact False.elim hq
    | cont => exact False.elim hq
/-- f(e, .., k = v, ..) -/
theorem pe_callK (F : FnOk X.prog X.w X.K X.mg X.base CX k f fd ps sp) (hr : Room k X.A) (hg : Gl X x) (hm : X.mg x = some (.ref f)) (hk : PySem.W.keepIn X.K (.ref f) = true) (hb : KBinds X.K fd ps ks g gV) (hx : Passes CX X E)
    (ha : PA X (e :: es) t) (hkw : PK X kws tk) (hall : (backToKw pos (keywordEach kws X.env)).all (·.1.isSome) = true := by rfl) (hks : (backToKw pos (keywordEach kws X.env)).filterMap (·.1) = ks := by rfl)
    (hdb : (x == ("__debug__" : Str)) = false := by decide) (he : starEach (e :: es) X.env = (false, eval e X.env) :: starEach es X.env := by rfl)
    (hpl : ((backTo pos (starEach (e :: es) X.env)).any (·.1) || (backToKw pos (keywordEach kws X.env)).any (·.1.isNone)) = false := by rfl) :
    PE X (.Call (.Name x p) (e :: es) kws pos) (tCallK sp gV E t tk) := by
  intro pins s σ H Q I h
  refine wpAny_Call_Name_kw (ld_glob I hg hm ?_ hdb)
  refine PySem.W.callWith_KW (h₀ := X.base) I.ok.mod.kin hk hall (thn (ha pos pins s σ H _ I h) fun us s1 ⟨vs, H1, I1, r, q⟩ => ?_) hpl he
  refine thn (hkw pos pins s1 σ H1 _ I1 q) fun ws s2 ⟨zs, H2, I2, rz, q2⟩ => ⟨I2.kIn, ?_⟩
  rw [hks]
  exact run_fnk F hr hb hx I2 r rz q2
end

/-! ### a def's body keeps its promise -/
/-- names: the parameters first -/
structure FnScope (N P : List Str) (sc : Scope) : Prop where
  kind : sc.kind = .function
  co : sc.isCoroutine = false
  gen : sc.isGenerator = false
  nd : N.Nodup
  pre : N.take P.length = P
  par : ∀ x ∈ P, sc.names.lookup x = some .local ∨ sc.names.lookup x = some .cell
  nofree : ∀ y ∈ sc.names, y.2 ≠ .free

theorem bindL_out {kindOf : Str → Option NameKind} {x : Str} : ∀ {binds : List (Str × Value)} {m : Str → Option Value}, (∀ v, (x, v) ∉ binds) → bindL kindOf binds m x = m x
  | [], _, _ => rfl
  | (n, v) :: r, m, h => by
    unfold bindL
    rw [bindL_out fun w hw => h w (List.mem_cons_of_mem _ hw)]
    split
    · have : x ≠ n := by rintro rfl; exact h v List.mem_cons_self
      simp [this]
    · rfl
theorem bindC_out {kindOf : Str → Option NameKind} {x : Str} : ∀ {binds : List (Str × Value)} {m : Str → Option Value}, (∀ v, (x, v) ∉ binds) → bindC kindOf binds m x = m x
  | [], _, _ => rfl
  | (n, v) :: r, m, h => by
    unfold bindC
    rw [bindC_out fun w hw => h w (List.mem_cons_of_mem _ hw)]
    split
    · rfl
    · have : x ≠ n := by rintro rfl; exact h v List.mem_cons_self
      simp [this]
theorem bindL_get {kindOf : Str → Option NameKind} {x : Str} {v : Value} : ∀ {P : List Str} {vs : List Value} {i : Nat} {m : Str → Option Value}, P.Nodup → P[i]? = some x → vs[i]? = some v → kindOf x = some .local →
    bindL kindOf (P.zip vs) m x = some v
  | [], _, _, _, _, h, _, _ => by simp at h
  | _ :: _, [], _, _, _, _, h, _ => by simp at h
  | p :: P, w :: vs, 0, m, nd, h1, h2, hk => by
    simp at h1 h2; subst h1; subst h2
    show bindL kindOf ((p, w) :: P.zip vs) m p = _
    unfold bindL
    rw [bindL_out fun v hv => (List.nodup_cons.mp nd).1 (List.of_mem_zip hv).1, if_pos hk]
    simp
  | p :: P, w :: vs, i + 1, m, nd, h1, h2, hk => by
    show bindL kindOf ((p, w) :: P.zip vs) m x = _
    unfold bindL
    exact bindL_get (i := i) (List.nodup_cons.mp nd).2 (by simpa using h1) (by simpa using h2) hk
theorem bindC_get {kindOf : Str → Option NameKind} {x : Str} {v : Value} : ∀ {P : List Str} {vs : List Value} {i : Nat} {m : Str → Option Value}, P.Nodup → P[i]? = some x → vs[i]? = some v → kindOf x ≠ some .local →
    bindC kindOf (P.zip vs) m x = some v
  | [], _, _, _, _, h, _, _ => by simp at h
  | _ :: _, [], _, _, _, _, h, _ => by simp at h
  | p :: P, w :: vs, 0, m, nd, h1, h2, hk => by
    simp at h1 h2; subst h1; subst h2
    show bindC kindOf ((p, w) :: P.zip vs) m p = _
    unfold bindC
    rw [bindC_out fun v hv => (List.nodup_cons.mp nd).1 (List.of_mem_zip hv).1, if_neg hk]
    simp
  | p :: P, w :: vs, i + 1, m, nd, h1, h2, hk => by
    show bindC kindOf ((p, w) :: P.zip vs) m x = _
    unfold bindC
    exact bindC_get (i := i) (List.nodup_cons.mp nd).2 (by simpa using h1) (by simpa using h2) hk

/-- the names' values at the entry -/
def start (N : List Str) (vs : List V) : St := vs.map some ++ List.replicate (N.length - vs.length) none

/-- the context of a def's body, at its entry; an exception leaves the frame, then lies as CX says -/
def cxOf (CX : CXT) (P : Program) (w : World) (K : PySem.W.Frag) (mg : Str → Option Value) (base : Heap) (N : List Str) (qual : Str) (scope : Scope) (f : Addr) (cd : Value) (A : Around) (outer : List Env) (s : Shared) (H : Hp) (E : XK) : Cx where
  prog := P
  w := w
  K := K
  mg := mg
  base := base
  A := A.deeper (envOfC qual scope s.heap.objs.size f cd)
  N := N
  s₀ := s
  H₀ := H
  env := envOfC qual scope s.heap.objs.size f cd
  outer := outer
  stack := envOfC qual scope s.heap.objs.size f cd :: outer
  ex := []
  calm := true
  fn := fun _ => true
  pn := []
  xe := fun e s' => wpAny (model P w) (A.deeper (envOfC qual scope s.heap.objs.size f cd)) (leaving (envOfC qual scope s.heap.objs.size f cd) e) (fun _ s'' => CX outer H s E e s'') (fun e' s'' => CX outer H s E e' s'') s'

theorem cell_has {sc : Scope} {n : Nat} {x : Str} (h : sc.names.lookup x = some .cell) : ∃ c, (cellsFrom n sc.names []).lookup x = some c := by
  have q := PySem.W.cellsFrom_some sc.names n [] (.inl h)
  exact Option.isSome_iff_exists.mp q

theorem inv_start {CX : CXT} {P : Program} {w : World} {K : PySem.W.Frag} {mg : Str → Option Value} {base : Heap} {N ps : List Str} {qual : Str} {scope : Scope} {f : Addr} {cd : Value} {A : Around} {outer : List Env} {s s1 : Shared} {H : Hp} {E : XK} {us : List Value} {vs : List V}
    (S : FnScope N ps scope) (hd : A.handled = none) (e0 : Env0 P w K mg base A outer s H) (hl : vs.length = ps.length) (r : Vals vs us)
    (x : InCallC s s.heap.objs.size (bindL (envOfC qual scope s.heap.objs.size f cd).kindOf (ps.zip us) fun _ => none) (cellsFrom (s.heap.objs.size + 1) scope.names []) (bindC (envOfC qual scope s.heap.objs.size f cd).kindOf (ps.zip us) fun _ => none) s1) :
    Inv (cxOf CX P w K mg base N qual scope f cd A outer s H E) [] (start N vs) H s1 := by
  have hpl : ps.length ≤ N.length := by have := congrArg List.length S.pre; rw [List.length_take] at this; omega
  obtain ⟨h1, tk, rfl, hk⟩ := x.done
  have noA : ∀ b : Addr, b ∉ (cxOf CX P w K mg base N qual scope f cd A outer s H E).ex := fun b z => absurd (show b ∈ ([] : List Addr) from z) (by simp)
  refine ⟨⟨e0.mod, S.kind, rfl, rfl, Nat.le_refl _, fun y z c h1 h2 => ?_, fun y hy => ?_, fun y c _ h => ?_, fun _ => hd, Around.frames_deeper e0.frames, .inr ⟨rfl, rfl⟩, fun b z => absurd z (noA b), e0.bs, e0.bsz, fun b _ _ => noA b, fun b z => absurd z (noA b), e0.funs, e0.frf⟩,
    rfl, e0.bare, Un.kept hk, ⟨_, x.toInCall.ns, fun i y v h1 h2 h3 => ?_⟩, fun y c h => ⟨_, x.cell y c h⟩, e0.hok.fresh (Nat.le_refl _), fun y c h => ?_, fun p hp => absurd (show p ∈ ([] : List (Addr × Obj)) from hp) (by simp), e0.hok.kept hk, ?_⟩
  · exact name_of_addr x.apart (PySem.mem_of_lookup h1) (PySem.mem_of_lookup h2)
  · have hy : scope.names.lookup y = some .cell ∨ scope.names.lookup y = some .free := hy
    rcases hy with hy | hy
    · exact cell_has hy
    · exact absurd rfl (S.nofree _ (PySem.mem_of_lookup hy))
  · exact Nat.le_of_lt (x.above y c (PySem.mem_of_lookup h))
  · have hi : i < vs.length := by
      unfold start at h2
      by_cases hi : i < vs.length
      · exact hi
      · rw [List.getElem?_append_right (by simpa using hi)] at h2
        rw [List.getElem?_replicate] at h2
        split at h2 <;> cases h2
    have ha : vs[i]? = some v := by
      unfold start at h2
      rw [List.getElem?_append_left (by simpa using hi), List.getElem?_map] at h2
      cases e : vs[i]? with
      | none => rw [e] at h2; cases h2
      | some a => rw [e] at h2; cases h2; rfl
    obtain ⟨u, hu, rv⟩ := r.get ha
    have hp : ps[i]? = some y := by
      rw [← S.pre, List.getElem?_take_of_lt (by omega)]; exact h1
    have ndP : ps.Nodup := by rw [← S.pre]; exact S.nd.sublist (List.take_sublist _ _)
    refine ⟨u, rv, ?_⟩
    rcases S.par y (List.mem_of_getElem? hp) with k | k
    · exact .inl ⟨k, bindL_get ndP hp hu k⟩
    · obtain ⟨c, e⟩ := cell_has (n := s.heap.objs.size + 1) k
      refine .inr ⟨.inl k, c, e, ?_⟩
      have q := x.cell y c e
      rw [bindC_get ndP hp hu (by show scope.names.lookup y ≠ _; rw [k]; decide)] at q
      exact q
  · exact e0.hok.fresh (Nat.le_of_lt (x.above y c (PySem.mem_of_lookup h)))
  · unfold start
    show _ = N.length
    rw [List.length_append, List.length_map, List.length_replicate]
    omega

/-- THE RULE: a def (or a method) of the text, by its body. The body's reading t is chosen for each entry; it is run at the parameters' values -/
theorem fn_of {CX : CXT} {P : Program} {w : World} {K : PySem.W.Frag} {mg : Str → Option Value} {base : Heap} {k : Nat} {f : Addr} {name qual : Str} {params : Arguments} {body : List Stmt} {scope : Scope} {dV kV doc pm cdv ct oc : Value} {an od : Option Addr}
    {osl : Array (Option Value)} {N ps : List Str} {sp : Sp} (lk : K.lookup f = some ⟨oc, od, .func (PySem.W.fnOf name qual params body scope dV kV doc pm an cdv ct), osl⟩) (hcd : PySem.W.codeIn K cdv qual = true) (S : FnScope N ps scope)
    (len : ∀ vs H Q E, sp vs H Q E → vs.length = ps.length)
    (hbody : ∀ (A : Around) (outer : List Env) (s : Shared) (H : Hp) (vs : List V) (Q : VK) (E : XK), Room k (A.deeper (envOfC qual scope s.heap.objs.size f cdv)) → sp vs H Q E →
      ∃ t, PSs (cxOf CX P w K mg base N qual scope f cdv A outer s H E) body t ∧ t { nx := fun _ H' => Q .non H', rt := Q } (start N vs) H) :
    FnOk P w K mg base CX (k + 1) f (PySem.W.fnOf name qual params body scope dV kV doc pm an cdv ct) ps sp := by
  refine ⟨len, fun A outer s H args us vs Q E hr e0 hb r hsp => ?_⟩
  have hl := len _ _ _ _ hsp
  have KX : K.In s.heap := e0.mod.kin.keeps fun b o e => (e0.bs b o e).1
  have lim : s.heap.NoLimit := e0.mod.nolimit.keeps fun b o e => (e0.bs b o e).1
  have hkind : ∀ y ∈ ps.zip us, scope.names.lookup y.1 = some .local ∨ (scope.names.lookup y.1 = some .cell ∧ ((cellsFrom (s.heap.objs.size + 1) scope.names []).lookup y.1).isSome = true) := fun ⟨n, v⟩ hy => by
    rcases S.par n (List.of_mem_zip hy).1 with q | q
    · exact .inl q
    · exact .inr ⟨q, PySem.W.cellsFrom_some _ _ _ (.inl q)⟩
  refine codeAny_call_function hr.depth (KX _ _ lk) rfl S.co S.gen rfl (PySem.W.codeRec_of KX hcd) (hb _ _ _ _ ?_)
  refine wpAny_newFunctionEnv_cells S.kind hkind fun env he s1 x => ?_
  subst he
  refine ⟨lim.keeps x.toInCall.keep, codeAny_func ?_⟩
  obtain ⟨t, ht, hq⟩ := hbody A outer s H vs Q E (hr.deeper _) hsp
  have I : Inv (cxOf CX P w K mg base N qual scope f cdv A outer s H E) [] (start N vs) H s1 := inv_start S hr.hd e0 hl r x
  refine wpAny_mono (ht [] s1 (start N vs) H _ I hq) (fun fl s' hs => ?_) fun e s' hs => hs
  have fin : ∀ {σ' : St} {H' : Hp} {v : V} {u : Value}, Inv (cxOf CX P w K mg base N qual scope f cdv A outer s H E) [] σ' H' s' → RelV v u → Q v H' → CE outer P w H s Q u s' :=
    fun {σ' H' v u} J rv q => ⟨v, H', J.os, J.bare, J.base, J.hok, rv, q⟩
  cases fl with
  | ret u =>
    obtain ⟨v, σ', H', J, rv, q⟩ := hs
    exact fin J rv q
  | next =>
    obtain ⟨σ', H', J, q⟩ := hs
    exact fin (v := V.non) (u := Value.none) J rfl q
  | brk =>
    obtain ⟨_, _, _, q⟩ := hs
    exact False.elim q
  | cont =>
    obtain ⟨_, _, _, q⟩ := hs
    exact False.elim q
end L2

namespace L2
open PySem PySem.Spec PyProof.Rows
section
variable {X : Cx} {x : Str} {p pos : Pos} {e : Expr} {es : List Expr} {t : TA} {id T : String} {r : List V → Hp → VK → Prop}

def tCB (r : List V → Hp → VK → Prop) (t : TA) : TE := fun σ H Q => t σ H fun vs H1 => r vs H1 Q
/-- f(e, ..), f a built-in function -/
theorem pe_callB (hc : CallR X (.builtin id) r) (hg : Gl X x) (hm : X.mg x = none) (hv : bootBuiltins x = some (.builtin id)) (ha : PA X (e :: es) t) (hn : x ≠ "__name__" := by decide) (hdb : (x == ("__debug__" : Str)) = false := by decide)
    (he : starEach (e :: es) X.env = (false, eval e X.env) :: starEach es X.env := by rfl) (hpl : (backTo pos (starEach es X.env)).any (·.1) = false := by rfl) : PE X (.Call (.Name x p) (e :: es) [] pos) (tCB r t) := by
  intro pins s σ H Q I h
  refine wpAny_Call_Name_kw (ld_blt I hg hm hv ?_ hn hdb)
  exact PyProof.Rows.callWith_builtin1 (thn (ha pos pins s σ H _ I h) fun us s1 ⟨vs, H1, I1, r1, q1⟩ => hc pins s1 σ H1 vs us Q I1 r1 q1) he hpl
/-- T(e, ..), T a built-in type -/
theorem pe_callTy (hc : CallR X (.type T) r) (hg : Gl X x) (hm : X.mg x = none) (hv : bootBuiltins x = some (.type T)) (ha : PA X (e :: es) t) (hn : x ≠ "__name__" := by decide) (hdb : (x == ("__debug__" : Str)) = false := by decide)
    (he : starEach (e :: es) X.env = (false, eval e X.env) :: starEach es X.env := by rfl) (hpl : (backTo pos (starEach es X.env)).any (·.1) = false := by rfl) : PE X (.Call (.Name x p) (e :: es) [] pos) (tCB r t) := by
  intro pins s σ H Q I h
  refine wpAny_Call_Name_kw (ld_blt I hg hm hv ?_ hn hdb)
  exact PyProof.Rows.callWith_type1 (thn (ha pos pins s σ H _ I h) fun us s1 ⟨vs, H1, I1, r1, q1⟩ => hc pins s1 σ H1 vs us Q I1 r1 q1) he hpl
/-- T() -/
theorem pe_callTy0 (hc : CallR X (.type T) r) (hg : Gl X x) (hm : X.mg x = none) (hv : bootBuiltins x = some (.type T)) (hn : x ≠ "__name__" := by decide) (hdb : (x == ("__debug__" : Str)) = false := by decide) :
    PE X (.Call (.Name x p) [] [] pos) (tCB r tNil) := by
  intro pins s σ H Q I h
  refine wpAny_Call_Name_kw (ld_blt I hg hm hv ?_ hn hdb)
  exact PyProof.Rows.callWith_type0 (hc pins s σ H [] [] Q I .nil h)
end
end L2

namespace L2
open PySem PySem.Spec PyProof.Rows

/-! ### lists of pairs as tables -/
section
variable {κ : Type} [DecidableEq κ]
def valV (kvs : List (κ × V)) (k : κ) : Option V := (kvs.find? fun kv => decide (kv.1 = k)).map (·.2)
/-- in its place, or at the end -/
def putK (kvs : List (κ × V)) (k : κ) (v : V) : List (κ × V) :=
  if (kvs.any fun kv => decide (kv.1 = k)) = true then kvs.map (fun kv => if kv.1 = k then (kv.1, v) else kv) else kvs ++ [(k, v)]
def dropK (kvs : List (κ × V)) (k : κ) : List (κ × V) := kvs.filter fun kv => decide (kv.1 ≠ k)

theorem valV_nil {k : κ} : valV ([] : List (κ × V)) k = none := rfl
theorem valV_pos {p : κ × V} {r : List (κ × V)} {k : κ} (e : p.1 = k) : valV (p :: r) k = some p.2 := by simp [valV, List.find?_cons, e]
theorem valV_neg {p : κ × V} {r : List (κ × V)} {k : κ} (e : ¬ p.1 = k) : valV (p :: r) k = valV r k := by simp [valV, List.find?_cons, e]
theorem valV_any (k : κ) : ∀ kvs : List (κ × V), (kvs.any fun kv => decide (kv.1 = k)) = (valV kvs k).isSome
  | [] => rfl
  | p :: r => by
    rw [List.any_cons]
    by_cases e : p.1 = k
    · simp only [valV_pos e, decide_eq_true e, Bool.true_or, Option.isSome_some]
    · rw [valV_neg e, decide_eq_false e, Bool.false_or]; exact valV_any k r
theorem valV_map (k j : κ) (y : V) : ∀ kvs : List (κ × V), valV (kvs.map fun kv => if kv.1 = k then (kv.1, y) else kv) j = (valV kvs j).map fun x => if j = k then y else x
  | [] => rfl
  | p :: r => by
    have ih := valV_map k j y r
    rw [List.map_cons]
    by_cases h : p.1 = k
    · rw [if_pos h]
      by_cases e : p.1 = j
      · rw [valV_pos (p := (p.1, y)) e, valV_pos e, Option.map_some, if_pos (e.symm.trans h)]
      · rw [valV_neg (p := (p.1, y)) e, valV_neg e, ih]
    · rw [if_neg h]
      by_cases e : p.1 = j
      · rw [valV_pos (p := p) e, valV_pos e, Option.map_some, if_neg (fun z => h (e.trans z))]
      · rw [valV_neg (p := p) e, valV_neg e, ih]
theorem valV_snoc (k j : κ) (y : V) : ∀ kvs : List (κ × V), valV kvs k = none → valV (kvs ++ [(k, y)]) j = if j = k then some y else valV kvs j
  | [], _ => by
    by_cases e : k = j
    · rw [if_pos e.symm]; exact valV_pos (p := (k, y)) e
    · rw [if_neg (fun z => e z.symm)]; exact valV_neg (p := (k, y)) e
  | p :: r, hn => by
    rw [List.cons_append]
    have hk : ¬ p.1 = k := fun z => by rw [valV_pos z] at hn; cases hn
    rw [valV_neg hk] at hn
    have ih := valV_snoc k j y r hn
    by_cases e : p.1 = j
    · rw [valV_pos e, valV_pos e, if_neg (fun z => hk (e.trans z))]
    · rw [valV_neg e, valV_neg e, ih]
theorem valV_put (kvs : List (κ × V)) (k j : κ) (y : V) : valV (putK kvs k y) j = if j = k then some y else valV kvs j := by
  unfold putK
  by_cases a : (kvs.any fun kv => decide (kv.1 = k)) = true
  · rw [if_pos a, valV_map]
    rw [valV_any] at a
    by_cases e : j = k
    · obtain ⟨x, hx⟩ := Option.isSome_iff_exists.mp a
      rw [if_pos e, e, hx, Option.map_some, if_pos rfl]
    · rw [if_neg e]
      cases valV kvs j with
      | none => rfl
      | some x => rw [Option.map_some, if_neg e]
  · rw [if_neg a]
    refine valV_snoc k j y kvs ?_
    rw [valV_any] at a
    cases q : valV kvs k with
    | none => rfl
    | some x => rw [q] at a; exact (a rfl).elim
theorem length_putK (kvs : List (κ × V)) (k : κ) (v : V) : (putK kvs k v).length ≤ kvs.length + 1 := by
  unfold putK
  split
  · rw [List.length_map]; omega
  · rw [List.length_append, List.length_cons, List.length_nil]; omega
theorem putK_new {kvs : List (κ × V)} {k : κ} (v : V) (h : valV kvs k = none) : putK kvs k v = kvs ++ [(k, v)] := by
  unfold putK
  rw [valV_any, h]
  exact if_neg (by decide)

theorem RelO.isSome_eq {o : Option V} {u : Option Value} (r : RelO o u) : o.isSome = u.isSome := by
  cases o with
  | none => cases u with
    | none => rfl
    | some _ => exact (show False from r).elim
  | some _ => cases u with
    | none => exact (show False from r).elim
    | some _ => rfl
theorem RelO.getD {o : Option V} {u : Option Value} {d : V} {d' : Value} (r : RelO o u) (rd : RelV d d') : RelV (o.getD d) (u.getD d') := by
  cases o with
  | none => cases u with
    | none => exact rd
    | some _ => exact (show False from r).elim
  | some _ => cases u with
    | none => exact (show False from r).elim
    | some _ => exact r

/-- raw tables of the same keys -/
theorem KV.val {kvs : List (κ × V)} {vs : List (κ × Value)} (r : KV kvs vs) (k : κ) : RelO (valV kvs k) (valueAt vs k) := by
  unfold KV at r
  induction r with
  | nil => exact True.intro
  | @cons p q ps qs h t ih =>
    obtain ⟨h1, h2⟩ := h
    by_cases e : p.1 = k
    · have e' : q.1 = k := h1.symm.trans e
      have b : valueAt (q :: qs) k = some q.2 := by simp [valueAt, List.find?_cons, e']
      rw [valV_pos e, b]; exact h2
    · have e' : ¬ q.1 = k := fun z => e (h1.trans z)
      have b : valueAt (q :: qs) k = valueAt qs k := by simp [valueAt, List.find?_cons, e']
      rw [valV_neg e, b]; exact ih
theorem KV.any {kvs : List (κ × V)} {vs : List (κ × Value)} (r : KV kvs vs) (k : κ) : (kvs.any fun kv => decide (kv.1 = k)) = vs.any fun kv => decide (kv.1 = k) := by
  unfold KV at r
  induction r with
  | nil => rfl
  | cons h t ih => rw [List.any_cons, List.any_cons, ih, h.1]
theorem KV.repl {kvs : List (κ × V)} {vs : List (κ × Value)} (r : KV kvs vs) (k : κ) {y : V} {u : Value} (ry : RelV y u) :
    KV (kvs.map fun kv => if kv.1 = k then (kv.1, y) else kv) (vs.map fun kv => if kv.1 = k then (kv.1, u) else kv) := by
  unfold KV at r ⊢
  induction r with
  | nil => exact .nil
  | @cons p q ps qs h t ih =>
    rw [List.map_cons, List.map_cons]
    refine .cons ?_ ih
    obtain ⟨h1, h2⟩ := h
    by_cases e : p.1 = k
    · rw [if_pos e, if_pos (h1.symm.trans e)]; exact ⟨h1, ry⟩
    · rw [if_neg e, if_neg (fun z => e (h1.trans z))]; exact ⟨h1, h2⟩
theorem KV.put {kvs : List (κ × V)} {vs : List (κ × Value)} (r : KV kvs vs) (k : κ) {y : V} {u : Value} (ry : RelV y u) : KV (putK kvs k y) (stored vs k u) := by
  unfold putK stored
  rw [r.any k]
  by_cases e : (vs.any fun kv => decide (kv.1 = k)) = true
  · rw [if_pos e, if_pos e]; exact r.repl k ry
  · rw [if_neg e, if_neg e]; exact Paired.snoc r ⟨rfl, ry⟩
theorem KV.drop {kvs : List (κ × V)} {vs : List (κ × Value)} (r : KV kvs vs) (k : κ) : KV (dropK kvs k) (without vs k) := by
  unfold KV at r ⊢
  unfold dropK without
  induction r with
  | nil => exact .nil
  | @cons p q ps qs h t ih =>
    obtain ⟨h1, h2⟩ := h
    rw [List.filter_cons, List.filter_cons]
    by_cases e : p.1 = k
    · have a : ¬ decide (p.1 ≠ k) = true := by simp [e]
      have b : ¬ decide (q.1 ≠ k) = true := by simp [h1.symm.trans e]
      rw [if_neg a, if_neg b]; exact ih
    · have e' : ¬ q.1 = k := fun z => e (h1.trans z)
      have a : decide (p.1 ≠ k) = true := by simp [e]
      have b : decide (q.1 ≠ k) = true := by simp [e']
      rw [if_pos a, if_pos b]; exact .cons ⟨h1, h2⟩ ih
theorem KV.keys {kvs : List (κ × V)} {vs : List (κ × Value)} (r : KV kvs vs) : kvs.map (·.1) = vs.map (·.1) := by
  unfold KV at r
  induction r with
  | nil => rfl
  | cons h t ih => rw [List.map_cons, List.map_cons, ih, h.1]
theorem KV.length {kvs : List (κ × V)} {vs : List (κ × Value)} (r : KV kvs vs) : kvs.length = vs.length := Paired.length r
theorem dropK_le (kvs : List (κ × V)) (k : κ) : (dropK kvs k).length ≤ kvs.length := List.length_filter_le _ _
end


/-! ### a tracked dict, its keys ints and texts or tuples of these -/
theorem kV_is {P : Program} {w : World} {k : Key} {u : Value} (r : RelV (kV k) u) : (mixKind P w).is k u = true := by
  cases k with
  | inl i => obtain ⟨t, e⟩ := (show ∃ t, u = Value.int i t from r); subst e; exact mixKind_int P w i t
  | inr x => obtain ⟨t, e⟩ := (show ∃ t, u = Value.str x t from r); subst e; exact mixKind_str P w x t
theorem kV_inj {a b : Key} (e : kV a = kV b) : a = b := by
  cases a with
  | inl i => cases b with
    | inl j => have e' : V.int i = V.int j := e; injection e' with e'; rw [e']
    | inr y => exact nomatch (show V.int i = V.str y from e)
  | inr x => cases b with
    | inl j => exact nomatch (show V.str x = V.int j from e)
    | inr y => have e' : V.str x = V.str y := e; injection e' with e'; rw [e']
theorem kVs_inj : ∀ {a b : List Key}, a.map kV = b.map kV → a = b
  | [], [], _ => rfl
  | [], _ :: _, e => by simp at e
  | _ :: _, [], e => by simp at e
  | x :: xs, y :: ys, e => by
    rw [List.map_cons, List.map_cons] at e
    injection e with e1 e2
    rw [kV_inj e1, kVs_inj e2]
theorem items_are {P : Program} {w : World} : ∀ {ks : List Key} {us : List Value}, Vals (ks.map kV) us → ItemsAre (mixKind P w) ks us
  | [], _, r => by rw [List.map_nil] at r; cases r; exact .nil
  | k :: ks, _, r => by
    rw [List.map_cons] at r
    cases r with
    | cons h t => exact .cons (kV_is h) (items_are t)

/-- raw entries of a dict with tuple keys -/
abbrev KT (H : Hp) : List (List Key × V) → List (List Key × Addr × Value) → Prop := Paired fun p q => p.1 = q.1 ∧ H q.2.1 = some (.tup (p.1.map kV)) ∧ RelV p.2 q.2.2
theorem KT.val {H : Hp} {kvs : List (List Key × V)} {xs : List (List Key × Addr × Value)} (r : KT H kvs xs) (k : List Key) : RelO (valV kvs k) ((atKey xs k).map (·.2)) := by
  induction r with
  | nil => exact True.intro
  | @cons p q ps qs h t ih =>
    obtain ⟨h1, _, h2⟩ := h
    by_cases e : p.1 = k
    · have e' : q.1 = k := h1.symm.trans e
      have b : atKey (q :: qs) k = some q.2 := by simp [atKey, List.find?_cons, e']
      rw [valV_pos e, b]; exact h2
    · have e' : ¬ q.1 = k := fun z => e (h1.trans z)
      have b : atKey (q :: qs) k = atKey qs k := by simp [atKey, List.find?_cons, e']
      rw [valV_neg e, b]; exact ih
theorem KT.repl {H : Hp} {kvs : List (List Key × V)} {xs : List (List Key × Addr × Value)} (r : KT H kvs xs) (k : List Key) {y : V} {u : Value} (ry : RelV y u) :
    KT H (kvs.map fun kv => if kv.1 = k then (kv.1, y) else kv) (xs.map (putAt k u)) := by
  induction r with
  | nil => exact .nil
  | @cons p q ps qs h t ih =>
    rw [List.map_cons, List.map_cons]
    refine .cons ?_ ih
    obtain ⟨h1, h2, h3⟩ := h
    unfold putAt
    by_cases e : p.1 = k
    · rw [if_pos e, if_pos (h1.symm.trans e)]; exact ⟨h1, h2, ry⟩
    · rw [if_neg e, if_neg (fun z => e (h1.trans z))]; exact ⟨h1, h2, h3⟩
theorem KT.put {H : Hp} {kvs : List (List Key × V)} {xs : List (List Key × Addr × Value)} (r : KT H kvs xs) (k : List Key) {b : Addr} {y : V} {u : Value} (hb : H b = some (.tup (k.map kV))) (ry : RelV y u) :
    KT H (putK kvs k y) (storedH xs k b u) := by
  have e : (kvs.any fun kv => decide (kv.1 = k)) = (atKey xs k).isSome := by
    rw [valV_any, (r.val k).isSome_eq, Option.isSome_map]
  unfold putK storedH
  rw [e]
  by_cases q : (atKey xs k).isSome = true
  · rw [if_pos q, if_pos q]; exact r.repl k ry
  · rw [if_neg q, if_neg q]; exact Paired.snoc r ⟨rfl, hb, ry⟩
theorem KT.keeps {H H' : Hp} {kvs : List (List Key × V)} {xs : List (List Key × Addr × Value)} (r : KT H kvs xs) (ht : ∀ b ys, H b = some (.tup ys) → H' b = some (.tup ys)) : KT H' kvs xs :=
  Paired.mapP r fun _ _ z => ⟨z.1, ht _ _ z.2.1, z.2.2⟩

section
variable {P : Program} {w : World} {H : Hp} {h : Heap} {a : Addr}
theorem rd_of {u : HO} (ok : HOk P w H h) (e : Rd H a u) : ObjOk P w H h a u := e.ok ok
theorem dk_rd {kvs : List (Key × V)} (ok : HOk P w H h) (e : Rd H a (.dK kvs)) : kvs.length ≤ sizeLine ∧ (a == sysModules) = false ∧ ∃ vs, KV kvs vs ∧ h.DictOf (mixKind P w) a vs :=
  show ObjOk P w H h a (.dK kvs) from rd_of ok e
theorem dk_of {kvs : List (Key × V)} (ok : HOk P w H h) (e : H a = some (.dK kvs)) : kvs.length ≤ sizeLine ∧ (a == sysModules) = false ∧ ∃ vs, KV kvs vs ∧ h.DictOf (mixKind P w) a vs := dk_rd ok (.inl e)
/-- a tracked tuple of ints and texts is a key -/
theorem key_of {ks : List Key} (ok : HOk P w H h) (e : H a = some (.tup (ks.map kV))) : (tupleKind (mixKind P w)).is h ks a := by
  obtain ⟨_, its, r, o, h1, h2, n, h3⟩ := (show ObjOk P w H h a (.tup (ks.map kV)) from ok a _ e)
  exact ⟨o, its.toArray, n, h1, h2, h3, by simpa using items_are r⟩
theorem dt_rd {kvs : List (List Key × V)} (ok : HOk P w H h) (e : Rd H a (.dT kvs)) : kvs.length ≤ sizeLine ∧ (a == sysModules) = false ∧
    ∃ xs, KT H kvs xs ∧ h.DictOfH (tupleKind (mixKind P w)) a xs := by
  obtain ⟨z, y, xs, r, o, es, ep, h1, h2, h3, h4, h5⟩ := (show ObjOk P w H h a (.dT kvs) from rd_of ok e)
  refine ⟨z, y, xs, r, o, es, ep, h1, h2, h3, h4, fun x hx => ?_, h5⟩
  have all : ∀ {l : List (List Key × V)} {m : List (List Key × Addr × Value)}, KT H l m → ∀ x ∈ m, (tupleKind (mixKind P w)).is h x.1 x.2.1 := by
    intro l m q
    induction q with
    | nil => intro x hx; exact nomatch hx
    | @cons p q ps qs hq t ih =>
      intro x hx
      rcases List.mem_cons.mp hx with e | hx
      · subst e
        exact key_of ok (by rw [← hq.1]; exact hq.2.1)
      · exact ih x hx
  exact all r x hx
theorem dt_of {kvs : List (List Key × V)} (ok : HOk P w H h) (e : H a = some (.dT kvs)) : kvs.length ≤ sizeLine ∧ (a == sysModules) = false ∧
    ∃ xs, KT H kvs xs ∧ h.DictOfH (tupleKind (mixKind P w)) a xs := dt_rd ok (.inl e)
end

/-- what the dict at a holds at the key y -/
def DGet (H : Hp) (a : Addr) (y : V) (r : Option V) : Prop :=
  (∃ kvs k, Rd H a (.dK kvs) ∧ y = kV k ∧ r = valV kvs k) ∨ ∃ kvs k b, Rd H a (.dT kvs) ∧ y = .ref b ∧ H b = some (.tup (k.map kV)) ∧ r = valV kvs k
/-- the heap behind a[y] = v -/
def DPut (H : Hp) (a : Addr) (y v : V) (H' : Hp) : Prop :=
  (∃ kvs k, H a = some (.dK kvs) ∧ y = kV k ∧ kvs.length < sizeLine ∧ H' = upd H a (.dK (putK kvs k v))) ∨
  ∃ kvs k b, H a = some (.dT kvs) ∧ y = .ref b ∧ H b = some (.tup (k.map kV)) ∧ kvs.length < sizeLine ∧ H' = upd H a (.dT (putK kvs k v))
theorem DGet.k {H : Hp} {a : Addr} {kvs : List (Key × V)} {k : Key} (e : H a = some (.dK kvs)) : DGet H a (kV k) (valV kvs k) := .inl ⟨kvs, k, .inl e, rfl, rfl⟩
theorem DGet.t {H : Hp} {a b : Addr} {kvs : List (List Key × V)} {k : List Key} (e : H a = some (.dT kvs)) (eb : H b = some (.tup (k.map kV))) : DGet H a (.ref b) (valV kvs k) := .inr ⟨kvs, k, b, .inl e, rfl, eb, rfl⟩
theorem DPut.k {H : Hp} {a : Addr} {kvs : List (Key × V)} {k : Key} {v : V} (e : H a = some (.dK kvs)) (hl : kvs.length < sizeLine) : DPut H a (kV k) v (upd H a (.dK (putK kvs k v))) := .inl ⟨kvs, k, e, rfl, hl, rfl⟩
theorem DPut.t {H : Hp} {a b : Addr} {kvs : List (List Key × V)} {k : List Key} {v : V} (e : H a = some (.dT kvs)) (eb : H b = some (.tup (k.map kV))) (hl : kvs.length < sizeLine) :
    DPut H a (.ref b) v (upd H a (.dT (putK kvs k v))) := .inr ⟨kvs, k, b, e, rfl, eb, hl, rfl⟩


section
variable {X : Cx} {pins : List (Addr × Obj)} {σ : St} {H : Hp} {s : Shared} {a : Addr} {y v : V} {u r : Value} {o : Option V} {A : Around} {E : Value → Shared → Prop}

theorem Inv.big (I : Inv X pins σ H s) : sysModules < s.heap.objs.size := by
  have h : mainGlobals < s.heap.objs.size := (I.mod.glob.keeps I.bk).lt
  exact Nat.lt_trans (by decide) h

/-- d[y], there -/
theorem d_getItem {Q : Value → Shared → Prop} (hu : A.units + 1 < cLine) (I : Inv X pins σ H s) (g : DGet H a y (some v)) (ry : RelV y u) (h : ∀ w' s', Inv X pins σ H s' → RelV v w' → Q w' s') :
    wpAny (model X.prog X.w) A (getItem (.ref a) u) Q E s := by
  rcases g with ⟨kvs, k, e, ey, l⟩ | ⟨kvs, k, b, e, ey, eb, l⟩
  · subst ey
    obtain ⟨z, hd, vs, rel, dd⟩ := dk_rd I.hok e
    obtain ⟨w', hw, rw'⟩ := RelO.some_of (v := v) (o := valueAt vs k) (by rw [l]; exact rel.val k)
    exact wpAny_getItem_of (kV_is ry) dd.mapOf hw (h w' _ (I.tok _) rw')
  · subst ey
    cases (show u = Value.ref b from ry)
    obtain ⟨z, hd, xs, rel, dd⟩ := dt_rd I.hok e
    obtain ⟨w', hw, rw'⟩ := RelO.some_of (v := v) (o := (atKey xs k).map (·.2)) (by rw [l]; exact rel.val k)
    obtain ⟨p, hp, hp2⟩ := Option.map_eq_some_iff.mp hw
    refine wpAny_getItem_heap (tupleKind_room_in1 hu) (key_of I.hok eb) dd hp ?_
    rw [hp2]
    exact h w' _ (I.tok _) rw'
/-- y in d -/
theorem d_in {Q : Value → Shared → Prop} (hu : A.units + 1 < cLine) (I : Inv X pins σ H s) (g : DGet H a y o) (ry : RelV y u) (h : ∀ s', Inv X pins σ H s' → Q (.bool o.isSome) s') :
    wpAny (model X.prog X.w) A (compareOp .In u (.ref a)) Q E s := by
  rcases g with ⟨kvs, k, e, ey, l⟩ | ⟨kvs, k, b, e, ey, eb, l⟩
  · subst ey
    obtain ⟨z, hd, vs, rel, dd⟩ := dk_rd I.hok e
    refine wpAny_in_of (kV_is ry) hd dd.mapOf ?_
    rw [← (rel.val k).isSome_eq, ← l]
    exact h _ (I.tok _)
  · subst ey
    cases (show u = Value.ref b from ry)
    obtain ⟨z, hd, xs, rel, dd⟩ := dt_rd I.hok e
    refine wpAny_in_heap (tupleKind_room_in1 hu) (key_of I.hok eb) hd dd ?_
    have q := (rel.val k).isSome_eq
    rw [Option.isSome_map] at q
    rw [← q, ← l]
    exact h _ (I.tok _)
theorem d_notIn {Q : Value → Shared → Prop} (hu : A.units + 1 < cLine) (I : Inv X pins σ H s) (g : DGet H a y o) (ry : RelV y u) (h : ∀ s', Inv X pins σ H s' → Q (.bool (!o.isSome)) s') :
    wpAny (model X.prog X.w) A (compareOp .NotIn u (.ref a)) Q E s := by
  rcases g with ⟨kvs, k, e, ey, l⟩ | ⟨kvs, k, b, e, ey, eb, l⟩
  · subst ey
    obtain ⟨z, hd, vs, rel, dd⟩ := dk_rd I.hok e
    refine wpAny_notIn_of (kV_is ry) hd dd.mapOf ?_
    rw [← (rel.val k).isSome_eq, ← l]
    exact h _ (I.tok _)
  · subst ey
    cases (show u = Value.ref b from ry)
    obtain ⟨z, hd, xs, rel, dd⟩ := dt_rd I.hok e
    refine wpAny_notIn_heap (tupleKind_room_in1 hu) (key_of I.hok eb) hd dd ?_
    have q := (rel.val k).isSome_eq
    rw [Option.isSome_map] at q
    rw [← q, ← l]
    exact h _ (I.tok _)
/-- a dict's object is replaced -/
theorem d_write {h' : Heap} {t' : Nat} {ob : HO} (I : Inv X pins σ H s) (mu : Mut (H a)) (hs : Heap.SameBut a s.heap h') (he : ∃ q, h'.get? a = some q) (new : ObjOk X.prog X.w (upd H a ob) h' a ob) :
    Inv X pins σ (upd H a ob) { s with heap := h', toks := t' } :=
  I.write (x := a) (e := a) mu (.inl rfl) (fun b q hb z => (hs.2 b hb).trans z) he new
theorem dk_new {P : Program} {w : World} {H' : Hp} {h' : Heap} {kvs : List (Key × V)} {vs : List (Key × Value)} (z : kvs.length ≤ sizeLine) (hd : (a == sysModules) = false) (rel : KV kvs vs) (dd : h'.DictOf (mixKind P w) a vs) :
    ObjOk P w H' h' a (.dK kvs) := ⟨z, hd, vs, rel, dd⟩
/-- d[y] = v -/
theorem d_setItem {H' : Hp} {Q : Unit → Shared → Prop} (hu : A.units + 1 < cLine) (I : Inv X pins σ H s) (g : DPut H a y v H') (ry : RelV y u) (rv : RelV v r) (h : ∀ s', Inv X pins σ H' s' → Q () s') :
    wpAny (model X.prog X.w) A (setItem (.ref a) u r) Q E s := by
  rcases g with ⟨kvs, k, e, ey, l, eH⟩ | ⟨kvs, k, b, e, ey, eb, l, eH⟩
  · subst ey eH
    obtain ⟨z, hd, vs, rel, dd⟩ := dk_of I.hok e
    have hz : vs.length ≤ sizeLine := by rw [← rel.length]; exact z
    have hl : (putK kvs k v).length ≤ sizeLine := by have := length_putK kvs k v; omega
    refine wpAny_setItem_pairs (hsz := hz) (kV_is ry) dd fun h' dd' hs => h _ ?_
    have he : ∃ q, h'.get? a = some q := let ⟨q, _, _, hq, _⟩ := dd'; ⟨q, hq⟩
    exact d_write I (by rw [e]; exact True.intro) hs he (dk_new hl hd (rel.put k rv) dd')
  · subst ey eH
    cases (show u = Value.ref b from ry)
    obtain ⟨z, hd, xs, rel, dd⟩ := dt_of I.hok e
    have hz : xs.length ≤ sizeLine := by rw [← Paired.length rel]; exact z
    have hl : (putK kvs k v).length ≤ sizeLine := by have := length_putK kvs k v; omega
    refine wpAny_setItem_heap (hsz := hz) (tupleKind_room_in1 hu) (key_of I.hok eb) dd fun h' dd' hs => h _ ?_
    obtain ⟨q, es, ep, hq, h2, h3, h4, _, h5⟩ := dd'
    refine d_write I (by rw [e]; exact True.intro) hs ⟨q, hq⟩ ⟨hl, hd, _, (rel.put k eb rv).keeps fun c ys ec => ?_, q, es, ep, hq, h2, h3, h4, h5⟩
    rw [upd_ne (ne_of ec e (fun z => nomatch z))]
    exact ec
end

section
variable {X : Cx} {pins : List (Addr × Obj)} {σ : St} {H : Hp} {s : Shared} {a : Addr} {kvs : List (Key × V)} {k : Key} {u : Value} {A : Around} {E : Value → Shared → Prop}
/-- del d[k] -/
theorem d_delItem {Q : Unit → Shared → Prop} (I : Inv X pins σ H s) (e : H a = some (.dK kvs)) (ry : RelV (kV k) u) (l : (valV kvs k).isSome = true) (h : ∀ s', Inv X pins σ (upd H a (.dK (dropK kvs k))) s' → Q () s') :
    wpAny (model X.prog X.w) A (delItem (.ref a) u) Q E s := by
  obtain ⟨z, hd, vs, rel, dd⟩ := dk_of I.hok e
  refine wpAny_delItem_slot dd.typeIs (by decide) PySem.F.slot_dict_delitem
    (call_meetsIn PySem.F.slot_dict_delitem dd.typeIs PySem.F.entry_dict_delitem (PySem.F.args_dict_delitem_2 _ _) (meets_dict_delitem_pairs (mixKind X.prog X.w) a (kV_is ry)) ⟨vs, dd, by rw [← rel.length]; exact z, by rw [← (rel.val k).isSome_eq]; exact l, fun h' dd' hs => h _ ?_⟩)
  have he : ∃ q, h'.get? a = some q := let ⟨q, _, _, hq, _⟩ := dd'; ⟨q, hq⟩
  exact d_write I (by rw [e]; exact True.intro) hs he (dk_new (Nat.le_trans (dropK_le kvs k) z) hd (rel.drop k) dd')
/-- d.pop(k[, x]), there -/
theorem d_pop {v : V} {more : List Value} {Q : Value → Shared → Prop} (I : Inv X pins σ H s) (e : H a = some (.dK kvs)) (ry : RelV (kV k) u) (l : valV kvs k = some v) (hm : more = [] ∨ ∃ x, more = [x])
    (h : ∀ w' s', Inv X pins σ (upd H a (.dK (dropK kvs k))) s' → RelV v w' → Q w' s') : wpAny (model X.prog X.w) A (call (.builtin "dict.pop") (.ref a :: u :: more)) Q E s := by
  obtain ⟨z, hd, vs, rel, dd⟩ := dk_of I.hok e
  obtain ⟨w', hw, rw'⟩ := RelO.some_of (v := v) (o := valueAt vs k) (by rw [← l]; exact rel.val k)
  have hp : (keyPart u).isSome = true := by
    cases k with
    | inl i => obtain ⟨t, q⟩ := (show ∃ t, u = Value.int i t from ry); subst q; rfl
    | inr x => obtain ⟨t, q⟩ := (show ∃ t, u = Value.str x t from ry); subst q; rfl
  have ha : argsOk "dict.pop" ⟨.ref a :: u :: more, []⟩ := by
    rcases hm with q | ⟨x, q⟩
    · subst q; exact PySem.F.args_dict_pop_2 _ _
    · subst q; exact PySem.F.args_dict_pop_3 _ _ _
  refine call_meetsIn PySem.F.slot_dict_pop dd.typeIs PySem.F.entry_dict_pop ha (meets_dict_pop_there (mixKind X.prog X.w) a (kV_is ry) more hm hp)
    ⟨vs, w', dd, by rw [← rel.length]; exact z, hw, fun h' dd' hs => h w' _ ?_ rw'⟩
  have he : ∃ q, h'.get? a = some q := let ⟨q, _, _, hq, _⟩ := dd'; ⟨q, hq⟩
  exact d_write I (by rw [e]; exact True.intro) hs he (dk_new (Nat.le_trans (dropK_le kvs k) z) hd (rel.drop k) dd')
/-- d.pop(k, x), not there -/
theorem d_popD {r : Value} {Q : Value → Shared → Prop} (I : Inv X pins σ H s) (e : H a = some (.dK kvs)) (ry : RelV (kV k) u) (l : valV kvs k = none) (h : ∀ s', Inv X pins σ H s' → Q r s') :
    wpAny (model X.prog X.w) A (call (.builtin "dict.pop") [.ref a, u, r]) Q E s := by
  obtain ⟨z, hd, vs, rel, dd⟩ := dk_of I.hok e
  have hn : valueAt vs k = none := RelO.none_of (by rw [← l]; exact rel.val k)
  have hp : (keyPart u).isSome = true := by
    cases k with
    | inl i => obtain ⟨t, q⟩ := (show ∃ t, u = Value.int i t from ry); subst q; rfl
    | inr x => obtain ⟨t, q⟩ := (show ∃ t, u = Value.str x t from ry); subst q; rfl
  exact call_meetsIn PySem.F.slot_dict_pop dd.typeIs PySem.F.entry_dict_pop (PySem.F.args_dict_pop_3 _ _ _) (meets_dict_pop_default (mixKind X.prog X.w) a (kV_is ry) hd hp r) ⟨vs, dd, hn, h _ (I.tok _)⟩
/-- d.clear() -/
theorem d_clear {Q : Value → Shared → Prop} (I : Inv X pins σ H s) (e : H a = some (.dK kvs)) (h : ∀ s', Inv X pins σ (upd H a (.dK [])) s' → Q .none s') : wpAny (model X.prog X.w) A (call (.builtin "dict.clear") [.ref a]) Q E s := by
  obtain ⟨z, hd, vs, rel, dd⟩ := dk_of I.hok e
  refine call_meetsIn PySem.F.slot_dict_clear dd.typeIs PySem.F.entry_dict_clear (PySem.F.args_dict_clear_1 _) (meets_dict_clear (mixKind X.prog X.w) a) ⟨vs, dd, by rw [← rel.length]; exact z, fun h' dd' hs => h _ ?_⟩
  have he : ∃ q, h'.get? a = some q := let ⟨q, _, _, hq, _⟩ := dd'; ⟨q, hq⟩
  exact d_write (t' := s.toks) I (by rw [e]; exact True.intro) hs he (dk_new (Nat.zero_le _) hd .nil dd')
/-- len(d) -/
theorem d_len {Q : Value → Shared → Prop} (I : Inv X pins σ H s) (e : Rd H a (.dK kvs)) (h : ∀ t s', Inv X pins σ H s' → Q (.int kvs.length t) s') : wpAny (model X.prog X.w) A (call (.builtin "len") [.ref a]) Q E s := by
  obtain ⟨z, hd, vs, rel, dd⟩ := dk_rd I.hok e
  refine call_len_dict hd dd (by rw [← rel.length]; rw [sizeLine_eq] at z; omega) ?_
  rw [← rel.length]
  exact h _ _ (I.tok _)
/-- if d -/
theorem d_truth {Q : Bool → Shared → Prop} (I : Inv X pins σ H s) (e : Rd H a (.dK kvs)) (h : ∀ s', Inv X pins σ H s' → Q (!kvs.isEmpty) s') : wpAny (model X.prog X.w) A (truthy (.ref a)) Q E s := by
  obtain ⟨z, hd, vs, rel, dd⟩ := dk_rd I.hok e
  refine wpAny_truthy_dict hd dd (by rw [← rel.length]; rw [sizeLine_eq] at z; omega) ?_
  have q : kvs.isEmpty = vs.isEmpty := by cases rel <;> rfl
  rw [← q]
  exact h _ (I.tok _)
end


/-! ### readings and rules -/
/-- the element of a subscription, not a slice -/
def NoSl (i : Expr) : Prop := ∀ ov iv, subscripted i false ov iv = operate [ov, iv] (getItem ov iv)
theorem subD_of {prog : Program} {w : World} {A : Around} {E : Value → Shared → Prop} {s : Shared} {env : Env} {value slice : Expr} {pos : Pos} {T id : String} {Q : Value → Shared → Prop}
    (hl : typeLookup (.type T) "__getitem__" = pure (some (.builtin id))) (hs : NoSl slice)
    (h : wpAny (model prog w) A (eval value env) (fun o s₁ => wpAny (model prog w) A (eval slice env) (fun i s₂ => s₂.TypeIs o T ∧ wpAny (model prog w) A (getItem o i) Q E s₂) E s₁) E s) :
    wpAny (model prog w) A (eval (.Subscript value slice pos) env) Q E s := by
  refine Subscript_ (wpAny_mono h (fun o s₁ h₁ => wpAny_mono h₁ (fun i s₂ h₂ => ?_) fun _ _ x => x) fun _ _ x => x)
  obtain ⟨hT, h₂⟩ := h₂
  unfold subscriptTail
  refine wpAny_bind ?_
  rw [getitemInPython_of_ne hT.not_modules]
  refine wpAny_bind (wpAny_specialOf hT hl ?_)
  have fin : wpAny (model prog w) A (subscripted slice false o i) (fun r s₃ => wpAny (model prog w) A (letTemporaryGo value o r >>= fun _ => pure r) Q E s₃) E s₂ := by
    rw [hs o i]
    exact wpAny_operating (wpAny_mono h₂ (fun r s₃ h₃ => wpAny_bind (wpAny_letTemporaryGo (wpAny_pure h₃))) fun _ _ x => x)
  first
    | exact wpAny_pure (wpAny_bind fin)
    | exact wpAny_bind (wpAny_pure (wpAny_bind fin))
    | exact wpAny_bind fin

theorem dict_typeIs {X : Cx} {pins : List (Addr × Obj)} {σ : St} {H : Hp} {s : Shared} {a : Addr} {y : V} {o : Option V} (I : Inv X pins σ H s) (g : DGet H a y o) : s.TypeIs (.ref a) "dict" := by
  rcases g with ⟨kvs, k, e, _, _⟩ | ⟨kvs, k, b, e, _, _, _⟩
  · obtain ⟨_, _, vs, _, dd⟩ := dk_rd I.hok e
    exact dd.typeIs
  · obtain ⟨_, _, xs, _, dd⟩ := dt_rd I.hok e
    exact dd.typeIs
theorem dict_noDict {X : Cx} {pins : List (Addr × Obj)} {σ : St} {H : Hp} {s : Shared} {a : Addr} {y : V} {o : Option V} (I : Inv X pins σ H s) (g : DGet H a y o) :
    ∀ b, Value.ref a = .ref b → ∃ ob, s.heap.get? b = some ob ∧ ob.dict = none := fun b q => by
  cases q
  rcases g with ⟨kvs, k, e, _, _⟩ | ⟨kvs, k, b, e, _, _, _⟩
  · obtain ⟨_, _, vs, _, ob, _, _, h1, h2, _⟩ := dk_rd I.hok e
    exact ⟨ob, h1, h2.2.1⟩
  · obtain ⟨_, _, xs, _, ob, _, _, h1, h2, _⟩ := dt_rd I.hok e
    exact ⟨ob, h1, h2.2.1⟩

/-- d[y] -/
def tDGet (td ty : TE) : TE := fun σ H Q => td σ H fun x H1 => ty σ H1 fun y H2 => ∃ a v, x = .ref a ∧ DGet H2 a y (some v) ∧ Q v H2
/-- y in d, y not in d -/
def tDIn (ty td : TE) : TE := fun σ H Q => ty σ H fun y H1 => td σ H1 fun x H2 => ∃ a o, x = .ref a ∧ DGet H2 a y o ∧ Q (.bl o.isSome) H2
def tDNotIn (ty td : TE) : TE := fun σ H Q => ty σ H fun y H1 => td σ H1 fun x H2 => ∃ a o, x = .ref a ∧ DGet H2 a y o ∧ Q (.bl (!o.isSome)) H2
/-- d[y] = v -/
def sDPut (td ty tv : TE) : TS := fun D σ H => tv σ H fun v H1 => td σ H1 fun x H2 => ty σ H2 fun y H3 => ∃ a H4, x = .ref a ∧ DPut H3 a y v H4 ∧ D.nx σ H4
/-- d[y] op= v -/
def sDAug (td ty tv : TE) (rd : V → V → Hp → VK → Prop) : TS := fun D σ H => td σ H fun x H1 => ty σ H1 fun y H2 => ∃ a v, x = .ref a ∧ DGet H2 a y (some v) ∧
  tv σ H2 fun y2 H3 => rd v y2 H3 fun z H4 => ∃ H5, DPut H4 a y z H5 ∧ D.nx σ H5
/-- del d[y] -/
def sDDel (td ty : TE) : TS := fun D σ H => td σ H fun x H1 => ty σ H1 fun y H2 => ∃ a kvs k, x = .ref a ∧ H2 a = some (.dK kvs) ∧ y = kV k ∧ (valV kvs k).isSome = true ∧ D.nx σ (upd H2 a (.dK (dropK kvs k)))

section
variable {X : Cx} {o i e value : Expr} {pos pos' tpos : Pos} {td ty tv : TE}
theorem pe_dget (hu : X.A.units + 1 < cLine) (ho : PE X o td) (hi : PE X i ty) (hs : NoSl i) : PE X (.Subscript o i pos) (tDGet td ty) := by
  intro pins s σ H Q I h
  refine subD_of PySem.F.slot_dict_getitem.lookup hs (thn (ho pins s σ H _ I h) fun u s1 ⟨x, H1, I1, rx, q1⟩ => thn (hi pins s1 σ H1 _ I1 q1) fun iv s2 ⟨y, H2, I2, ry, a, v, ex, g, q2⟩ => ?_)
  subst ex
  obtain rfl : u = Value.ref a := rx
  exact ⟨dict_typeIs I2 g, d_getItem hu I2 g ry fun w' s3 I3 rw' => ⟨v, H2, I3, rw', q2⟩⟩
theorem pc_din (hu : X.A.units + 1 < cLine) (hi : PE X i ty) (ho : PE X o td) : PC X .In i o (tDIn ty td) := by
  intro pins s σ H Q I h
  refine thn (hi pins s σ H _ I h) fun iv s1 ⟨y, H1, I1, ry, q1⟩ => thn (ho pins s1 σ H1 _ I1 q1) fun u s2 ⟨x, H2, I2, rx, a, ov, ex, g, q2⟩ => ?_
  subst ex
  obtain rfl : u = Value.ref a := rx
  exact d_in hu I2 g ry fun s3 I3 => ⟨.bl ov.isSome, H2, I3, rfl, q2⟩
theorem pc_dnotin (hu : X.A.units + 1 < cLine) (hi : PE X i ty) (ho : PE X o td) : PC X .NotIn i o (tDNotIn ty td) := by
  intro pins s σ H Q I h
  refine thn (hi pins s σ H _ I h) fun iv s1 ⟨y, H1, I1, ry, q1⟩ => thn (ho pins s1 σ H1 _ I1 q1) fun u s2 ⟨x, H2, I2, rx, a, ov, ex, g, q2⟩ => ?_
  subst ex
  obtain rfl : u = Value.ref a := rx
  exact d_notIn hu I2 g ry fun s3 I3 => ⟨.bl (!ov.isSome), H2, I3, rfl, q2⟩
theorem ps_dput (hu : X.A.units + 1 < cLine) (ho : PE X o td) (hi : PE X i ty) (hv : PE X value tv) (hs : swapsWith value (some (.Subscript o i pos')) pos.line X.env = pure false) :
    PS X (.Assign [.Subscript o i pos'] value pos) (sDPut td ty tv) := by
  intro pins s σ H D I h
  refine wpAny_Assign_Subscript (thn (hv pins s σ H _ I h) fun r s1 ⟨v, H1, I1, rv, q1⟩ => thn (ho pins s1 σ H1 _ I1 q1) fun u s2 ⟨x, H2, I2, rx, q2⟩ => thn (hi pins s2 σ H2 _ I2 q2) fun iv s3 ⟨y, H3, I3, ry, a, H4, ex, g, q3⟩ => ?_) hs
  subst ex
  obtain rfl : u = Value.ref a := rx
  exact d_setItem hu I3 g ry rv fun s4 I4 => ⟨σ, H4, I4, q3⟩
theorem ps_daug {op : Operator} {rd : V → V → Hp → VK → Prop} (hu : X.A.units + 1 < cLine) (ho : PE X o td) (hi : PE X i ty) (hv : PE X value tv) (hop : InOp X op rd)
    (ha : ∀ ov iv new, augStore i ov iv new = (do holding [new, ov, iv] (setItem ov iv new); release [new, ov, iv] []; pure .next)) : PS X (.AugAssign (.Subscript o i tpos) op value pos) (sDAug td ty tv rd) := by
  intro pins s σ H D I h
  refine wpAny_AugAssign_SubscriptAny (thn (ho pins s σ H _ I h) fun u s1 ⟨x, H1, I1, rx, q1⟩ => thn (hi pins s1 σ H1 _ I1 q1) fun iv s2 ⟨y, H2, I2, ry, a, v, ex, g, q2⟩ => ?_) ha
  subst ex
  obtain rfl : u = Value.ref a := rx
  refine d_getItem hu I2 g ry fun w' s3 I3 rw' => thn (hv pins s3 σ H2 _ I3 q2) fun w2 s4 ⟨y2, H3, I4, ry2, q3⟩ => thn (hop pins s4 σ H3 v y2 w' w2 _ I4 rw' ry2 q3) fun w3 s5 ⟨z, H4, I5, rz, H5, g5, q4⟩ => ?_
  exact d_setItem hu I5 g5 ry rz fun s6 I6 => ⟨σ, H5, I6, q4⟩
theorem ps_ddel (ho : PE X o td) (hi : PE X i ty) : PS X (.Delete [.Subscript o i tpos] pos) (sDDel td ty) := by
  intro pins s σ H D I h
  refine wpAny_Delete (wpAny_deleteEach_cons (wpAny_delete_Subscript (thn (ho pins s σ H _ I h) fun u s1 ⟨x, H1, I1, rx, q1⟩ => thn (hi pins s1 σ H1 _ I1 q1) fun iv s2 ⟨y, H2, I2, ry, a, kvs, k, ex, e, ey, l, q2⟩ => ?_)))
  subst ex ey
  obtain rfl : u = Value.ref a := rx
  exact d_delItem I2 e ry l fun s3 I3 => wpAny_deleteEach_nil ⟨σ, _, I3, q2⟩
end


/-! ### displays -/
theorem dk_empty {P : Program} {w : World} {H : Hp} (h : Heap) (hb : sysModules < h.objs.size) : ObjOk P w H (h.push { cls := .type "dict", data := .dict #[] }) h.objs.size (.dK []) :=
  ⟨Nat.zero_le _, beq_eq_false_iff_ne.mpr (Ne.symm (Nat.ne_of_lt hb)), [], .nil, Heap.DictOf.new h⟩
theorem dt_empty {P : Program} {w : World} {H : Hp} (h : Heap) (hb : sysModules < h.objs.size) : ObjOk P w H (h.push { cls := .type "dict", data := .dict #[] }) h.objs.size (.dT []) :=
  ⟨Nat.zero_le _, beq_eq_false_iff_ne.mpr (Ne.symm (Nat.ne_of_lt hb)), [], .nil, _, #[], 0, Heap.get?_push_size _ rfl, ⟨rfl, rfl, rfl⟩, rfl, rfl, List.nodup_nil⟩
/-- {}, to be a dict of the kind that is wanted -/
def tDNewK : TE := fun _ H Q => ∀ p, H p = none → Q (.ref p) (upd H p (.dK []))
def tDNewT : TE := fun _ H Q => ∀ p, H p = none → Q (.ref p) (upd H p (.dT []))
section
variable {X : Cx} {pos : Pos}
theorem pe_dnewK : PE X (.Dict [] [] pos) tDNewK := fun pins s σ H Q I h =>
  wpAny_Dict_empty ⟨.ref s.heap.objs.size, _, I.laid (a := s.heap.objs.size) (o := .dK []) (t' := s.toks) (fun _ _ q => Heap.get?_push_of_some _ q) (Nat.le_refl _) (dk_empty s.heap I.big), rfl, h _ (I.hok.fresh (Nat.le_refl _))⟩
theorem pe_dnewT : PE X (.Dict [] [] pos) tDNewT := fun pins s σ H Q I h =>
  wpAny_Dict_empty ⟨.ref s.heap.objs.size, _, I.laid (a := s.heap.objs.size) (o := .dT []) (t' := s.toks) (fun _ _ q => Heap.get?_push_of_some _ q) (Nat.le_refl _) (dt_empty s.heap I.big), rfl, h _ (I.hok.fresh (Nat.le_refl _))⟩
end

/-- the pairs of a display, from the left -/
def tPairs : List (TE × TE) → St → Hp → (List (V × V) → Hp → Prop) → Prop
  | [], _, H, Q => Q [] H
  | (tk, tv) :: r, σ, H, Q => tk σ H fun x H1 => tv σ H1 fun y H2 => tPairs r σ H2 fun ps H3 => Q ((x, y) :: ps) H3
abbrev VV : List (V × V) → List (Value × Value) → Prop := Paired fun p q => RelV p.1 q.1 ∧ RelV p.2 q.2
def PPs (X : Cx) (pos : Pos) (keys : List (Option Expr)) (values : List Expr) (trs : List (TE × TE)) : Prop :=
  ∀ (pins : List (Addr × Obj)) (s : Shared) (σ : St) (H : Hp) (Q : List (V × V) → Hp → Prop), Inv X pins σ H s → tPairs trs σ H Q →
    wpAny (model X.prog X.w) X.A (evalPairs (pairTrees keys values X.env pos)) (fun vs s' => ∃ ps H', Inv X pins σ H' s' ∧ VV ps vs ∧ Q ps H') X.xe s
theorem pps_nil {X : Cx} {pos : Pos} : PPs X pos [] [] [] := fun pins s σ H Q I h => pairTrees_nil_walk ⟨[], H, I, .nil, h⟩
theorem pps_cons {X : Cx} {pos : Pos} {k v : Expr} {ks : List (Option Expr)} {vs : List Expr} {tk tv : TE} {trs : List (TE × TE)} (hk : PE X k tk) (hv : PE X v tv) (hr : PPs X pos ks vs trs) :
    PPs X pos (some k :: ks) (v :: vs) ((tk, tv) :: trs) := fun pins s σ H Q I h =>
  pairTrees_cons_walk (thn (hk pins s σ H _ I h) fun u s1 ⟨x, H1, I1, rx, q1⟩ => thn (hv pins s1 σ H1 _ I1 q1) fun w2 s2 ⟨y, H2, I2, ry, q2⟩ =>
    thn (hr pins s2 σ H2 _ I2 q2) fun ws s3 ⟨ps, H3, I3, rel, q3⟩ => ⟨(x, y) :: ps, H3, I3, .cons ⟨rx, ry⟩ rel, q3⟩)

def mergeK (kvs more : List (Key × V)) : List (Key × V) := more.foldl (fun acc kv => putK acc kv.1 kv.2) kvs
theorem KV.merge : ∀ {more : List (Key × V)} {rs : List (Key × Value)} {kvs : List (Key × V)} {vs : List (Key × Value)}, KV more rs → KV kvs vs → KV (mergeK kvs more) (merged vs rs) := by
  intro more rs kvs vs r
  unfold KV at r
  induction r generalizing kvs vs with
  | nil => intro q; exact q
  | @cons p q ps qs h t ih =>
    intro r0
    have e : KV (putK kvs p.1 p.2) (stored vs q.1 q.2) := by
      have := r0.put p.1 h.2
      rw [← h.1]; exact this
    exact ih e
theorem length_mergeK : ∀ (more kvs : List (Key × V)), (mergeK kvs more).length ≤ kvs.length + more.length
  | [], kvs => by show kvs.length ≤ kvs.length + 0; omega
  | p :: r, kvs => by
    have h1 := length_mergeK r (putK kvs p.1 p.2)
    have h2 := length_putK kvs p.1 p.2
    show (mergeK (putK kvs p.1 p.2) r).length ≤ _
    rw [List.length_cons]; omega
theorem carries_of {P : Program} {w : World} : ∀ {kvs : List (Key × V)} {ws : List (Value × Value)}, VV (kvs.map fun kv => (kV kv.1, kv.2)) ws → ∃ rs, Carries (mixKind P w) ws rs ∧ KV kvs rs
  | [], _, r => by rw [List.map_nil] at r; cases r; exact ⟨[], True.intro, .nil⟩
  | p :: kvs, _, r => by
    rw [List.map_cons] at r
    cases r with
    | @cons a b as bs h t =>
      obtain ⟨rs, c, q⟩ := carries_of (P := P) (w := w) t
      obtain ⟨b1, b2⟩ := b
      exact ⟨(p.1, b2) :: rs, ⟨kV_is h.1, rfl, c⟩, .cons ⟨rfl, h.2⟩ q⟩
/-- {k: v, ..} with keys ints and texts; the new dict stands empty while the pairs are made -/
def tDisp (trs : List (TE × TE)) : TE := fun σ H Q => ∀ p, H p = none → tPairs trs σ (upd H p (.dK [])) fun ps H2 => H2 p = some (.dK []) ∧ ∃ kvs : List (Key × V), ps = kvs.map (fun kv => (kV kv.1, kv.2)) ∧ kvs.length ≤ 15 ∧ Q (.ref p) (upd H2 p (.dK (mergeK [] kvs)))
theorem pe_disp {X : Cx} {pos : Pos} {keys : List (Option Expr)} {values : List Expr} {trs : List (TE × TE)} (h : PPs X pos keys values trs) (hall : keys.all (·.isSome) = true) (hl : keys.length = values.length) (h0 : keys ≠ [])
    (h15 : keys.length ≤ 15) : PE X (.Dict keys values pos) (tDisp trs) := by
  intro pins s σ H Q I q
  have hn := I.hok.fresh (Nat.le_refl s.heap.objs.size)
  have I1 := I.laid (a := s.heap.objs.size) (o := .dK []) (h' := s.heap.push { cls := .type "dict", data := .dict #[] }) (t' := s.toks) (fun _ _ q => Heap.get?_push_of_some _ q) (Nat.le_refl _) (dk_empty s.heap I.big)
  refine wpAny_Dict_walk (knd := mixKind X.prog X.w) hall hl h0 h15 (thn (h pins _ σ _ _ I1 (q _ hn)) fun ws s2 ⟨ps, H2, I2, rel, e, kvs, ep, lk, q2⟩ => ?_)
  subst ep
  obtain ⟨rs, c, rk⟩ := carries_of (P := X.prog) (w := X.w) rel
  obtain ⟨z, hd, vs0, r0, dd⟩ := dk_of I2.hok e
  cases r0
  refine ⟨rs, c, dd, fun h' dd' hs => ⟨.ref s.heap.objs.size, _, ?_, rfl, q2⟩⟩
  have hz : (mergeK [] kvs).length ≤ sizeLine := by
    have h1 := length_mergeK kvs []
    rw [List.length_nil] at h1
    rw [sizeLine_eq]; omega
  have he : ∃ q, h'.get? s.heap.objs.size = some q := let ⟨q, _, _, hq, _⟩ := dd'; ⟨q, hq⟩
  exact d_write I2 (by rw [e]; exact True.intro) hs he (dk_new hz hd (rk.merge .nil) dd')


/-! ### methods -/
/-- a method call o.m(e) of a built-in, with one argument: what must be seen of the text -/
structure M1 (X : Cx) (o : Expr) (m : Str) (apos : Pos) (e : Expr) (cpos : Pos) : Prop where
  base : attributeBase o m X.env (eval o X.env) = eval o X.env
  few : ((backTo cpos (starEach [e] X.env)).all (fun x => !x.1) && (backToKw cpos (keywordEach [] X.env)).all (fun x => x.1.isSome)
    && decide (([e] : List Expr).length + ([] : List Keyword).length + (if ([] : List Keyword).isEmpty then 0 else 1) < 30)) = true
  line : (apos.endLine == cpos.line) = true
  trees : backTo cpos (starEach [e] X.env) = [(false, eval e X.env)]
structure M2 (X : Cx) (o : Expr) (m : Str) (apos : Pos) (e f : Expr) (cpos : Pos) : Prop where
  base : attributeBase o m X.env (eval o X.env) = eval o X.env
  few : ((backTo cpos (starEach [e, f] X.env)).all (fun x => !x.1) && (backToKw cpos (keywordEach [] X.env)).all (fun x => x.1.isSome)
    && decide (([e, f] : List Expr).length + ([] : List Keyword).length + (if ([] : List Keyword).isEmpty then 0 else 1) < 30)) = true
  line : (apos.endLine == cpos.line) = true
  trees : backTo cpos (starEach [e, f] X.env) = [(false, eval e X.env), (false, eval f X.env)]

/-- a is a dict, whatever its keys -/
def IsD (H : Hp) (a : Addr) : Prop := (∃ kvs, Rd H a (.dK kvs)) ∨ ∃ kvs, Rd H a (.dT kvs)
theorem isD_at {X : Cx} {pins : List (Addr × Obj)} {σ : St} {H : Hp} {s : Shared} {a : Addr} (I : Inv X pins σ H s) (d : IsD H a) :
    s.TypeIs (.ref a) "dict" ∧ (∀ b, Value.ref a = .ref b → ∃ ob, s.heap.get? b = some ob ∧ ob.dict = none) ∧ (a == sysModules) = false := by
  rcases d with ⟨kvs, e⟩ | ⟨kvs, e⟩
  · obtain ⟨_, hd, vs, _, dd⟩ := dk_rd I.hok e
    refine ⟨dd.typeIs, fun b q => ?_, hd⟩
    cases q
    obtain ⟨ob, _, _, h1, h2, _⟩ := dd
    exact ⟨ob, h1, h2.2.1⟩
  · obtain ⟨_, hd, xs, _, dd⟩ := dt_rd I.hok e
    refine ⟨dd.typeIs, fun b q => ?_, hd⟩
    cases q
    obtain ⟨ob, _, _, h1, h2, _⟩ := dd
    exact ⟨ob, h1, h2.2.1⟩

section
variable {X : Cx} {pins : List (Addr × Obj)} {σ : St} {H : Hp} {s : Shared} {a : Addr} {y d : V} {u r : Value} {o : Option V} {A : Around} {E : Value → Shared → Prop}
/-- d.get(y) -/
theorem d_get1 {Q : Value → Shared → Prop} (hu : A.units + 1 < cLine) (I : Inv X pins σ H s) (g : DGet H a y o) (ry : RelV y u) (h : ∀ w' s', Inv X pins σ H s' → RelV (o.getD .non) w' → Q w' s') :
    wpAny (model X.prog X.w) A (call (.builtin "dict.get") [.ref a, u]) Q E s := by
  rcases g with ⟨kvs, k, e, ey, l⟩ | ⟨kvs, k, b, e, ey, eb, l⟩
  · subst ey
    obtain ⟨z, hd, vs, rel, dd⟩ := dk_rd I.hok e
    refine call_meetsIn PySem.F.slot_dict_get dd.typeIs PySem.F.entry_dict_get (PySem.F.args_dict_get_2 _ _) (meets_dict_get (mixKind X.prog X.w) a (kV_is ry) hd) ⟨_, dd.mapOf, h _ _ (I.tok _) ?_⟩
    rw [l]
    exact (rel.val k).getD rfl
  · subst ey
    cases (show u = Value.ref b from ry)
    obtain ⟨z, hd, xs, rel, dd⟩ := dt_rd I.hok e
    refine call_meetsIn PySem.F.slot_dict_get dd.typeIs PySem.F.entry_dict_get (PySem.F.args_dict_get_2 _ _) (meetsH_dict_get (tupleKind (mixKind X.prog X.w)) a b hd) ⟨tupleKind_room_in1 hu, k, xs, key_of I.hok eb, dd, h _ _ (I.tok _) ?_⟩
    rw [l]
    exact (rel.val k).getD rfl
/-- d.get(y, x) -/
theorem d_get2 {Q : Value → Shared → Prop} (hu : A.units + 1 < cLine) (I : Inv X pins σ H s) (g : DGet H a y o) (ry : RelV y u) (rd : RelV d r) (h : ∀ w' s', Inv X pins σ H s' → RelV (o.getD d) w' → Q w' s') :
    wpAny (model X.prog X.w) A (call (.builtin "dict.get") [.ref a, u, r]) Q E s := by
  rcases g with ⟨kvs, k, e, ey, l⟩ | ⟨kvs, k, b, e, ey, eb, l⟩
  · subst ey
    obtain ⟨z, hd, vs, rel, dd⟩ := dk_rd I.hok e
    refine call_meetsIn PySem.F.slot_dict_get dd.typeIs PySem.F.entry_dict_get (PySem.F.args_dict_get_3 _ _ _) (meets_dict_get_default (mixKind X.prog X.w) a (kV_is ry) hd r) ⟨_, dd.mapOf, h _ _ (I.tok _) ?_⟩
    rw [l]
    exact (rel.val k).getD rd
  · subst ey
    cases (show u = Value.ref b from ry)
    obtain ⟨z, hd, xs, rel, dd⟩ := dt_rd I.hok e
    refine call_meetsIn PySem.F.slot_dict_get dd.typeIs PySem.F.entry_dict_get (PySem.F.args_dict_get_3 _ _ _) (meetsH_dict_get_default (tupleKind (mixKind X.prog X.w)) a b hd r) ⟨tupleKind_room_in1 hu, k, xs, key_of I.hok eb, dd, h _ _ (I.tok _) ?_⟩
    rw [l]
    exact (rel.val k).getD rd
end

def tDGet1 (td ty : TE) : TE := fun σ H Q => td σ H fun x H1 => ∃ a, x = .ref a ∧ IsD H1 a ∧ ty σ H1 fun y H2 => ∃ o, DGet H2 a y o ∧ Q (o.getD .non) H2
def tDGet2 (td ty tx : TE) : TE := fun σ H Q => td σ H fun x H1 => ∃ a, x = .ref a ∧ IsD H1 a ∧ ty σ H1 fun y H2 => tx σ H2 fun z H3 => ∃ o, DGet H3 a y o ∧ Q (o.getD z) H3
/-- d.pop(k): there; d.pop(k, x): there or not -/
def tDPop1 (td ty : TE) : TE := fun σ H Q => td σ H fun x H1 => ∃ a, x = .ref a ∧ IsD H1 a ∧ ty σ H1 fun y H2 => ∃ kvs k v, H2 a = some (.dK kvs) ∧ y = kV k ∧ valV kvs k = some v ∧ Q v (upd H2 a (.dK (dropK kvs k)))
def tDPop2 (td ty tx : TE) : TE := fun σ H Q => td σ H fun x H1 => ∃ a, x = .ref a ∧ IsD H1 a ∧ ty σ H1 fun y H2 => tx σ H2 fun z H3 => ∃ kvs k, H3 a = some (.dK kvs) ∧ y = kV k ∧
  (∀ v, valV kvs k = some v → Q v (upd H3 a (.dK (dropK kvs k)))) ∧ (valV kvs k = none → Q z H3)
section
variable {X : Cx} {o e f : Expr} {apos cpos : Pos} {td ty tx : TE}
theorem pe_dget1 (hu : X.A.units + 1 < cLine) (ho : PE X o td) (he : PE X e ty) (m : M1 X o "get" apos e cpos) : PE X (.Call (.Attribute o "get" apos) [e] [] cpos) (tDGet1 td ty) := by
  intro pins s σ H Q I h
  refine wpAny_Call_method m.base m.few m.line PySem.F.plainAttrs_dict PySem.F.slot_dict_get PySem.F.type_dict_get (thn (ho pins s σ H _ I h) fun u s1 ⟨x, H1, I1, rx, a, ex, d, q1⟩ => ?_)
  subst ex
  obtain rfl : u = Value.ref a := rx
  obtain ⟨t1, t2, _⟩ := isD_at I1 d
  refine ⟨t1, t2, ?_⟩
  rw [m.trees]
  refine Calls.callWith_builtin rfl (Calls.evalArgs_plain (Calls.spliced_cons (thn (he pins s1 σ H1 _ I1 q1) fun iv s2 ⟨y, H2, I2, ry, ov, g, q2⟩ => Calls.spliced_nil ?_)))
  exact d_get1 hu I2 g ry fun w' s3 I3 rw' => ⟨_, H2, I3, rw', q2⟩
theorem pe_dget2 (hu : X.A.units + 1 < cLine) (ho : PE X o td) (he : PE X e ty) (hf : PE X f tx) (m : M2 X o "get" apos e f cpos) : PE X (.Call (.Attribute o "get" apos) [e, f] [] cpos) (tDGet2 td ty tx) := by
  intro pins s σ H Q I h
  refine wpAny_Call_method m.base m.few m.line PySem.F.plainAttrs_dict PySem.F.slot_dict_get PySem.F.type_dict_get (thn (ho pins s σ H _ I h) fun u s1 ⟨x, H1, I1, rx, a, ex, d, q1⟩ => ?_)
  subst ex
  obtain rfl : u = Value.ref a := rx
  obtain ⟨t1, t2, _⟩ := isD_at I1 d
  refine ⟨t1, t2, ?_⟩
  rw [m.trees]
  refine Calls.callWith_builtin rfl (Calls.evalArgs_plain (Calls.spliced_cons (thn (he pins s1 σ H1 _ I1 q1) fun iv s2 ⟨y, H2, I2, ry, q2⟩ =>
    Calls.spliced_cons (thn (hf pins s2 σ H2 _ I2 q2) fun fv s3 ⟨z, H3, I3, rz, ov, g, q3⟩ => Calls.spliced_nil ?_))))
  exact d_get2 hu I3 g ry rz fun w' s4 I4 rw' => ⟨_, H3, I4, rw', q3⟩
theorem pe_dpop1 (ho : PE X o td) (he : PE X e ty) (m : M1 X o "pop" apos e cpos) : PE X (.Call (.Attribute o "pop" apos) [e] [] cpos) (tDPop1 td ty) := by
  intro pins s σ H Q I h
  refine wpAny_Call_method m.base m.few m.line PySem.F.plainAttrs_dict PySem.F.slot_dict_pop PySem.F.type_dict_pop (thn (ho pins s σ H _ I h) fun u s1 ⟨x, H1, I1, rx, a, ex, d, q1⟩ => ?_)
  subst ex
  obtain rfl : u = Value.ref a := rx
  obtain ⟨t1, t2, _⟩ := isD_at I1 d
  refine ⟨t1, t2, ?_⟩
  rw [m.trees]
  refine Calls.callWith_builtin rfl (Calls.evalArgs_plain (Calls.spliced_cons (thn (he pins s1 σ H1 _ I1 q1) fun iv s2 ⟨y, H2, I2, ry, kvs, k, v, ea, ey, l, q2⟩ => Calls.spliced_nil ?_)))
  subst ey
  exact d_pop I2 ea ry l (.inl rfl) fun w' s3 I3 rw' => ⟨v, _, I3, rw', q2⟩
theorem pe_dpop2 (ho : PE X o td) (he : PE X e ty) (hf : PE X f tx) (m : M2 X o "pop" apos e f cpos) : PE X (.Call (.Attribute o "pop" apos) [e, f] [] cpos) (tDPop2 td ty tx) := by
  intro pins s σ H Q I h
  refine wpAny_Call_method m.base m.few m.line PySem.F.plainAttrs_dict PySem.F.slot_dict_pop PySem.F.type_dict_pop (thn (ho pins s σ H _ I h) fun u s1 ⟨x, H1, I1, rx, a, ex, d, q1⟩ => ?_)
  subst ex
  obtain rfl : u = Value.ref a := rx
  obtain ⟨t1, t2, _⟩ := isD_at I1 d
  refine ⟨t1, t2, ?_⟩
  rw [m.trees]
  refine Calls.callWith_builtin rfl (Calls.evalArgs_plain (Calls.spliced_cons (thn (he pins s1 σ H1 _ I1 q1) fun iv s2 ⟨y, H2, I2, ry, q2⟩ =>
    Calls.spliced_cons (thn (hf pins s2 σ H2 _ I2 q2) fun fv s3 ⟨z, H3, I3, rz, kvs, k, ea, ey, q3, q4⟩ => Calls.spliced_nil ?_))))
  subst ey
  cases l : valV kvs k with
  | some v => exact d_pop I3 ea ry l (.inr ⟨fv, rfl⟩) fun w' s4 I4 rw' => ⟨v, _, I4, rw', q3 v l⟩
  | none => exact d_popD I3 ea ry l fun s4 I4 => ⟨z, H3, I4, rz, q4 l⟩
end

/-! ### dict(d): a copy -/
section
variable {X : Cx} {pins : List (Addr × Obj)} {σ : St} {H : Hp} {s : Shared} {a : Addr} {kvs : List (Key × V)} {A : Around} {E : Value → Shared → Prop}
theorem d_copyOf {Q : Value → Shared → Prop} (I : Inv X pins σ H s) (e : Rd H a (.dK kvs)) (h : ∀ p s', H p = none → Inv X pins σ (upd H p (.dK kvs)) s' → Q (.ref p) s') : wpAny (model X.prog X.w) A (call (.type "dict") [.ref a]) Q E s := by
  obtain ⟨z, hd, vs, rel, dd⟩ := dk_rd I.hok e
  refine kt_call_dict hd dd (by rw [← rel.length]; exact z) fun h' dd' hs => ?_
  refine h _ _ (I.hok.fresh (Nat.le_refl _)) (I.laid (a := s.heap.objs.size) (o := .dK kvs) (t' := s.toks) (fun b q hq => ?_) (Nat.le_refl _) (dk_new z (beq_eq_false_iff_ne.mpr (Ne.symm (Nat.ne_of_lt I.big))) rel dd'))
  exact (hs.2 b (Nat.ne_of_lt (Heap.lt_size hq))).trans (Heap.get?_push_of_some _ hq)
end


section
variable {X : Cx} {pins : List (Addr × Obj)} {σ : St} {H : Hp} {s : Shared} {a : Addr} {y : V} {u : Value} {A : Around} {E : Value → Shared → Prop}
/-- d[y], not there: a KeyError -/
theorem d_missing {Q : Value → Shared → Prop} (hu : A.units + 1 < cLine) (hh : A.handled = none) (I : Inv X pins σ H s) (g : DGet H a y none) (ry : RelV y u)
    (h : ∀ h' e t', Heap.NewExc s.heap h' e "KeyError" → E (.ref e) { s with heap := h', toks := t' }) : wpAny (model X.prog X.w) A (getItem (.ref a) u) Q E s := by
  rcases g with ⟨kvs, k, e, ey, l⟩ | ⟨kvs, k, b, e, ey, eb, l⟩
  · subst ey
    obtain ⟨z, hd, vs, rel, dd⟩ := dk_rd I.hok e
    have hn : valueAt vs k = none := RelO.none_of (by rw [l]; exact rel.val k)
    exact wpAny_getItem_missing_of (kV_is ry) hd hh dd.mapOf hn fun h' ex ne => h h' ex _ ne
  · subst ey
    cases (show u = Value.ref b from ry)
    obtain ⟨z, hd, xs, rel, dd⟩ := dt_rd I.hok e
    have hn : (atKey xs k).map (·.2) = none := RelO.none_of (by rw [l]; exact rel.val k)
    exact wpAny_getItem_missing_heap (tupleKind_room_in1 hu) (key_of I.hok eb) hd hh dd (Option.map_eq_none_iff.mp hn) fun h' ex ne => h h' ex _ ne
end
end L2

namespace Att
open PySem PySem.W PySem.Calls PyProof.Rows

/-! ### the script -/
theorem ints_of_wellAll {P : Params} {h : Heap} : ∀ (ns : List Int) (vs : List Value), WellAll P h vs (ns.map WData.int) → IntsAre vs ns := by
  intro ns
  induction ns with
  | nil =>
    intro vs w
    rw [List.map_nil] at w
    cases w
    exact .nil
  | cons n ns ih =>
    intro vs w
    rw [List.map_cons] at w
    cases w with
    | cons a b =>
      cases a
      exact .cons _ _ (ih _ b)

theorem script_of {l : OpenLaw} {n : Nat} (hn : l.most = some n) {P : Params} {h : Heap} {args : List WData} {vals : List Value}
    (hpre : l.row.toRowW.claim.pre args = true) (hwl : WellAll P h vals args) :
    ∃ a vs ns, vals = [Value.ref a] ∧ args = [WData.list (ns.map WData.int)] ∧ h.get? a = some { cls := .type "list", data := .seq vs.toArray } ∧ IntsAre vs ns ∧ ns.length ≤ n := by
  have hsh : WShape.hasAll [] args [.list .int] = true := (pre_splitW hpre).1
  have hc : l.pre.holds [] { args := args } = true := (pre_splitW hpre).2
  obtain ⟨d, r, rfl, h1, h2⟩ := hasAllW_cons hsh
  obtain rfl := hasAllW_nil h2
  obtain ⟨xs, rfl, h3⟩ := hasW_list h1
  obtain ⟨ns, rfl⟩ := items_int h3
  have hlen : ns.length ≤ n := by
    unfold OpenLaw.pre at hc
    have h4 : (WTm.not (.lt (.lit (.int (n : Int))) (.len (.arg 0)))).holds [] { args := [.list (ns.map .int)] } = true := by
      have h4 := (holds_andW hc).1
      rw [hn] at h4
      exact h4
    have h5 := condW_of h4 (w_not (w_lt w_lit (w_len_list (w_arg rfl))))
    rw [List.length_map] at h5
    refine Nat.le_of_not_lt fun q => ?_
    have q' : (n : Int) < ((ns.length : Nat) : Int) := by omega
    first
      | (rw [decide_eq_true q'] at h5; exact absurd h5 (by decide))
      | (simp at h5; omega)
  cases hwl with
  | cons w1 w2 =>
    cases w2
    cases w1 with
    | list ho hall => exact ⟨_, _, ns, rfl, rfl, ho, ints_of_wellAll ns _ hall, hlen⟩

theorem post_true (l : OpenLaw) (args : List WData) : l.row.toRowW.claim.post args (.bool true) args = true :=
  postW_of (r := l.row.toRowW) (X := (true == true))
    (show WShape.has [] (.bool true) .bool = true by first | rfl | decide | simp [WShape.has, WShape.arms, WShape.armsAll])
    (show (WTm.eq .res (.lit (.bool true))).value [] { args := args, res := some (.bool true), after := args } = some (.bool (true == true)) from w_eq_bool (w_res rfl) w_lit) rfl

/-! ### the attachment: holds_open's last premise (the goal 'hc' behind k_head) from a wpAny of the law's body -/
theorem attach {l : OpenLaw} {n : Nat} {q : Program} {loose : List Str} {XP : (Str → Option Value) → Heap → Prop} {YP : World → Heap → Prop} {d : DefRec} {x : Str}
    (hn : l.most = some n) (hdf : d.params.defaults = [])
    (hbind : ∀ pm cd doc v : Value, bindArgs (docDef d.name d.params d.body d.scope pm cd doc) ⟨[v], []⟩ = pure [(x, v)])
    (hx : d.scope.names.lookup x = some .local ∨ d.scope.names.lookup x = some .cell)
    (hk : d.scope.kind = .function) (hco : d.scope.isCoroutine = false) (hgen : d.scope.isGenerator = false)
    (body : ∀ (w : World) (s₀ s₁ s : Shared) (mg mb : Str → Option Value) (fa : Addr) (o : Obj) (pm cd doc : Value) (a : Addr) (vs : List Value) (ns : List Int),
      Ground q loose [] XP w s₀ mg mb s₁.heap → YP w s₁.heap →
      s₁.heap.get? fa = some o → o.data = .func (docDef d.name d.params d.body d.scope pm cd doc) → s₁.heap.CodeRec cd d.name → mg d.name = some (.ref fa) →
      s₁.heap.get? a = some { cls := .type "list", data := .seq vs.toArray } → IntsAre vs ns → ns.length ≤ n →
      s.gens = #[] → s.os = s₁.os →
      Fr s₁.heap s₁.heap.objs.size s.heap (bindL (envOfC d.name d.scope s₁.heap.objs.size fa cd).kindOf [(x, .ref a)] fun _ => none) →
      Cl s₁.heap.objs.size (cellsFrom (s₁.heap.objs.size + 1) d.scope.names []) s.heap (bindC (envOfC d.name d.scope s₁.heap.objs.size fa cd).kindOf [(x, .ref a)] fun _ => none) →
      wpAny (model l.prog w) (callerA.deeper (envOfC d.name d.scope s₁.heap.objs.size fa cd)) (execs d.body (envOfC d.name d.scope s₁.heap.objs.size fa cd))
        (fun f s' => f = .ret (.bool true) ∧ OldK s₁.heap s'.heap ∧ s'.os = s₁.os ∧ AllBare s'.gens) (fun _ _ => False) s) :
    WalkO q loose XP YP l.row.toRowW d [] (fun f vs => PySem.call f vs) := by
  intro w s₀ s₁ mg mb G Y fa o pm cd doc dV kV ho hd hcd hD hmg hg args vals as hpre hlay hrd hwl hlo
  obtain rfl : dV = .none := Dflts.none hD hdf
  obtain rfl : kV = .none := Dflts.noKw hD
  obtain ⟨a, vs, ns, rfl, rfl, hobj, hints, hlen⟩ := script_of hn hpre hwl
  refine enter_call ?_
  refine call_cells_ret (o := o) (by rw [depth_caller]; decide) ho (fd_plain hd) G.T.nolimit hcd (hbind pm cd doc (.ref a)) (fun y hy => ?_) (fun h₁ tk F X => ?_) hco hgen hk
  · obtain rfl : y = (x, Value.ref a) := List.mem_singleton.mp hy
    rcases hx with e | e
    · exact .inl e
    · exact .inr ⟨e, cellsFrom_some _ _ _ (.inl e)⟩
  · refine wpAny_mono (body w s₀ s₁ { s₁ with heap := h₁, toks := tk } mg mb fa o pm cd doc a vs ns G Y ho (fd_plain hd) hcd hmg hobj hints hlen hg rfl F X) (fun f s' hq => ?_) (fun _ _ hq => hq)
    obtain ⟨rfl, h2, h3, h4⟩ := hq
    exact ⟨.inl ⟨.bool true, .bool true, [], rfl, fun _ => rfl, .bool true, post_true l _, fun _ => ⟨List.Pairwise.nil, fun _ hm => (nomatch hm)⟩⟩, h2, h3, h4⟩

/-- the same from a codeAny of the CALL (for a layer whose function contracts speak of calls) -/
theorem attach_call {l : OpenLaw} {n : Nat} {q : Program} {loose : List Str} {XP : (Str → Option Value) → Heap → Prop} {YP : World → Heap → Prop} {d : DefRec}
    (hn : l.most = some n) (hdf : d.params.defaults = [])
    (call : ∀ (w : World) (s₀ s₁ : Shared) (mg mb : Str → Option Value) (fa : Addr) (o : Obj) (pm cd doc : Value) (a : Addr) (vs : List Value) (ns : List Int),
      Ground q loose [] XP w s₀ mg mb s₁.heap → YP w s₁.heap →
      s₁.heap.get? fa = some o → o.data = .func (docDef d.name d.params d.body d.scope pm cd doc) → s₁.heap.CodeRec cd d.name → mg d.name = some (.ref fa) →
      s₁.heap.get? a = some { cls := .type "list", data := .seq vs.toArray } → IntsAre vs ns → ns.length ≤ n → s₁.gens = #[] →
      codeAny (model l.prog w) callerA (.call (.ref fa) ⟨[.ref a], []⟩) (fun r s' => r = .ok (.ret (.bool true)) ∧ OldK s₁.heap s'.heap ∧ s'.os = s₁.os ∧ AllBare s'.gens) s₁) :
    WalkO q loose XP YP l.row.toRowW d [] (fun f vs => PySem.call f vs) := by
  intro w s₀ s₁ mg mb G Y fa o pm cd doc dV kV ho hd hcd hD hmg hg args vals as hpre hlay hrd hwl hlo
  obtain rfl : dV = .none := Dflts.none hD hdf
  obtain rfl : kV = .none := Dflts.noKw hD
  obtain ⟨a, vs, ns, rfl, rfl, hobj, hints, hlen⟩ := script_of hn hpre hwl
  refine enter_call (codeAny_mono (call w s₀ s₁ mg mb fa o pm cd doc a vs ns G Y ho (fd_plain hd) hcd hmg hobj hints hlen hg) fun r s' hq => ?_)
  obtain ⟨rfl, h2, h3, h4⟩ := hq
  exact ⟨.inl ⟨.bool true, .bool true, [], rfl, fun _ => rfl, .bool true, post_true l _, fun _ => ⟨List.Pairwise.nil, fun _ hm => (nomatch hm)⟩⟩, h2, h3, h4⟩

/-- the same where the top left finished generators (o_head chose holds_openN): nothing may have changed at all and no generator may be left -/
theorem attachN {l : OpenLaw} {n : Nat} {q : Program} {loose : List Str} {XP : (Str → Option Value) → Heap → Prop} {YP : World → Heap → Prop} {d : DefRec} {x : Str}
    (hn : l.most = some n) (hdf : d.params.defaults = [])
    (hbind : ∀ pm cd doc v : Value, bindArgs (docDef d.name d.params d.body d.scope pm cd doc) ⟨[v], []⟩ = pure [(x, v)])
    (hx : d.scope.names.lookup x = some .local ∨ d.scope.names.lookup x = some .cell)
    (hk : d.scope.kind = .function) (hco : d.scope.isCoroutine = false) (hgen : d.scope.isGenerator = false)
    (body : ∀ (w : World) (s₀ s₁ s : Shared) (mg mb : Str → Option Value) (fa : Addr) (o : Obj) (pm cd doc : Value) (a : Addr) (vs : List Value) (ns : List Int),
      Ground q loose [] XP w s₀ mg mb s₁.heap → YP w s₁.heap →
      s₁.heap.get? fa = some o → o.data = .func (docDef d.name d.params d.body d.scope pm cd doc) → s₁.heap.CodeRec cd d.name → mg d.name = some (.ref fa) →
      s₁.heap.get? a = some { cls := .type "list", data := .seq vs.toArray } → IntsAre vs ns → ns.length ≤ n →
      s.gens = #[] → s.os = s₁.os →
      Fr s₁.heap s₁.heap.objs.size s.heap (bindL (envOfC d.name d.scope s₁.heap.objs.size fa cd).kindOf [(x, .ref a)] fun _ => none) →
      Cl s₁.heap.objs.size (cellsFrom (s₁.heap.objs.size + 1) d.scope.names []) s.heap (bindC (envOfC d.name d.scope s₁.heap.objs.size fa cd).kindOf [(x, .ref a)] fun _ => none) →
      wpAny (model l.prog w) (callerA.deeper (envOfC d.name d.scope s₁.heap.objs.size fa cd)) (execs d.body (envOfC d.name d.scope s₁.heap.objs.size fa cd))
        (fun f s' => f = .ret (.bool true) ∧ (∀ b o, s₁.heap.get? b = some o → s'.heap.get? b = some o) ∧ s'.os = s₁.os ∧ s'.gens = #[]) (fun _ _ => False) s) :
    WalkN q loose XP YP l.row.toRowW d [] (fun f vs => PySem.call f vs) := by
  intro w s₀ s₁ mg mb G Y fa o pm cd doc dV kV ho hd hcd hD hmg hg args vals as hpre hlay hrd hwl hlo
  obtain rfl : dV = .none := Dflts.none hD hdf
  obtain rfl : kV = .none := Dflts.noKw hD
  obtain ⟨a, vs, ns, rfl, rfl, hobj, hints, hlen⟩ := script_of hn hpre hwl
  refine enter_callW ?_
  refine call_cells_ret (o := o) (by rw [depth_caller]; decide) ho (fd_plain hd) G.T.nolimit hcd (hbind pm cd doc (.ref a)) (fun y hy => ?_) (fun h₁ tk F X => ?_) hco hgen hk
  · obtain rfl : y = (x, Value.ref a) := List.mem_singleton.mp hy
    rcases hx with e | e
    · exact .inl e
    · exact .inr ⟨e, cellsFrom_some _ _ _ (.inl e)⟩
  · refine wpAny_mono (body w s₀ s₁ { s₁ with heap := h₁, toks := tk } mg mb fa o pm cd doc a vs ns G Y ho (fd_plain hd) hcd hmg hobj hints hlen hg rfl F X) (fun f s' hq => ?_) (fun _ _ hq => hq)
    obtain ⟨rfl, h2, h3, h4⟩ := hq
    exact ⟨.inl ⟨.bool true, .bool true, [], rfl, fun _ => rfl, .bool true, post_true l _, fun _ => ⟨List.Pairwise.nil, fun _ hm => (nomatch hm)⟩⟩, h2, h3, h4⟩

/-! ### rules over ANY heap (no ledger) from facts about the written part K: the library's own take a ledger (News) for what they write -/
section
variable {prog : Program} {w : World} {A : Around} {E : Value → Shared → Prop} {s : Shared} {K : Frag}

/-- a def of the module, or a method (qual 'C.m'), entered: the frame is the next address; cells behind it -/
theorem call_fn {R : Result → Shared → Prop} {name qual : Str} {params : Arguments} {body : List Stmt} {scope : Scope} {dV kV doc pm cdv ct oc : Value} {an od : Option Addr} {osl : Array (Option Value)} {f : Addr} {args : Args} {binds : List (Str × Value)}
    (X : K.In s.heap) (hlim : s.heap.NoLimit) (ho : K.lookup f = some ⟨oc, od, .func (fnOf name qual params body scope dV kV doc pm an cdv ct), osl⟩) (hcd : codeIn K cdv qual = true) (hroom : A.depth < recursionLimit)
    (hbind : BindsTo s (fnOf name qual params body scope dV kV doc pm an cdv ct) args binds)
    (hkind : (binds.all fun y => scope.names.lookup y.1 == some .local || scope.names.lookup y.1 == some .cell) = true)
    (h : ∀ s₁, InCallC s s.heap.objs.size (bindL (envOfC qual scope s.heap.objs.size f cdv).kindOf binds fun _ => none) (cellsFrom (s.heap.objs.size + 1) scope.names [])
        (bindC (envOfC qual scope s.heap.objs.size f cdv).kindOf binds fun _ => none) s₁ →
      wpAny (model prog w) (A.deeper (envOfC qual scope s.heap.objs.size f cdv)) (execs body (envOfC qual scope s.heap.objs.size f cdv))
        (fun fl s' => R (.ok (.ret (match fl with | .ret v => v | _ => .none))) s')
        (fun e s' => wpAny (model prog w) (A.deeper (envOfC qual scope s.heap.objs.size f cdv)) (leaving (envOfC qual scope s.heap.objs.size f cdv) e) (fun _ s'' => R (.error e) s'') (fun e' s'' => R (.error e') s'') s') s₁)
    (hco : scope.isCoroutine = false) (hgen : scope.isGenerator = false) (hk : scope.kind = .function) : codeAny (model prog w) A (.call (.ref f) args) R s := by
  refine codeAny_call_function hroom (X _ _ ho) rfl hco hgen rfl (codeRec_of X hcd) (hbind _ _ _ _ ?_)
  refine wpAny_newFunctionEnv_cells hk (kindsX hkind _) fun env he s₁ x => ?_
  subst he
  exact ⟨hlim.keeps x.toInCall.keep, codeAny_func (h s₁ x)⟩

/-- C(..): dict at size, instance at size + 1, then __init__ -/
theorem make_obj {R : Result → Shared → Prop} {C fI : Addr} {rest : List Value} {kw : List (Str × Value)}
    (X : K.In s.heap) (hm : makesIn K C = true) (hi : findIn K (.ref C) "__init__" = some (some (.ref fI))) (hf : isFn K (.ref fI) = true)
    (h : codeAny (model prog w) (A.under (.builtin "type.__call__" ⟨.ref C :: rest, kw⟩)) (.call (.ref fI) ⟨.ref (s.heap.objs.size + 1) :: rest, kw⟩) (InitBack (s.heap.objs.size + 1) R)
      { s with heap := (s.heap.push emptyDict).push (instObj C s.heap.objs.size) }) : codeAny (model prog w) A (.call (.ref C) ⟨rest, kw⟩) R s := by
  obtain ⟨hh, g, d, t, os⟩ := s
  exact make_core (makes_of X hm) (looks_findIn X hi) (fun self => bind_fn X self (beq_iff_eq.mp hf)) (.inl rfl) h

/-- x.name where the instance's dict holds the name and the class does not -/
theorem get_field {x C : Addr} {ox : Obj} {es : List DictEntry} {n : Nat} {name : Str} {expr : Bool} {v : Value} {Q : Value → Shared → Prop}
    (X : K.In s.heap) (I : PySem.W.InstAt s.heap x ox C (some (dictOf es n))) (hg : plainGet K C name = true) (hh : hasDictIn K C = true) (ha : findIn K (.ref C) name = some none)
    (hl : getL name es = some (some v)) (hv : handedIn v = true) (h : Q v { s with toks := s.toks + 1 }) : wpAny (model prog w) A (getAttr (.ref x) name expr) Q E s :=
  get_value X I (plainGet_of hg).1 (findObj_own hh ha rfl hl) hv h

/-- x.m(..): the method found in the class -/
theorem get_method {x C f : Addr} {ox : Obj} {es : List DictEntry} {n : Nat} {name : Str} {pl : Sem Bool} {Q : Value × List Value → Shared → Prop}
    (X : K.In s.heap) (I : PySem.W.InstAt s.heap x ox C (some (dictOf es n))) (hg : plainGet K C name = true) (hf : findIn K (.ref C) name = some (some (.ref f))) (ht : isFn K (.ref f) = true)
    (hl : getL name es = some none) (h : Q (.ref f, [.ref x]) s) : wpAny (model prog w) A (getMethod (.ref x) name pl) Q E s :=
  method_fn X I (plainGet_of hg).1 (plainGet_of hg).2 hf (beq_iff_eq.mp ht) (by show (lookIn name (dictOf es n)).map _ = _; rw [lookIn_dict, hl]; rfl) h

/-! the whole heap as the ledger: makes every rule that writes through a ledger a rule over any heap -/
def noObjs (h : Heap) : Heap := { h with objs := #[] }
theorem noObjs_get (h : Heap) (b : Addr) : (noObjs h).get? b = none := by
  cases e : (noObjs h).get? b with
  | none => rfl
  | some o => exact absurd (Heap.lt_size e) (Nat.not_lt_zero _)
def ledger (h : Heap) (L d : Addr) : List (Addr × Obj) := (List.range h.objs.size).filterMap fun a => if a = L ∨ a = d then none else (h.get? a).map fun o => (a, o)
theorem mem_ledger {h : Heap} {L d a : Addr} {o : Obj} : (a, o) ∈ ledger h L d ↔ a ≠ L ∧ a ≠ d ∧ h.get? a = some o := by
  unfold ledger
  rw [List.mem_filterMap]
  constructor
  · rintro ⟨b, _, e⟩
    split at e
    · cases e
    · rename_i hb
      obtain ⟨o', ho, e'⟩ := Option.map_eq_some_iff.mp e
      cases e'
      exact ⟨fun q => hb (.inl q), fun q => hb (.inr q), ho⟩
  · rintro ⟨n1, n2, ho⟩
    refine ⟨a, List.mem_range.mpr (Heap.lt_size ho), ?_⟩
    rw [if_neg (show ¬ (a = L ∨ a = d) from fun q => q.elim n1 n2), ho] <;> rfl
theorem news_ledger {h : Heap} {L d : Addr} {od : Obj} (hne : d ≠ L) (ho : h.get? d = some od) : News (noObjs h) L h ([] ++ (d, od) :: ledger h L d) := by
  rintro ⟨a, o⟩ hp
  rcases List.mem_cons.mp hp with e | hp
  · cases e
    exact ⟨ho, hne, noObjs_get _ _⟩
  · obtain ⟨n1, n2, e⟩ := mem_ledger.mp hp
    exact ⟨e, n1, noObjs_get _ _⟩
theorem fr_all {h : Heap} {L : Addr} {m : Str → Option Value} (n : h.Ns L m) : Fr (noObjs h) L h m :=
  ⟨n, fun b o e => (by rw [noObjs_get] at e; cases e), Nat.zero_le _⟩
/-- Upd of the head entry (for append_K, setItem_K ..) -/
theorem upd_ledger {h : Heap} {L d : Addr} {o o' : Obj} : Upd d o o' ((d, o) :: ledger h L d) ((d, o') :: ledger h L d) :=
  .head fun ⟨_, _⟩ hp => (mem_ledger.mp hp).2.1

/-- x.name = v over any heap: L is any namespace of the heap (the frame's, say): its map stays, its object is not told; all else but the dict stays -/
theorem set_field {x C dx L : Addr} {ox : Obj} {m : Str → Option Value} {es es' : List DictEntry} {n n' : Nat} {name : Str} {v : Value} {Q : Unit → Shared → Prop}
    (X : K.In s.heap) (I : PySem.W.InstAt s.heap x ox C (some (dictOf es n))) (hd : ox.dict = some dx) (hL : s.heap.Ns L m) (hne : dx ≠ L)
    (hs : findIn K (.ref C) "__setattr__" = some (some (.builtin "object.__setattr__"))) (hp : plainOver K C = true) (ht : takerIn K C name = some none) (hh : hasDictIn K C = true) (hl : (getL name es).isSome = true)
    (e : (putL name (PyData.keyHash w.params name) (.str name (s.toks + 1)) v es, putN name es n) = (es', n')) (hz : es'.length ≤ 1000)
    (h : ∀ h' : Heap, h'.Ns L m → h'.get? dx = some (dictOf es' n') → (∀ b o, b ≠ dx → b ≠ L → s.heap.get? b = some o → h'.get? b = some o) → Q () { s with heap := h', toks := s.toks + 2 }) :
    wpAny (model prog w) A (setAttr (.ref x) name v) Q E s := by
  obtain ⟨e1, e2⟩ := Prod.mk.inj e
  have hdx : s.heap.get? dx = some (dictOf es n) := by
    have := I.dict
    rw [hd] at this
    exact this
  refine set_plain X I hs (osa_dict (s := { s with toks := s.toks + 1 }) (h₀ := noObjs s.heap) (L := L) (m := m) (od := dictOf es n) (od' := dictOf es' n') (es := es') (n := n') (pre := []) (post := ledger s.heap L dx)
    (fr_all hL) (news_ledger hne hdx) X I hd hp ht hh hl (fun _ q => nomatch q) (fun ⟨_, _⟩ q => (mem_ledger.mp q).2.1) (by rw [putName_dict, e1, e2]) rfl hz fun h' F' N' => ?_)
  exact h h' F'.ns (N'.get (List.Mem.head _)) fun b o n1 n2 ho => N'.get (List.Mem.tail _ (mem_ledger.mpr ⟨n2, n1, ho⟩))
end
end Att

namespace L2
open PySem PySem.Spec PyProof.Rows

theorem vals_ints : ∀ {vs : List Value} {ns : List Int}, IntsAre vs ns → Vals (ns.map V.int) vs
  | _, _, .nil => .nil
  | _, _, .cons n t h => .cons ⟨t, rfl⟩ (vals_ints h)

/-- nothing is tracked but the script, known to the object (or it is an object of the module) -/
def Only (H : Hp) : Prop := ∀ b, H b = none ∨ ∃ o xs, H b = some (.frz o (.lst xs))

/-- THE HEAD: the law's promise, at the heap behind the top. F, the promise of the law's def, may use that base is part of the heap (so K.In base, base.Ns mainGlobals mg stand in Mod) -/
theorem law_call {P : Program} {w : World} {K : PySem.W.Frag} {mg mb : Str → Option Value} {CX : CXT} {k : Nat} {fa a : Addr} {fd : FuncData} {x : Str} {sp : Sp} {s₁ : Shared} {vs : List Value} {ns : List Int}
    (KX : K.In s₁.heap) (hns : s₁.heap.Ns mainGlobals mg) (hb : s₁.heap.Ns builtinsNs mb) (hbb : ∀ x : Str, x ≠ "__name__" → mb x = bootBuiltins x) (hlim : s₁.heap.NoLimit) (hg : s₁.gens = #[])
    (ha : s₁.heap.get? a = some { cls := .type "list", data := .seq vs.toArray }) (hi : IntsAre vs ns) (hl : ns.length ≤ sizeLine) (hr : Room k callerA)
    (F : ∀ base : Heap, K.In base → base.Ns mainGlobals mg → FnOk P w K mg base CX k fa fd [x] sp) (hbind : ∀ (s : Shared) (u : Value), BindsTo s fd ⟨[u], []⟩ [(x, u)])
    (hsp : ∀ H : Hp, Only H → SqL K H a (ns.map V.int) → sp [.ref a] H (fun v _ => v = .bl true) fun _ _ _ => False)
    (hCX : ∀ H e s', CX [] H s₁ (fun _ _ _ => False) e s' → False) :
    codeAny (model P w) callerA (.call (.ref fa) ⟨[.ref a], []⟩) (fun r s' => r = .ok (.ret (.bool true)) ∧ OldK s₁.heap s'.heap ∧ s'.os = s₁.os ∧ AllBare s'.gens) s₁ := by
  have rv := vals_ints hi
  have lenV := hi.length
  -- from an abstract heap in which nothing but the script may be tracked
  have core : ∀ H : Hp, Only H → SqL K H a (ns.map V.int) → HOk P w H s₁.heap → (∀ b, H b ≠ none → b = a) → (H a ≠ none → K.lookup a = none) →
      codeAny (model P w) callerA (.call (.ref fa) ⟨[.ref a], []⟩) (fun r s' => r = .ok (.ret (.bool true)) ∧ OldK s₁.heap s'.heap ∧ s'.os = s₁.os ∧ AllBare s'.gens) s₁ := by
    intro H hO hS hok hA hK
    have base_of : ∀ {b : Addr} {o : Obj}, s₁.heap.get? b = some o → H b = none → (hidT s₁.heap H).get? b = some o := fun e n => hidT_get e n
    have noA : ∀ {b : Addr} {o : Obj} {es : Array DictEntry} {ep : Nat}, s₁.heap.get? b = some o → o.data = .dict es ep → H b = none := fun {b o es ep} e d => by
      cases q : H b with
      | none => rfl
      | some u =>
        have e' : b = a := hA b (by rw [q]; simp)
        subst e'
        rw [ha] at e; cases e
        have d' : Data.seq vs.toArray _ = Data.dict es ep := d
        cases d'
    have nsK : ∀ {b : Addr} {m : Str → Option Value}, s₁.heap.Ns b m → (hidT s₁.heap H).Ns b m := fun {b m} ⟨o, es, ep, e, d, r⟩ => ⟨o, es, ep, base_of e (noA e d), d, r⟩
    have hKb : K.In (hidT s₁.heap H) := fun b o e => base_of (KX b o e) (by
      cases q : H b with
      | none => rfl
      | some u =>
        have e' : b = a := hA b (by rw [q]; simp)
        subst e'
        rw [hK (by rw [q]; simp)] at e; cases e)
    have hM : Mod K mg (hidT s₁.heap H) := ⟨hKb, nsK hns, ⟨mb, nsK hb, hbb⟩, let ⟨mc, h1, h2⟩ := hlim; ⟨mc, nsK h1, h2⟩⟩
    have e0 : Env0 P w K mg (hidT s₁.heap H) callerA [] s₁ H := ⟨rfl, hM, fun b o e => of_hidT e, Nat.le_of_eq (hidT_size _ _), trivial, fun b hb => absurd (show b ∈ ([] : List Addr) from hb) (by simp), hok, .of_eq hg⟩
    refine codeAny_mono ((F _ hKb (nsK hns)).run callerA [] s₁ H ⟨[.ref a], []⟩ [.ref a] [.ref a] _ _ hr e0 (hbind s₁ (.ref a)) (.cons rfl .nil) (hsp H hO hS)) fun r s' h => ?_
    cases r with
    | error e => exact (hCX H e s' h).elim
    | ok fl =>
      cases fl with
      | next => exact False.elim h
      | brk => exact False.elim h
      | cont => exact False.elim h
      | ret u =>
        obtain ⟨v, H', os, bare, un, hok', r', q⟩ := h
        have q' : v = .bl true := q
        subst q'
        obtain rfl : u = Value.bool true := r'
        refine ⟨rfl, OldK.of_keep fun b o e => ?_, os, bare⟩
        cases q : H b with
        | none => exact un.keep b o e q (by intro z; exact absurd (show b ∈ ([] : List Addr) from z) (by simp)) (by simp)
        | some u =>
          rcases hO b with z | ⟨ob, xs, z⟩
          · rw [q] at z; cases z
          · have z2 := un.frzs b ob _ z
            obtain ⟨e1, _⟩ := hok b _ z
            obtain ⟨e2, _⟩ := hok' b _ z2
            rw [e] at e1; cases e1
            exact e2
  cases hk : K.lookup a with
  | some o =>
    -- the script is one of the module's own objects
    have e := KX a o hk
    rw [ha] at e
    cases e
    refine core (fun _ => none) (fun _ => .inl rfl) (.inr ⟨_, vs.toArray, _, hk, rfl, rfl, rfl, by rw [List.size_toArray, lenV]; exact hl, by simpa using rv⟩) (fun b u z => by have z' : (none : Option HO) = some u := z; cases z') (fun b z => absurd rfl z) fun z => absurd rfl z
  | none =>
    refine core (fun b => if b = a then some (.frz { cls := .type "list", data := .seq vs.toArray } (.lst (ns.map V.int))) else none) (fun b => ?_) (.inl (.inr ⟨{ cls := .type "list", data := .seq vs.toArray }, if_pos rfl⟩)) (fun b u z => ?_) (fun b z => ?_) fun _ => hk
    · by_cases hb : b = a
      · exact .inr ⟨_, _, if_pos hb⟩
      · exact .inl (if_neg hb)
    · by_cases hb : b = a
      · have z' := (if_pos hb).symm.trans z
        cases z'
        subst hb
        exact ⟨ha, by rw [List.length_map]; exact hl, vs, _, rv, ha⟩
      · have z' := (if_neg hb).symm.trans z
        cases z'
    · by_cases hb : b = a
      · exact hb
      · exact absurd (if_neg hb) z
end L2

namespace L2
open PySem PySem.Spec PyProof.Rows

abbrev KOf {K : PySem.W.Frag} {h : Heap} (_ : K.In h) : PySem.W.Frag := K

/-- the goal that k_head leaves (case hc), from the law's promise. F gives the function object fd (K's own) once, then the promise over every base -/
theorem walk_of {l : PySem.W.OpenLaw} {n k : Nat} {q : Program} {loose : List Str} {XP : (Str → Option Value) → Heap → Prop} {YP : World → Heap → Prop} {d : DefRec} {K : Params → PySem.W.Frag} {CX : World → CXT} {sp : World → Sp} {x : Str}
    (hn : l.most = some n) (hn2 : n ≤ sizeLine) (hdf : d.params.defaults = []) (hr : Room k callerA)
    (hY : ∀ (w : World) (h : Heap), YP w h → (K w.params).In h)
    (F : ∀ (w : World) (mg : Str → Option Value) (fa : Addr) (h : Heap), (K w.params).In h → h.Ns mainGlobals mg → mg d.name = some (.ref fa) →
      ∃ fd : FuncData, (∀ (s : Shared) (u : Value), BindsTo s fd ⟨[u], []⟩ [(x, u)]) ∧
        ∀ base : Heap, (K w.params).In base → base.Ns mainGlobals mg → FnOk l.prog w (K w.params) mg base (CX w) k fa fd [x] (sp w))
    (hsp : ∀ (w : World) (H : Hp) (a : Addr) (ns : List Int), ns.length ≤ n → Only H → SqL (K w.params) H a (ns.map V.int) → sp w [.ref a] H (fun v _ => v = .bl true) fun _ _ _ => False)
    (hCX : ∀ (w : World) (H : Hp) (s : Shared) (e : Value) (s' : Shared), CX w [] H s (fun _ _ _ => False) e s' → False) :
    PySem.W.WalkO q loose XP YP l.row.toRowW d [] (fun f vs => PySem.call f vs) := by
  refine Att.attach_call hn hdf fun w s₀ s₁ mg mb fa o pm cd doc a vs ns G Y ho hd hcd hmg hobj hints hlen hg => ?_
  have KX := hY w _ Y
  obtain ⟨fd, hb, hF⟩ := F w mg fa _ KX G.T.g hmg
  exact law_call KX G.T.g G.T.b G.T.builtins G.T.nolimit hg hobj hints (Nat.le_trans hlen hn2) hr hF hb (fun H hO hS => hsp w H a ns hlen hO hS) fun H e s' => hCX w H s₁ e s'
/-- the same where the promise hangs on the written part alone: (sp := My.sp_law), no hole under a binder -/
theorem walk_ofK {l : PySem.W.OpenLaw} {n k : Nat} {q : Program} {loose : List Str} {XP : (Str → Option Value) → Heap → Prop} {YP : World → Heap → Prop} {d : DefRec} {K : Params → PySem.W.Frag} {CX : CXT} {sp : PySem.W.Frag → Sp} {x : Str}
    (hn : l.most = some n) (hn2 : n ≤ sizeLine) (hdf : d.params.defaults = []) (hr : Room k callerA)
    (hY : ∀ (w : World) (h : Heap), YP w h → (K w.params).In h)
    (F : ∀ (w : World) (mg : Str → Option Value) (fa : Addr) (h : Heap), (K w.params).In h → h.Ns mainGlobals mg → mg d.name = some (.ref fa) →
      ∃ fd : FuncData, (∀ (s : Shared) (u : Value), BindsTo s fd ⟨[u], []⟩ [(x, u)]) ∧
        ∀ base : Heap, (K w.params).In base → base.Ns mainGlobals mg → FnOk l.prog w (K w.params) mg base CX k fa fd [x] (sp (K w.params)))
    (hsp : ∀ (K : PySem.W.Frag) (H : Hp) (a : Addr) (ns : List Int), ns.length ≤ n → Only H → SqL K H a (ns.map V.int) → sp K [.ref a] H (fun v _ => v = .bl true) fun _ _ _ => False)
    (hCX : ∀ (H : Hp) (s : Shared) (e : Value) (s' : Shared), CX [] H s (fun _ _ _ => False) e s' → False) :
    PySem.W.WalkO q loose XP YP l.row.toRowW d [] (fun f vs => PySem.call f vs) :=
  walk_of (K := K) (CX := fun _ => CX) (sp := fun w => sp (K w.params)) hn hn2 hdf hr hY F (fun w H a ns h1 h2 h3 => hsp (K w.params) H a ns h1 h2 h3) fun _ H s e s' => hCX H s e s'
end L2

/- THE LAST THEOREM (shape; LID, My.* are yours):
   My.Adr: a structure of the addresses that your layer names (classes, functions); My.Txt K t: a structure (Prop) of the equations over K;
   My.txt_mk : {K} {implicit addresses ..} (e1 : nsIn K mainGlobals "law" = some (some (.ref f))) (e2 : K.lookup f = some ⟨oc, od, .func (fnOf "law" "law" params body scope dV kV doc pm an cdv ct), sl⟩) (e3 : codeIn K cdv "law" = true) .. : ∃ t, My.Txt K t

set_option maxRecDepth 100000 in
set_option maxHeartbeats 0 in
theorem PySem.Challenge.cw_LID_holds : PySem.Challenge.rw_LID.Holds := by
  w_on; o_law; k_head; (case hw => w_witness2)
  k_fill
  refine L2.walk_of (l := PySem.Challenge.rw_LID) (n := 63) (k := 40) (x := "script") (CX := fun w => ..) (sp := fun _ => My.sp_law) rfl (by decide) rfl ⟨rfl, by decide, by decide⟩ (fun w h Y => PySem.W.kIn_of Y) ?F ?S ?C
  case F =>
    intro w mg fa h KX G hmg
    have T : ∃ t, My.Txt (L2.KOf KX) t := by
      dsimp only [L2.KOf]                          -- K must stand as «<heap const> w.params» for k_is
      refine' My.txt_mk ?e1 ?e2 ?e3 ..
      (case e1 => PySem.W.k_is)                    -- in the order: a name -> its address -> its object -> its parts
      (case e2 => PySem.W.k_is)
      ..
    obtain ⟨t, T⟩ := T
    have e0 := hmg.symm.trans (PySem.W.mg_of KX G T.law)
    cases e0                                       -- fa is the law's own address
    exact ⟨_, fun s u => .of_eq rfl, fun base kb nb => My.law_fn T kb nb⟩     -- if «.of_eq rfl» comes too early: refine' ⟨_, ?b, fun base kb nb => My.law_fn T kb nb⟩; exact fun s u => .of_eq rfl
  case S => exact fun w H a ns hl hO hS => ..
  case C => exact ..
(the tactic k_is has no namespace: write k_is) -/

/-! SHORT WORDS over the layer: a def of the text, its body, what a loop and a test want. -/
namespace L2
open PySem PySem.Spec PyProof.Rows

/-! ### the text by places -/
/-- the j-th statement of a class's body -/
def inClass (s : Stmt) (j : Nat) : Stmt := match s with
  | .ClassDef _ _ _ body _ _ _ _ _ _ _ => body.getD j (.Pass ⟨0, 0, 0, 0⟩)
  | _ => .Pass ⟨0, 0, 0, 0⟩
def defArgs (s : Stmt) : Arguments := match s with
  | .FunctionDef _ a _ _ _ _ _ _ _ _ => a
  | _ => { posonlyargs := [], args := [], vararg := none, kwonlyargs := [], kw_defaults := [], kwarg := none, defaults := [] }
def defBody (s : Stmt) : List Stmt := match s with
  | .FunctionDef _ _ b _ _ _ _ _ _ _ => b
  | _ => []
def defScope (s : Stmt) : Scope := match s with
  | .FunctionDef _ _ _ _ _ _ sc _ _ _ => sc
  | _ => { kind := .function, names := [], isGenerator := false, isCoroutine := false }

/-! ### no exception leaves a def -/
abbrev CX0 : CXT := fun _ _ _ _ _ _ => False
abbrev E0 : XK := fun _ _ _ => False
theorem pass0 {X : Cx} : Passes CX0 X E0 := fun _ _ _ _ _ _ _ h => h.elim

/-! ### a def (or method) of the text as it stands behind the top -/
structure Fun (K : PySem.W.Frag) (x qual : Str) (st : Stmt) (f : Addr) (fd : FuncData) : Prop where
  ex : ∃ (oc : Value) (od : Option Addr) (kV doc pm : Value) (an : Option Addr) (cdv ct : Value) (osl : Array (Option Value)),
    fd = PySem.W.fnOf x qual (defArgs st) (defBody st) (defScope st) .none kV doc pm an cdv ct ∧ K.lookup f = some ⟨oc, od, .func fd, osl⟩ ∧ PySem.W.codeIn K cdv qual = true
  kp : PySem.W.keepIn K (.ref f) = true
section
variable {P : Program} {w : World} {K : PySem.W.Frag} {mg : Str → Option Value} {base : Heap}
/-- THE RULE for a def: its body as a term of rules, and the reading of that term -/
theorem Fun.ok {x qual : Str} {st : Stmt} {f : Addr} {fd : FuncData} {N ps : List Str} {k : Nat} {sp : Sp} (F : Fun K x qual st f fd) (S : FnScope N ps (defScope st)) (len : ∀ vs H Q E, sp vs H Q E → vs.length = ps.length)
    (hbody : ∀ (cdv : Value) (A : Around) (outer : List Env) (s : Shared) (H : Hp) (vs : List V) (Q : VK) (E : XK), Room k (A.deeper (envOfC qual (defScope st) s.heap.objs.size f cdv)) → sp vs H Q E →
      ∃ t, PSs (cxOf CX0 P w K mg base N qual (defScope st) f cdv A outer s H E).nox (defBody st) t ∧ t { nx := fun _ H' => Q .non H', rt := Q } (start N vs) H) : FnOk P w K mg base CX0 (k + 1) f fd ps sp := by
  obtain ⟨oc, od, kV, doc, pm, an, cdv, ct, osl, rfl, lk, hcd⟩ := F.ex
  refine fn_of lk hcd S len fun A outer s H vs Q E hr hsp => ?_
  obtain ⟨t, h, q⟩ := hbody cdv A outer s H vs Q E hr hsp
  exact ⟨t, h.nox, q⟩
/-- how its arguments bind (no defaults): h is «fun _ _ _ _ _ _ us hl => match us, hl with | [_, _], _ => rfl», one _ a parameter -/
theorem Fun.binds {x qual : Str} {st : Stmt} {f : Addr} {fd : FuncData} {ps : List Str} (F : Fun K x qual st f fd)
    (h : ∀ (kV doc pm : Value) (an : Option Addr) (cdv ct : Value) (us : List Value), us.length = ps.length → bindArgs (PySem.W.fnOf x qual (defArgs st) (defBody st) (defScope st) .none kV doc pm an cdv ct) ⟨us, []⟩ = pure (ps.zip us)) : Binds K fd ps [] := by
  obtain ⟨oc, od, kV, doc, pm, an, cdv, ct, osl, rfl, lk, hcd⟩ := F.ex
  exact .all (h kV doc pm an cdv ct)
theorem fun_mk {x qual : Str} {st : Stmt} {f : Addr} {oc : Value} {od an : Option Addr} {osl : Array (Option Value)} {kV doc pm cdv ct : Value} (l : K.lookup f = some ⟨oc, od, .func (PySem.W.fnOf x qual (defArgs st) (defBody st) (defScope st) .none kV doc pm an cdv ct), osl⟩)
    (c : PySem.W.codeIn K cdv qual = true) (k : PySem.W.keepIn K (.ref f) = true) : Fun K x qual st f (PySem.W.fnOf x qual (defArgs st) (defBody st) (defScope st) .none kV doc pm an cdv ct) := ⟨⟨oc, od, kV, doc, pm, an, cdv, ct, osl, rfl, l, c⟩, k⟩
end
theorem hu_of {A : Around} {k : Nat} (hr : Room k A) : A.units + 1 < cLine := Nat.lt_of_le_of_lt (Nat.add_le_add_left (by decide : 1 ≤ 64) _) hr.units
theorem small1000 {n : Nat} (h : n ≤ 1000) : n < sizeLine := Nat.lt_of_le_of_lt h (by decide)

/-! ### expressions in short: the name that stands in the i-th slot -/
section
variable {X : Cx}
theorem pv (i : Nat) {x : Str} {pos : Pos} (hN : X.N[i]? = some x := by rfl) (hv : Vis X.env.scope x := by first | exact Or.inl rfl | exact Or.inr (Or.inl rfl) | exact Or.inr (Or.inr rfl)) (hd : (x == ("__debug__" : Str)) = false := by decide)
    (hcd : (x == ("__classdict__" : Str)) = false := by decide) : PE X (.Name x pos) (tVar i) := pe_var hN hv hd hcd
/-- len of a dict -/
theorem call_lenD : CallR X (.builtin "len") (fun xs H Q => ∃ a kvs, xs = [V.ref a] ∧ H a = some (.dK kvs) ∧ Q (.int kvs.length) H) := by
  intro pins s σ H xs us Q I r h
  obtain ⟨a, kvs, rfl, ha, q⟩ := h
  obtain ⟨u, rfl, ru⟩ := vals1 r
  cases ru
  exact d_len I (.inl ha) fun t s' I' => ⟨.int kvs.length, H, I', ⟨t, rfl⟩, q⟩
end

/-! ### tests -/
theorem iteF {A B : Prop} (h : B) : if false = true then A else B := by
  rw [if_neg Bool.false_ne_true]
  exact h
theorem iteT {A B : Prop} (h : A) : if true = true then A else B := by
  rw [if_pos rfl]
  exact h
theorem ite2 {c A B : Prop} [Decidable c] (h1 : c → A) (h2 : ¬ c → B) : if c then A else B := by
  by_cases h : c
  · rw [if_pos h]
    exact h1 h
  · rw [if_neg h]
    exact h2 h
theorem iteNS {c A B : Prop} [Decidable c] (hc : c) (h : B) : if (!decide c) = true then A else B := by
  rw [decide_eq_true hc]
  exact iteF h

/-! ### heaps -/
/-- all that was tracked is as it was -/
def Same (H H' : Hp) : Prop := ∀ b o, H b = some o → H' b = some o
theorem Same.refl (H : Hp) : Same H H := fun _ _ h => h
theorem Same.trans {H H1 H2 : Hp} (a : Same H H1) (b : Same H1 H2) : Same H H2 := fun c o h => b c o (a c o h)
theorem Same.free {H H' : Hp} (e : Same H H') {l : Addr} (h : H' l = Option.none) : H l = Option.none := by
  cases q : H l with
  | none => rfl
  | some o =>
    rw [e l o q] at h
    cases h
theorem Same.seq {K : PySem.W.Frag} {H H' : Hp} {a : Addr} {xs : List V} (e : Same H H') (h : SqL K H a xs) : SqL K H' a xs := by
  rcases h with (h | ⟨o, h⟩) | h
  · exact .inl (.inl (e _ _ h))
  · exact .inl (.inr ⟨o, e _ _ h⟩)
  · exact .inr h

/-! ### a dict's pairs: keys that differ -/
section
variable {κ : Type} [DecidableEq κ]
theorem valV_not {kvs : List (κ × V)} {k : κ} (h : valV kvs k = none) : ¬ k ∈ kvs.map (·.1) := by
  intro m
  obtain ⟨p, hp, e⟩ := List.mem_map.mp m
  have q : (kvs.any fun kv => decide (kv.1 = k)) = true := List.any_eq_true.mpr ⟨p, hp, decide_eq_true e⟩
  rw [valV_any, h] at q
  exact absurd q (by simp)
theorem valV_in {kvs : List (κ × V)} {k : κ} {v : V} (h : valV kvs k = some v) : k ∈ kvs.map (·.1) := by
  have q : (kvs.any fun kv => decide (kv.1 = k)) = true := by
    rw [valV_any, h]
    all_goals rfl
  obtain ⟨p, hp, e⟩ := List.any_eq_true.mp q
  exact List.mem_map.mpr ⟨p, hp, of_decide_eq_true e⟩
theorem nd_snoc : ∀ {l : List κ} {k : κ}, l.Nodup → ¬ k ∈ l → (l ++ [k]).Nodup
  | [], k, _, _ => by simp
  | a :: r, k, h, hk => by
    obtain ⟨h1, h2⟩ := List.nodup_cons.mp h
    show (a :: (r ++ [k])).Nodup
    refine List.nodup_cons.mpr ⟨fun m => ?_, nd_snoc h2 fun m => hk (List.mem_cons.mpr (Or.inr m))⟩
    rcases List.mem_append.mp m with q | q
    · exact h1 q
    · exact hk (List.mem_cons.mpr (Or.inl (List.mem_singleton.mp q).symm))
theorem nd_putK {kvs : List (κ × V)} {k : κ} (v : V) (hn : (kvs.map (·.1)).Nodup) (h : valV kvs k = none) : ((putK kvs k v).map (·.1)).Nodup := by
  rw [putK_new v h, List.map_append]
  exact nd_snoc hn (valV_not h)
theorem dropK_pos {p : κ × V} {r : List (κ × V)} {k : κ} (e : p.1 = k) : dropK (p :: r) k = dropK r k := by
  unfold dropK
  rw [List.filter_cons, if_neg (by simp [e])]
theorem dropK_neg {p : κ × V} {r : List (κ × V)} {k : κ} (e : ¬ p.1 = k) : dropK (p :: r) k = p :: dropK r k := by
  unfold dropK
  rw [List.filter_cons, if_pos (by simp [e])]
theorem dropK_no : ∀ {kvs : List (κ × V)} {k : κ}, ¬ k ∈ kvs.map (·.1) → dropK kvs k = kvs
  | [], _, _ => rfl
  | p :: r, k, h => by
    have h' : ¬ k ∈ r.map (·.1) := fun m => by
      obtain ⟨q, hq, e⟩ := List.mem_map.mp m
      exact h (List.mem_map.mpr ⟨q, List.mem_cons.mpr (Or.inr hq), e⟩)
    rw [dropK_neg fun e => h (List.mem_map.mpr ⟨p, List.mem_cons.mpr (Or.inl rfl), e⟩), dropK_no h']
theorem dropK_mem {kvs : List (κ × V)} {k : κ} {p : κ × V} (h : p ∈ dropK kvs k) : p ∈ kvs := (List.mem_filter.mp h).1
theorem nd_dropK : ∀ {kvs : List (κ × V)} {k : κ}, (kvs.map (·.1)).Nodup → ((dropK kvs k).map (·.1)).Nodup
  | [], _, _ => List.nodup_nil
  | p :: r, k, h => by
    have h : (p.1 :: r.map (·.1)).Nodup := h
    obtain ⟨h1, h2⟩ := List.nodup_cons.mp h
    by_cases e : p.1 = k
    · rw [dropK_pos e]
      exact nd_dropK h2
    · rw [dropK_neg e]
      show (p.1 :: (dropK r k).map (·.1)).Nodup
      refine List.nodup_cons.mpr ⟨fun m => h1 ?_, nd_dropK h2⟩
      obtain ⟨q, hq, eq⟩ := List.mem_map.mp m
      exact List.mem_map.mpr ⟨q, dropK_mem hq, eq⟩
theorem dropK_len : ∀ {kvs : List (κ × V)} {k : κ}, (kvs.map (·.1)).Nodup → k ∈ kvs.map (·.1) → (dropK kvs k).length + 1 = kvs.length
  | [], _, _, m => by simp at m
  | p :: r, k, h, m => by
    have h : (p.1 :: r.map (·.1)).Nodup := h
    have m : k = p.1 ∨ k ∈ r.map (·.1) := List.mem_cons.mp m
    obtain ⟨h1, h2⟩ := List.nodup_cons.mp h
    by_cases e : p.1 = k
    · subst e
      rw [dropK_pos rfl, dropK_no h1]
      all_goals rfl
    · have m' : k ∈ r.map (·.1) := m.resolve_left fun z => e z.symm
      have q := dropK_len h2 m'
      rw [dropK_neg e, List.length_cons, List.length_cons]
      omega
end
end L2
namespace HT
open PySem PyProof.Rows

/-- t < u of tuples of ints -/
def lexLt : List Int → List Int → Bool
  | [], [] => false
  | [], _ :: _ => true
  | _ :: _, [] => false
  | x :: xs, y :: ys => if x = y then lexLt xs ys else decide (x < y)
theorem lexLt_cons (x y : Int) (xs ys : List Int) : lexLt (x :: xs) (y :: ys) = if x = y then lexLt xs ys else decide (x < y) := rfl
theorem lexLt_nil_nil : lexLt [] [] = false := rfl
theorem lexLt_nil_cons (y : Int) (ys : List Int) : lexLt [] (y :: ys) = true := rfl
theorem lexLt_cons_nil (x : Int) (xs : List Int) : lexLt (x :: xs) [] = false := rfl

theorem eqAt_int (A : Around) (s : Shared) (a : Int) (t : Tok) (c : Int) (u : Tok) : ∃ e, SeqAt.EqAt A s (.int a t) (.int c u) e ∧ (e = true ↔ a = c) :=
  ⟨(a == c), SeqAt.EqAt.int_int a t c u, by simp⟩
theorem rcLt_int (A : Around) (s : Shared) (a : Int) (t : Tok) (c : Int) (u : Tok) (prog : Program) (w : World) (E : Value → Shared → Prop) (Q : Value → Shared → Prop) (h : Q (.bool (decide (a < c))) s) :
    wpAny (model prog w) A (richCompare .Lt (.int a t) (.int c u)) Q E s :=
  (PyProof.Rows.lt_int h : wpAny (model prog w) A (compareOp .Lt (.int a t) (.int c u)) Q E s)

section
open PySem.SeqAt
open PySem.AutoSeq1 (wpAny_loadPart')
open PySem.MeetsSeq PySem.MeetsSeq2 PySem.MeetsSeq3

theorem tuple_lt_ints (l b : Addr) (items items2 : Array Value) (n n2 : Nat) (dd dd2 : Option Addr) (sl sl2 : Array (Option Value)) (ns ms : List Int) (hi : IntsAre items.toList ns) (hj : IntsAre items2.toList ms) :
    Meets (Builtin.«tuple.__lt__» ⟨[.ref l, .ref b], []⟩)
      (fun _ R s => s.heap.get? l = some { cls := .type "tuple", dict := dd, data := .seq items n, slots := sl } ∧ s.heap.get? b = some { cls := .type "tuple", dict := dd2, data := .seq items2 n2, slots := sl2 } ∧
        R (.ok (.ret (.bool (lexLt ns ms)))) s) :=
  .of_wp fun prog w A R s h => by
    obtain ⟨hp, g, d, tk, os⟩ := s; obtain ⟨hl, hb, h⟩ := h
    have f2 := AutoSeq1.sub_tuple_tuple
    have z1 : items.size = ns.length := by rw [← hi.length]; simp
    have z2 : items2.size = ms.length := by rw [← hj.length]; simp
    wp_walk using wpAny_loadPart' hl, wpAny_loadPart' hb, wpAny_forIn_list _ (fun rest b s' => b.1 = none ∧ s' = ⟨hp, g, d, tk, os⟩ ∧ ∃ (vs ws : List Value) (ns' ms' : List Int), rest = vs.zip ws ∧
      IntsAre vs ns' ∧ IntsAre ws ms' ∧ ns'.length + items2.size = ms'.length + items.size ∧ R (.ok (.ret (.bool (lexLt ns' ms')))) ⟨hp, g, d, tk, os⟩) _
    case turn =>
      rintro ⟨y, x⟩ rest b s' ⟨hb', rfl, vs, ws, ns', ms', hz, hvi, hwi, hlen, hR⟩
      cases hvi with
      | nil => rw [List.zip_nil_left] at hz; cases hz
      | cons a t hvi' =>
        cases hwi with
        | nil => rw [List.zip_nil_right] at hz; cases hz
        | cons c u hwi' =>
          rw [List.zip_cons_cons] at hz
          injection hz with hyx hrest
          injection hyx with hy hx
          subst hy hx
          rw [lexLt_cons] at hR
          simp only [List.length_cons] at hlen
          obtain ⟨e, he, hiff⟩ := eqAt_int A.in1 ⟨hp, g, d, tk, os⟩ a t c u
          refine wpAny_bind (he prog w _ _ ?_)
          cases e with
          | true =>
            rw [if_pos (hiff.mp rfl)] at hR
            wp_walk
            exact ⟨rfl, rfl, _, _, _, _, hrest, hvi', hwi', by omega, hR⟩
          | false =>
            rw [if_neg (fun q => absurd (hiff.mpr q) Bool.false_ne_true)] at hR
            have hri := rcLt_int A.in1 ⟨hp, g, d, tk, os⟩ a t c u prog w
            wp_walk using hri
            exact ⟨_, rfl, by simpa using hR⟩
    case fin =>
      rintro ⟨b1, b2⟩ s' ⟨hb', rfl, vs, ws, ns', ms', hz, hvi, hwi, hlen, hR⟩
      simp only at hb'
      subst hb'
      have hv : lexLt ns' ms' = decide (items.size < items2.size) := by
        cases hvi with
        | nil =>
          cases hwi with
          | nil =>
            simp only [List.length_nil] at hlen
            rw [lexLt_nil_nil]
            exact (decide_eq_false (by omega)).symm
          | cons c u hw =>
            simp only [List.length_nil, List.length_cons] at hlen
            rw [lexLt_nil_cons]
            exact (decide_eq_true (by omega)).symm
        | cons a t hv =>
          cases hwi with
          | nil =>
            simp only [List.length_nil, List.length_cons] at hlen
            rw [lexLt_cons_nil]
            exact (decide_eq_false (by omega)).symm
          | cons c u hw =>
            rw [List.zip_cons_cons] at hz
            cases hz
      rw [hv] at hR
      wp_walk
      exact ⟨_, rfl, by simpa [Builtin.Tuple.tupleCompareSizes] using hR⟩
    case h =>
      exact ⟨rfl, rfl, items.toList, items2.toList, ns, ms, rfl, hi, hj, by omega, h⟩
end

section
variable {prog : Program} {w : World} {A : Around} {E : Value → Shared → Prop} {s : Shared}

theorem lt_tupInts {l b : Addr} {items items2 : Array Value} {ns ms : List Int} {Q : Value → Shared → Prop} (hl : IsTup s.heap l items) (hb : IsTup s.heap b items2) (hi : IntsAre items.toList ns) (hj : IntsAre items2.toList ms)
    (hu : A.units < cLine) (h : Q (.bool (lexLt ns ms)) s) : wpAny (model prog w) A (compareOp .Lt (.ref l) (.ref b)) Q E s := by
  obtain ⟨⟨cls, dd, data, sl⟩, ho, hc, n, hd⟩ := id hl
  obtain ⟨⟨cls2, dd2, data2, sl2⟩, ho2, hc2, n2, hd2⟩ := id hb
  simp only at hc hd hc2 hd2
  subst hc hd hc2 hd2
  exact richCompare_meets_room (op := .Lt) ⟨_, ho, rfl⟩ ⟨_, ho2, rfl⟩ PySem.F.slot_tuple_lt PySem.F.entry_tuple_lt (PySem.F.args_tuple_lt_2 _ _) (tuple_lt_ints l b items items2 n n2 dd dd2 sl sl2 ns ms hi hj)
    ⟨ho, ho2, show Value.bool (lexLt ns ms) ≠ Value.notImplemented ∧ Q (.bool (lexLt ns ms)) s from ⟨(fun x => nomatch x), h⟩⟩ hu

/-- t + u, t not empty -/
theorem cat_tup {t b : Addr} {vs ws : List Value} {Q : Value → Shared → Prop} (ht : IsTup s.heap t vs.toArray) (hb : IsTup s.heap b ws.toArray) (hv : vs ≠ [])
    (h1 : ws = [] → Q (.ref t) s) (h2 : ws ≠ [] → Q (.ref s.heap.objs.size) { s with heap := s.heap.push { cls := .type "tuple", data := .seq (vs ++ ws).toArray } })
    (hsz : vs.length + ws.length ≤ sizeLine) : wpAny (model prog w) A (binaryOp .Add (.ref t) (.ref b)) Q E s := by
  obtain ⟨⟨cls, dd, data, sl⟩, ho, hc, n, hd⟩ := id ht
  obtain ⟨⟨cls2, dd2, data2, sl2⟩, ho2, hc2, n2, hd2⟩ := id hb
  simp only at hc hd hc2 hd2
  subst hc hd hc2 hd2
  have e : vs.toArray ++ ws.toArray = (vs ++ ws).toArray := by simp
  by_cases hw : ws = []
  · exact concat_meets ⟨_, ho, rfl⟩ ⟨_, ho2, rfl⟩ noFill_tuple_add seq_tuple_add PySem.F.slot_tuple_add PySem.F.entry_tuple_add (PySem.F.args_tuple_add_2 _ _)
      (tuple_addW1 t b vs.toArray ws.toArray n n2 dd dd2 sl sl2 (by simpa using hv) (by simp [hw])) ⟨ho, ho2, h1 hw⟩
  · refine concat_meets ⟨_, ho, rfl⟩ ⟨_, ho2, rfl⟩ noFill_tuple_add seq_tuple_add PySem.F.slot_tuple_add PySem.F.entry_tuple_add (PySem.F.args_tuple_add_2 _ _)
      (tuple_addW2 t b vs.toArray ws.toArray n n2 dd dd2 sl sl2 (by simpa using hv) (by simpa using hw) (by rw [List.size_toArray, List.size_toArray]; exact hsz)) ⟨ho, ho2, ?_⟩
    rw [e]
    exact h2 hw

/-! ### t[a:b], not the whole -/
/-- a slice's bound as a place among n (d where it is left out) -/
def sIx (n d : Nat) : Option Int → Nat
  | none => d
  | some v => if v < 0 then (v + (n : Int)).toNat else min v.toNat n
theorem sIx_none (n d : Nat) : sIx n d none = d := rfl
theorem sIx_nat (n d k : Nat) : sIx n d (some (k : Int)) = min k n := by
  show (if (k : Int) < 0 then ((k : Int) + (n : Int)).toNat else min (k : Int).toNat n) = min k n
  rw [if_neg (by omega), Int.toNat_natCast]
theorem sIx_le (n d : Nat) (hd : d ≤ n) (o : Option Int) : sIx n d o ≤ n := by
  cases o with
  | none => exact hd
  | some v =>
    show (if v < 0 then (v + (n : Int)).toNat else min v.toNat n) ≤ n
    by_cases hv : v < 0
    · rw [if_pos hv]; omega
    · rw [if_neg hv]; exact Nat.min_le_right _ _
theorem clip_eq (v : Int) (n d : Nat) : (if v < 0 then max (v + (n : Int)) 0 else min v (n : Int)) = ((sIx n d (some v) : Nat) : Int) := by
  show (if v < 0 then max (v + (n : Int)) 0 else min v (n : Int)) = (((if v < 0 then (v + (n : Int)).toNat else min v.toNat n) : Nat) : Int)
  by_cases hv : v < 0
  · simp only [if_pos hv]; omega
  · simp only [if_neg hv]; omega
theorem adjust_gen (lo hi : Option Int) (n : Nat) : Builtin.Slice.sliceAdjust lo hi 1 (n : Int) = (((sIx n 0 lo : Nat) : Int), ((sIx n n hi : Nat) : Int)) := by
  have h1 : ¬ ((1 : Int) < 0) := by omega
  unfold Builtin.Slice.sliceAdjust
  simp only [h1, if_false]
  refine Prod.ext ?_ ?_
  · cases lo with
    | none => rfl
    | some v => exact clip_eq v n 0
  · cases hi with
    | none => rfl
    | some v => exact clip_eq v n n
theorem places_gen (i j : Nat) : Builtin.Slice.slicePlaces (i : Int) (j : Int) 1 = j - i := by
  unfold Builtin.Slice.slicePlaces
  have h1 : (1 : Int) > 0 := by omega
  simp only [h1, if_true, Int.ediv_one]
  split <;> omega
theorem slicePart_ {v : Value} {o : Option Int} {Q : Option Int → Shared → Prop} (p : IsPart v o) (h : Q o s) : wpAny (model prog w) A (Builtin.Slice.slicePartIndex v) Q E s := by
  cases p with
  | none => exact slicePart_none h
  | int i t => exact slicePart_int h
theorem sliceApplied_gen {sl : Addr} {vl vu : Value} {lo hi : Option Int} {n : Nat} {Q : Int × Int × Nat → Shared → Prop} (hs : s.heap.IsSliceOf sl vl vu .none) (pl : IsPart vl lo) (pu : IsPart vu hi)
    (h : Q (((sIx n 0 lo : Nat) : Int), 1, sIx n n hi - sIx n 0 lo) s) : wpAny (model prog w) A (Builtin.Slice.sliceApplied (.ref sl) (pure (n : Int))) Q E s := by
  obtain ⟨os, hos, hcs, hds⟩ := id hs
  unfold Builtin.Slice.sliceApplied Builtin.Slice.sliceFields
  refine wpAny_bind (wpAny_bind (wpAny_field hos hds (x := vl) rfl (wpAny_bind (wpAny_field hos hds (x := vu) rfl (wpAny_bind (wpAny_field hos hds (x := .none) rfl (wpAny_pure ?_)))))))
  refine wpAny_bind (slicePart_none ?_)
  show wpAny _ _ (if ((1 : Int) == 0) = true then _ else _) _ _ s
  rw [if_neg (by decide)]
  refine wpAny_bind (slicePart_ pl (wpAny_bind (slicePart_ pu (wpAny_bind (wpAny_pure ?_)))))
  show wpAny _ _ (match Builtin.Slice.sliceAdjust lo hi 1 (n : Int) with | (lo, hi) => pure (lo, (1 : Int), Builtin.Slice.slicePlaces lo hi 1)) _ _ s
  rw [adjust_gen lo hi n]
  show wpAny _ _ (pure (((sIx n 0 lo : Nat) : Int), (1 : Int), Builtin.Slice.slicePlaces ((sIx n 0 lo : Nat) : Int) ((sIx n n hi : Nat) : Int) 1)) _ _ s
  rw [places_gen]
  exact wpAny_pure h
theorem pick_gen (xs : Array Value) (i k : Nat) : ((List.range k).filterMap fun (m : Nat) => xs[((i : Int) + (m : Int) * 1).toNat]?).toArray = ((xs.toList.drop i).take k).toArray := by
  have e : (fun (m : Nat) => xs[((i : Int) + (m : Int) * 1).toNat]?) = fun m => xs[i + m]? := by
    funext m
    have : ((i : Int) + (m : Int) * 1).toNat = i + m := by omega
    rw [this]
  rw [e]
  have := pick_run xs i k
  rw [List.filterMap_map] at this
  have e2 : ((fun x => xs[x]?) ∘ fun x => i + x) = fun m => xs[i + m]? := rfl
  rw [e2] at this
  rw [this]

theorem getItem_tuple_cut {t sl : Addr} {items : Array Value} {vl vu : Value} {lo hi : Option Int} {Q : Value → Shared → Prop} (ht : IsTup s.heap t items) (hs : s.heap.IsSliceOf sl vl vu .none) (pl : IsPart vl lo) (pu : IsPart vu hi)
    (hw : ¬ (sIx items.size 0 lo = 0 ∧ sIx items.size items.size hi = items.size))
    (h : Q (.ref s.heap.objs.size) { s with heap := s.heap.push { cls := .type "tuple", data := .seq ((items.toList.drop (sIx items.size 0 lo)).take (sIx items.size items.size hi - sIx items.size 0 lo)).toArray } })
    (hsz : items.size ≤ sizeLine) : wpAny (model prog w) A (getItem (.ref t) (.ref sl)) Q E s := by
  have htake : sizeOk (.seq ((items.toList.drop (sIx items.size 0 lo)).take (sIx items.size items.size hi - sIx items.size 0 lo)).toArray) := by
    show ((items.toList.drop (sIx items.size 0 lo)).take (sIx items.size items.size hi - sIx items.size 0 lo)).toArray.size ≤ sizeLine
    rw [List.size_toArray, List.length_take, List.length_drop, Array.length_toList]
    omega
  have hj : sIx items.size items.size hi ≤ items.size := sIx_le _ _ (Nat.le_refl _) hi
  obtain ⟨os, hos, hcs, hds⟩ := id hs
  have hTs : s.TypeIs (.ref sl) "slice" := ⟨os, hos, hcs⟩
  unfold getItem
  try with_reducible refine wpAny_holding ?_
  first | refine wpAny_bind (wpAny_pure ?_) | skip
  refine wpAny_bind (wpAny_sequenceKey ht.typeIs (by decide) ?_)
  refine wpAny_bind (wpAny_callSpecial?_slot (name := Str.ofString "__getitem__") ht.typeIs PyProof.Rows.slot_tuple_getitem
    (wpAny_call_entry PyProof.Rows.slot_tuple_getitem ht.typeIs entry_tuple_getitem ?_ (args_tuple_getitem _ _)))
  show wpAny _ _ (Builtin.Tuple.tupleItemsOf (.ref t) >>= _) _ _ s
  refine wpAny_bind (tupleItemsOf_ ht ?_)
  refine wpAny_bind (wpAny_typeOf hTs ?_)
  rw [if_pos (by decide)]
  refine wpAny_bind (sliceApplied_gen hs pl pu ?_)
  have hno : ¬ ((((sIx items.size 0 lo : Nat) : Int) == 0 && (1 : Int) == 1 && (sIx items.size items.size hi - sIx items.size 0 lo) == items.size) = true) := by
    intro q
    rw [Bool.and_eq_true, Bool.and_eq_true] at q
    have q1 : ((sIx items.size 0 lo : Nat) : Int) = 0 := eq_of_beq q.1.1
    have q2 : sIx items.size items.size hi - sIx items.size 0 lo = items.size := eq_of_beq q.2
    exact hw ⟨by omega, by omega⟩
  show wpAny _ _ (if (((sIx items.size 0 lo : Nat) : Int) == 0 && (1 : Int) == 1 && (sIx items.size items.size hi - sIx items.size 0 lo) == items.size) = true then _ else _) _ _ s
  rw [if_neg hno, pick_gen]
  first
    | exact wpAny_bind (m := Builtin.Tuple.tupleExact _) (wpAny_newObj_type (wpAny_pure ⟨_, rfl, wpAny_pure h⟩) htake)
    | exact wpAny_bind (m := Builtin.Tuple.tupleExact _) (wpAny_newObj_type (wpAny_bind (wpAny_pure (wpAny_pure ⟨_, rfl, wpAny_pure h⟩))) htake)
    | exact wpAny_bind (wpAny_bind (m := Builtin.Tuple.tupleExact _) (wpAny_newObj_type (wpAny_pure (wpAny_pure ⟨_, rfl, wpAny_pure h⟩)) htake))
    | exact wpAny_bind (wpAny_bind (m := Builtin.Tuple.tupleExact _) (wpAny_newObj_type (wpAny_pure ⟨_, rfl, wpAny_pure h⟩) htake))
end
end HT

namespace L2
open PySem PySem.Spec PyProof.Rows

/-! ### the parts of a slice -/
abbrev TO := St → Hp → (Option Int → Hp → Prop) → Prop
/-- a slice's part (left out, or an int) -/
def PO (X : Cx) (e : Option Expr) (t : TO) : Prop :=
  ∀ (pins : List (Addr × Obj)) (s : Shared) (σ : St) (H : Hp) (Q : Option Int → Hp → Prop), Inv X pins σ H s → t σ H Q →
    wpAny (model X.prog X.w) X.A (evalPart e X.env) (fun u s' => ∃ o H', Inv X pins σ H' s' ∧ IsPart u o ∧ Q o H') X.xe s
def tNoPart : TO := fun _ H Q => Q none H
def tPart (t : TE) : TO := fun σ H Q => t σ H fun x H1 => ∃ i, x = .int i ∧ Q (some i) H1

theorem intsAre_of {ns : List Int} : ∀ {us : List Value}, Vals (ns.map V.int) us → IntsAre us ns := by
  induction ns with
  | nil => intro us r; rw [List.map_nil] at r; cases r; exact .nil
  | cons n ns ih =>
    intro us r
    rw [List.map_cons] at r
    cases r with
    | cons r1 r2 =>
      obtain ⟨t, e⟩ := r1
      subst e
      exact .cons n t (ih r2)

section
variable {X : Cx} {e : Expr} {te : TE} {lo hi : Option Expr} {tl th : TO} {pos p2 : Pos}

theorem po_none : PO X none tNoPart := by
  intro pins s σ H Q I h
  rw [evalPart_none]
  exact wpAny_pure ⟨none, H, I, .none, h⟩
theorem po_some (h : PE X e te) : PO X (some e) (tPart te) := by
  intro pins s σ H Q I hw
  rw [evalPart_some]
  refine thn (h pins s σ H _ I hw) fun u s1 ⟨x, H1, I1, r1, q1⟩ => ?_
  obtain ⟨i, rfl, q⟩ := q1
  obtain ⟨t, rfl⟩ := r1
  exact ⟨some i, H1, I1, .int i t, q⟩

/-- what a slice of a value is, by values: the slice object stands at sl -/
def SlR (X : Cx) (r : V → Option Int → Option Int → Hp → VK → Prop) : Prop :=
  ∀ (pins : List (Addr × Obj)) (s : Shared) (σ : St) (H : Hp) (x : V) (v vl vu : Value) (lo hi : Option Int) (sl : Addr) (Q : VK), Inv X pins σ H s → RelV x v → s.heap.IsSliceOf sl vl vu .none → IsPart vl lo → IsPart vu hi → r x lo hi H Q →
    ∃ T id, typeLookup (.type T) "__getitem__" = pure (some (.builtin id)) ∧ s.TypeIs v T ∧ wpAny (model X.prog X.w) X.A (getItem v (.ref sl)) (EP X pins σ Q) X.xe s
theorem SlR.or {r r' : V → Option Int → Option Int → Hp → VK → Prop} (h : SlR X r) (h' : SlR X r') : SlR X (fun x lo hi H Q => r x lo hi H Q ∨ r' x lo hi H Q) := by
  intro pins s σ H x v vl vu lo hi sl Q I rx hs pl pu q
  rcases q with q | q
  · exact h pins s σ H x v vl vu lo hi sl Q I rx hs pl pu q
  · exact h' pins s σ H x v vl vu lo hi sl Q I rx hs pl pu q
def tSl (r : V → Option Int → Option Int → Hp → VK → Prop) (te : TE) (tl th : TO) : TE := fun σ H Q => te σ H fun x H1 => tl σ H1 fun l H2 => th σ H2 fun u H3 => r x l u H3 Q
/-- a[lo:hi], any a -/
theorem pe_slice {r : V → Option Int → Option Int → Hp → VK → Prop} (hr : SlR X r) (he : PE X e te) (hl : PO X lo tl) (hu : PO X hi th) : PE X (.Subscript e (.Slice lo hi none p2) pos) (tSl r te tl th) := by
  intro pins s σ H Q I h
  refine Subscript_ (thn (he pins s σ H _ I h) fun v s1 ⟨x, H1, I1, r1, q1⟩ => ?_)
  refine wpAny_Slice (thn (hl pins s1 σ H1 _ I1 q1) fun vl s2 ⟨l, H2, I2, pl, q2⟩ => thn (hu pins s2 σ H2 _ I2 q2) fun vu s3 ⟨u, H3, I3, pu, q3⟩ => ?_)
  rw [evalPart_none]
  refine wpAny_pure ?_
  have I4 : Inv X pins σ H3 { s3 with heap := s3.heap.push { cls := .type "slice", data := .fields #[vl, vu, .none] } } := I3.kept (t' := s3.toks) fun b ob q => Heap.get?_push_of_some _ q
  obtain ⟨T, id, hT, ht, hg⟩ := hr pins { s3 with heap := s3.heap.push { cls := .type "slice", data := .fields #[vl, vu, .none] } } σ H3 x v vl vu l u s3.heap.objs.size Q I4 r1 (Heap.IsSliceOf.new ..) pl pu q3
  show wpAny (model X.prog X.w) X.A (subscriptTail e (.Slice lo hi none p2) v (.ref s3.heap.objs.size)) (EP X pins σ Q) X.xe { s3 with heap := s3.heap.push { cls := .type "slice", data := .fields #[vl, vu, .none] } }
  exact tail_any (ops := [.ref s3.heap.objs.size, v]) ht hT hg (by with_unfolding_all rfl)

/-- the items of xs[lo:hi] -/
def cutV (xs : List V) (lo hi : Option Int) : List V := (xs.drop (HT.sIx xs.length 0 lo)).take (HT.sIx xs.length xs.length hi - HT.sIx xs.length 0 lo)
theorem cutV_length (xs : List V) (lo hi : Option Int) : (cutV xs lo hi).length ≤ xs.length := by
  unfold cutV
  rw [List.length_take, List.length_drop]
  omega
/-- t[lo:hi], not the whole of it (the whole would be t itself) -/
def rSlT (K : PySem.W.Frag) : V → Option Int → Option Int → Hp → VK → Prop := fun x lo hi H Q => ∃ a xs, x = .ref a ∧ SqT K H a xs ∧
  ¬ (HT.sIx xs.length 0 lo = 0 ∧ HT.sIx xs.length xs.length hi = xs.length) ∧ ∀ p, H p = none → Q (.ref p) (upd H p (.tup (cutV xs lo hi)))
theorem sl_tup : SlR X (rSlT X.K) := by
  intro pins s σ H x v vl vu lo hi sl Q I rx hs pl pu h
  obtain ⟨a, xs, rfl, hx, hw, q⟩ := h
  cases rx
  obtain ⟨its, r, ht, hz⟩ := I.tuple hx
  have hlen : its.toArray.size = xs.length := by rw [List.size_toArray]; exact r.length.symm
  refine ⟨"tuple", _, PyProof.Rows.slot_tuple_getitem.lookup, ht.typeIs, ?_⟩
  refine HT.getItem_tuple_cut ht hs pl pu (by rw [hlen]; exact hw) ?_ (by rw [hlen]; exact hz)
  rw [hlen]
  refine ⟨.ref s.heap.objs.size, _, I.laid (t' := s.toks) (o := .tup (cutV xs lo hi)) (fun b ob q => Heap.get?_push_of_some _ q) (Nat.le_refl _) ?_, rfl, q _ (I.hok.fresh (Nat.le_refl _))⟩
  exact ⟨Nat.le_trans (cutV_length xs lo hi) hz, _, (r.drop (HT.sIx xs.length 0 lo)).take (HT.sIx xs.length xs.length hi - HT.sIx xs.length 0 lo), IsTup.new _ _⟩

/-! ### t < u, t + u -/
def rLtT (K : PySem.W.Frag) : R2 := fun x y H Q => ∃ a b ns ms, x = .ref a ∧ y = .ref b ∧ SqT K H a (ns.map V.int) ∧ SqT K H b (ms.map V.int) ∧ Q (.bl (HT.lexLt ns ms)) H
theorem op_ltT (hu : X.A.units < cLine) : OpR X (compareOp .Lt) (rLtT X.K) := by
  intro pins s σ H x y v u Q I rx ry h
  obtain ⟨a, b, ns, ms, rfl, rfl, ha, hb, q⟩ := h
  cases rx
  cases ry
  obtain ⟨its, r1, p1, _⟩ := I.tuple ha
  obtain ⟨its2, r2, p2, _⟩ := I.tuple hb
  have i1 : IntsAre its.toArray.toList ns := intsAre_of r1
  have i2 : IntsAre its2.toArray.toList ms := intsAre_of r2
  exact HT.lt_tupInts p1 p2 i1 i2 hu ⟨.bl (HT.lexLt ns ms), H, I, rfl, q⟩
/-- t + u, t not empty: u empty gives t itself -/
def rCatT (K : PySem.W.Frag) : R2 := fun x y H Q => ∃ a b xs ys, x = .ref a ∧ y = .ref b ∧ SqT K H a xs ∧ SqT K H b ys ∧ xs ≠ [] ∧ xs.length + ys.length ≤ sizeLine ∧
  (ys = [] → Q (.ref a) H) ∧ (ys ≠ [] → ∀ p, H p = none → Q (.ref p) (upd H p (.tup (xs ++ ys))))
theorem Vals.nil_iff {xs : List V} {us : List Value} (r : Vals xs us) : us = [] ↔ xs = [] := by
  cases r with
  | nil => simp
  | cons _ _ => simp
theorem op_catT : OpR X (binaryOp .Add) (rCatT X.K) := by
  intro pins s σ H x y v u Q I rx ry h
  obtain ⟨a, b, xs, ys, rfl, rfl, ha, hb, hx, hz, q1, q2⟩ := h
  cases rx
  cases ry
  obtain ⟨its, r1, p1, _⟩ := I.tuple ha
  obtain ⟨its2, r2, p2, _⟩ := I.tuple hb
  refine HT.cat_tup p1 p2 (fun z => hx (r1.nil_iff.mp z)) (fun z => ⟨.ref a, H, I, rfl, q1 (r2.nil_iff.mp z)⟩) (fun z => ?_) (by rw [← r1.length, ← r2.length]; exact hz)
  refine ⟨.ref s.heap.objs.size, _, I.laid (t' := s.toks) (o := .tup (xs ++ ys)) (fun b ob q => Heap.get?_push_of_some _ q) (Nat.le_refl _) ?_, rfl, q2 (fun w => z (r2.nil_iff.mpr w)) _ (I.hok.fresh (Nat.le_refl _))⟩
  exact ⟨by rw [List.length_append]; exact hz, _, r1.append r2, IsTup.new _ _⟩
/-- tuple(t) -/
theorem call_tupleT : CallR X (.type "tuple") (fun xs H Q => ∃ a ys, xs = [.ref a] ∧ SqT X.K H a ys ∧ Q (.ref a) H) := by
  intro pins s σ H xs us Q I r h
  obtain ⟨a, ys, rfl, ha, q⟩ := h
  obtain ⟨u, rfl, ru⟩ := vals1 r
  cases ru
  obtain ⟨its, _, p1, _⟩ := I.tuple ha
  exact call_tuple_same (items := its.toArray) p1 ⟨.ref a, H, I, rfl, q⟩
end
end L2

namespace L2
open PySem PySem.Spec PyProof.Rows

/-! ### places -/
/-- the place that an index of any sign means -/
def ixN (n : Nat) (i : Int) : Option Nat := if 0 ≤ i then (if i < n then some i.toNat else none) else if -(n : Int) ≤ i then some (i + n).toNat else none
def atI {α : Type} (xs : List α) (i : Int) : Option α := (ixN xs.length i).bind fun j => xs[j]?
theorem ixN_seq {n : Nat} {i : Int} {j : Nat} (h : ixN n i = some j) : seqIndex? i n = some j ∧ j < n ∧ -(n : Int) ≤ i ∧ i < n := by
  unfold ixN at h
  by_cases h0 : 0 ≤ i
  · rw [if_pos h0] at h
    by_cases h1 : i < n
    · rw [if_pos h1] at h
      have e : i.toNat = j := Option.some.inj h
      exact ⟨by rw [seqIndex_of h0 h1, e], by omega, by omega, h1⟩
    · rw [if_neg h1] at h; cases h
  · rw [if_neg h0] at h
    by_cases h1 : -(n : Int) ≤ i
    · rw [if_pos h1] at h
      have e : (i + n).toNat = j := Option.some.inj h
      exact ⟨by rw [seqIndex_neg (by omega) h1, e], by omega, h1, by omega⟩
    · rw [if_neg h1] at h; cases h
theorem atI_get {α : Type} {xs : List α} {i : Int} {v : α} (h : atI xs i = some v) : ∃ j, seqIndex? i xs.length = some j ∧ xs[j]? = some v ∧ j < xs.length ∧ -(xs.length : Int) ≤ i ∧ i < xs.length := by
  unfold atI at h
  cases e : ixN xs.length i with
  | none => rw [e] at h; cases h
  | some j =>
    rw [e] at h
    obtain ⟨h1, h2, h3, h4⟩ := ixN_seq e
    exact ⟨j, h1, h, h2, h3, h4⟩
theorem atI_nat {α : Type} {xs : List α} {j : Nat} {v : α} (h : xs[j]? = some v) : atI xs (j : Int) = some v := by
  have hj : j < xs.length := (List.getElem?_eq_some_iff.mp h).1
  have e : ixN xs.length (j : Int) = some j := by
    unfold ixN
    rw [if_pos (by omega), if_pos (by omega)]; simp
  unfold atI; rw [e]; exact h
theorem atI_last {α : Type} (xs : List α) (v : α) : atI (xs ++ [v]) (-1) = some v := by
  have hl : (xs ++ [v]).length = xs.length + 1 := by simp
  have e : ixN (xs ++ [v]).length (-1) = some xs.length := by
    unfold ixN
    rw [hl, if_neg (by decide), if_pos (by omega)]
    congr 1
    omega
  unfold atI
  rw [e]
  show (xs ++ [v])[xs.length]? = some v
  simp

/-! ### what may be subscripted -/
/-- what stands as an index of a plain subscript -/
def PlainIx (b : Expr) : Prop := ∀ o i, subscripted b false o i = operate [o, i] (getItem o i)
/-- a subscript by values -/
def IxR (X : Cx) (r : R2) : Prop :=
  ∀ (value slice : Expr) (pins : List (Addr × Obj)) (s : Shared) (σ : St) (H : Hp) (x y : V) (v u : Value) (Q : VK), Inv X pins σ H s → RelV x v → RelV y u → r x y H Q →
    subscripted slice false v u = operate [v, u] (getItem v u) → wpAny (model X.prog X.w) X.A (subscriptTail value slice v u) (EP X pins σ Q) X.xe s
/-- a call of a builtin's method by values: the receiver, the arguments -/
def MtR (X : Cx) (id : String) (r : V → List V → Hp → VK → Prop) : Prop :=
  ∀ (pins : List (Addr × Obj)) (s : Shared) (σ : St) (H : Hp) (x : V) (xs : List V) (v : Value) (us : List Value) (Q : VK), Inv X pins σ H s → RelV x v → Vals xs us → r x xs H Q →
    wpAny (model X.prog X.w) X.A (call (.builtin id) (v :: us)) (EP X pins σ Q) X.xe s
section
variable {X : Cx} {a b : Expr} {ta tb : TE} {pos : Pos}
theorem IxR.or {r r' : R2} (h : IxR X r) (h' : IxR X r') : IxR X (fun x y H Q => r x y H Q ∨ r' x y H Q) := by
  intro value slice pins s σ H x y v u Q I rx ry q hs
  rcases q with q | q
  · exact h value slice pins s σ H x y v u Q I rx ry q hs
  · exact h' value slice pins s σ H x y v u Q I rx ry q hs
theorem MtR.or {id : String} {r r' : V → List V → Hp → VK → Prop} (h : MtR X id r) (h' : MtR X id r') : MtR X id (fun x xs H Q => r x xs H Q ∨ r' x xs H Q) := by
  intro pins s σ H x xs v us Q I rx rs q
  rcases q with q | q
  · exact h pins s σ H x xs v us Q I rx rs q
  · exact h' pins s σ H x xs v us Q I rx rs q
/-- a[b] -/
theorem pe_ix {r : R2} (hr : IxR X r) (ha : PE X a ta) (hb : PE X b tb) (hs : PlainIx b) : PE X (.Subscript a b pos) (tOp r ta tb) := by
  intro pins s σ H Q I h
  exact Subscript_ (binT ha hb I h fun v u s2 x y H2 I2 rx ry q => hr a b pins s2 σ H2 x y v u Q I2 rx ry q (hs _ _))

def rIxL (K : PySem.W.Frag) : R2 := fun x y H Q => ∃ p xs i v, x = .ref p ∧ y = .int i ∧ SqL K H p xs ∧ atI xs i = some v ∧ Q v H
def rIxT (K : PySem.W.Frag) : R2 := fun x y H Q => ∃ p xs i v, x = .ref p ∧ y = .int i ∧ SqT K H p xs ∧ atI xs i = some v ∧ Q v H
def rIxS : R2 := fun x y H Q => ∃ z i c, x = .str z ∧ y = .int i ∧ z.length ≤ sizeLine ∧ atI z.cps.toList i = some c ∧ Q (.str ⟨#[c]⟩) H
theorem ix_list : IxR X (rIxL X.K) := by
  intro value slice pins s σ H x y v u Q I rx ry h hs
  obtain ⟨p, xs, i, z, rfl, rfl, hq, he, q⟩ := h
  cases rx
  obtain ⟨t, rfl⟩ := ry
  obtain ⟨its, r, pl, hz⟩ := I.list hq
  obtain ⟨j, h1, h2, h3, h4, h5⟩ := atI_get he
  obtain ⟨w, ew, rw'⟩ := r.get h2
  have hl := r.length
  have hn := line63
  have fin : EP X pins σ Q w s := ⟨z, H, I, rw', q⟩
  by_cases h0 : 0 ≤ i
  · have hj : i.toNat = j := by
      rw [seqIndex_of h0 h5] at h1
      exact Option.some.inj h1
    exact item_listR pl.isList h0 (by omega) (by rw [hj]; simpa using ew) fin hs
  · have hj : (i + (its.toArray.size : Int)).toNat = j := by
      rw [seqIndex_neg (by omega) h4] at h1
      rw [List.size_toArray, ← hl]
      exact Option.some.inj h1
    exact subscriptTail_builtinR (x := w) pl.isList.typeIs slot_list_getitem.lookup
      (wpAny_getItem_list_neg (Q := fun r s' => r = w ∧ EP X pins σ Q r s') pl.isList (by omega) (by rw [List.size_toArray] <;> omega) (by omega) (by rw [hj]; simpa using ew) ⟨rfl, fin⟩) hs
theorem ix_tup : IxR X (rIxT X.K) := by
  intro value slice pins s σ H x y v u Q I rx ry h hs
  obtain ⟨p, xs, i, z, rfl, rfl, hq, he, q⟩ := h
  cases rx
  obtain ⟨t, rfl⟩ := ry
  obtain ⟨its, r, pl, hz⟩ := I.tuple hq
  obtain ⟨j, h1, h2, h3, h4, h5⟩ := atI_get he
  obtain ⟨w, ew, rw'⟩ := r.get h2
  have hl := r.length
  have hn := line63
  have fin : EP X pins σ Q w s := ⟨z, H, I, rw', q⟩
  exact subscriptTail_builtinR (x := w) pl.typeIs slot_tuple_getitem.lookup
    (getItem_tuple (j := j) (Q := fun r s' => r = w ∧ EP X pins σ Q r s') pl (by omega) (by omega) (by rw [List.size_toArray, ← hl]; exact h1) (by simpa using ew) ⟨rfl, fin⟩) hs
theorem ix_str : IxR X rIxS := by
  intro value slice pins s σ H x y v u Q I rx ry h hs
  obtain ⟨z, i, c, rfl, rfl, hz, he, q⟩ := h
  obtain ⟨t, rfl⟩ := rx
  obtain ⟨t', rfl⟩ := ry
  obtain ⟨j, h1, h2, h3, h4, h5⟩ := atI_get he
  have hl : z.cps.toList.length = z.length := by simp [Str.length]
  rw [hl] at h1 h4 h5
  have hn := line63
  exact tail_any (typeIs_str s z t) slot_str_getitem.lookup (getItem_str (c := c) (by
    have e1 : decide (i < -(2 ^ 63 : Int)) = false := decide_eq_false (by omega)
    have e2 : decide (i ≥ 2 ^ 63) = false := decide_eq_false (by omega)
    rw [e1, e2, Bool.or_false]) (by rw [h1]; simpa using h2) ⟨.str ⟨#[c]⟩, H, I.tok _, ⟨_, rfl⟩, q⟩) hs
/-- list, tuple or str -/
def rIx (K : PySem.W.Frag) : R2 := fun x y H Q => rIxL K x y H Q ∨ rIxT K x y H Q ∨ rIxS x y H Q
theorem ix_seq : IxR X (rIx X.K) := ix_list.or (ix_tup.or ix_str)

/-! ### xs[i] = v, any sign -/
/-- the list's object behind a store -/
theorem mapSeq_set (its : List Value) (n j : Nat) (u : Value) : Obj.mapSeq (·.setIfInBounds j u) { cls := .type "list", data := .seq its.toArray n } = { cls := .type "list", data := .seq (its.set j u).toArray n } := by
  simp [Obj.mapSeq]
theorem Inv.lst {pins : List (Addr × Obj)} {σ : St} {H : Hp} {s : Shared} {p : Addr} {xs : List V} (I : Inv X pins σ H s) (h : H p = some (.lst xs)) :
    ∃ (its : List Value) (n : Nat), Vals xs its ∧ s.heap.get? p = some { cls := .type "list", data := .seq its.toArray n } ∧ xs.length ≤ sizeLine := by
  obtain ⟨z, its, n, r, e⟩ := I.hok p _ h
  exact ⟨its, n, r, e, z⟩
/-- the list at p is written by an update of its object -/
theorem Inv.lstUpd {pins : List (Addr × Obj)} {σ : St} {H : Hp} {s : Shared} {p : Addr} {xs ys : List V} {its its' : List Value} {n n' : Nat} {f : Obj → Obj} (I : Inv X pins σ H s) (h : H p = some (.lst xs))
    (ho : s.heap.get? p = some { cls := .type "list", data := .seq its.toArray n }) (hf : f { cls := .type "list", data := .seq its.toArray n } = { cls := .type "list", data := .seq its'.toArray n' }) (r : Vals ys its') (hz : ys.length ≤ sizeLine) (t : Nat) :
    Inv X pins σ (upd H p (.lst ys)) { s with heap := s.heap.update p f, toks := t } := by
  have e : (s.heap.update p f).get? p = some { cls := .type "list", data := .seq its'.toArray n' } := by
    rw [Heap.get?_update_self f ho (by rw [hf] <;> rfl), hf]
  refine I.write (x := p) (e := p) (by rw [h]; trivial) (.inl rfl) (fun b u hb q => (Heap.get?_update_other _ _ (Ne.symm hb)).trans q) ⟨_, e⟩ ?_
  exact ⟨hz, its', n', r, e⟩
def rSetL : V → V → V → Hp → (Hp → Prop) → Prop := fun o i v H Q => ∃ p xs k j, o = .ref p ∧ i = .int k ∧ H p = some (.lst xs) ∧ ixN xs.length k = some j ∧ Q (upd H p (.lst (xs.set j v)))
theorem set_list : PSet X rSetL := by
  intro pins s σ H o i v ov iv u Q I ro ri rv h
  obtain ⟨p, xs, k, j, rfl, rfl, hp, hj, q⟩ := h
  cases ro
  obtain ⟨t, rfl⟩ := ri
  obtain ⟨its, n, r, ho, hz⟩ := I.lst hp
  obtain ⟨h1, h2, h3, h4⟩ := ixN_seq hj
  have hl := r.length
  have hn := line63
  have I' : Inv X pins σ (upd H p (.lst (xs.set j v))) { s with heap := s.heap.update p (Obj.mapSeq (·.setIfInBounds j u)) } :=
    I.lstUpd hp ho (mapSeq_set its n j u) (r.set rv j) (by rw [List.length_set]; exact hz) s.toks
  by_cases h0 : 0 ≤ k
  · have hk : k.toNat = j := by
      rw [seqIndex_of h0 h4] at h1
      exact Option.some.inj h1
    exact PySem.W.ki_setAt ho h0 (by omega) (by rw [List.size_toArray, ← hl]; exact h4) (by rw [hk]; exact ⟨_, I', q⟩)
  · have hk : (k + (its.toArray.size : Int)).toNat = j := by
      rw [seqIndex_neg (by omega) h3] at h1
      rw [List.size_toArray, ← hl]
      exact Option.some.inj h1
    exact PySem.W.ki_setBack ho (by omega) (by rw [List.size_toArray, ← hl]; exact h3) (by omega) (by rw [hk]; exact ⟨_, I', q⟩)

/-! ### slices -/
theorem slice_bounds (lo hi : Option Int) (n : Nat) : (sliceBounds lo hi none n).1 = ((HT.sIx n 0 lo : Nat) : Int) ∧ (sliceBounds lo hi none n).2.1 = ((HT.sIx n n hi : Nat) : Int) ∧ (sliceBounds lo hi none n).2.2 = 1 := by
  refine ⟨?_, ?_, rfl⟩
  · cases lo with
    | none => simp [sliceBounds, HT.sIx]
    | some i =>
      simp only [sliceBounds, HT.sIx, Option.getD_none, show (1 : Int) > 0 by decide, if_true]
      by_cases h : i < 0
      · simp only [h, if_true] <;> omega
      · simp only [h, if_false] <;> omega
  · cases hi with
    | none => simp [sliceBounds, HT.sIx]
    | some i =>
      simp only [sliceBounds, HT.sIx, Option.getD_none, show (1 : Int) > 0 by decide, if_true]
      by_cases h : i < 0
      · simp only [h, if_true] <;> omega
      · simp only [h, if_false] <;> omega
theorem slicePick_cut (its : List Value) (lo hi : Option Int) : slicePick its.toArray lo hi none = ((its.drop (HT.sIx its.length 0 lo)).take (HT.sIx its.length its.length hi - HT.sIx its.length 0 lo)).toArray := by
  obtain ⟨h1, h2, h3⟩ := slice_bounds lo hi its.toArray.size
  unfold slicePick
  rw [h1, h2, h3]
  simp only [sliceRange_one, pick_run, List.size_toArray] <;> rfl
/-- xs[lo:hi] of a list: a new list -/
def rSlL (K : PySem.W.Frag) : V → Option Int → Option Int → Hp → VK → Prop := fun x lo hi H Q => ∃ a xs, x = .ref a ∧ SqL K H a xs ∧ ∀ p, H p = none → Q (.ref p) (upd H p (.lst (cutV xs lo hi)))
theorem sl_list : SlR X (rSlL X.K) := by
  intro pins s σ H x v vl vu lo hi sl Q I rx hs pl pu h
  obtain ⟨a, xs, rfl, hx, q⟩ := h
  cases rx
  obtain ⟨its, r, ht, hz⟩ := I.list hx
  have hlen := r.length
  refine ⟨"list", _, slot_list_getitem.lookup, ht.isList.typeIs, ?_⟩
  refine wpAny_getItem_list_slice ht.isList hs pl pu .none (by simp) ?_ (by rw [List.size_toArray] <;> omega)
  rw [slicePick_cut, ← hlen]
  refine ⟨.ref s.heap.objs.size, _, I.laid (t' := s.toks) (o := .lst (cutV xs lo hi)) (fun b ob q => Heap.get?_push_of_some _ q) (Nat.le_refl _) ?_, rfl, q _ (I.hok.fresh (Nat.le_refl _))⟩
  exact ⟨Nat.le_trans (cutV_length xs lo hi) hz, _, 0, (r.drop (HT.sIx xs.length 0 lo)).take (HT.sIx xs.length xs.length hi - HT.sIx xs.length 0 lo), Heap.get?_push_size _ rfl⟩

/-! ### in, not in: flat items -/
def flatV : V → Bool
  | .non => true
  | .bl _ => true
  | .int _ => true
  | .str _ => true
  | _ => false
/-- == of flat values -/
def eqV : V → V → Bool
  | .non, .non => true
  | .bl a, .bl b => a == b
  | .bl a, .int b => (if a then 1 else 0) == b
  | .int a, .bl b => a == (if b then 1 else 0)
  | .int a, .int b => a == b
  | .str a, .str b => a == b
  | _, _ => false
theorem eqAt_V {A : Around} {s : Shared} {y x : V} {u v : Value} (ry : RelV y u) (rx : RelV x v) (fy : flatV y = true) (fx : flatV x = true) : SeqAt.EqAt A s u v (eqV y x) := by
  cases y with
  | non =>
    cases ry
    cases x with
    | non => cases rx; exact SeqAt.EqAt.same _
    | bl b => cases rx; exact SeqAt.EqAt.none_bool b
    | int b => obtain ⟨t, rfl⟩ := rx; exact SeqAt.EqAt.none_int b t
    | str b => obtain ⟨t, rfl⟩ := rx; exact SeqAt.EqAt.none_str b t
    | _ => exact absurd (show false = true from fx) Bool.false_ne_true
  | bl a =>
    cases ry
    cases x with
    | non => cases rx; exact SeqAt.EqAt.bool_none a
    | bl b => cases rx; exact SeqAt.EqAt.bool_bool a b
    | int b => obtain ⟨t, rfl⟩ := rx; exact SeqAt.EqAt.bool_int a b t
    | str b => obtain ⟨t, rfl⟩ := rx; exact SeqAt.EqAt.bool_str a b t
    | _ => exact absurd (show false = true from fx) Bool.false_ne_true
  | int a =>
    obtain ⟨t', rfl⟩ := ry
    cases x with
    | non => cases rx; exact SeqAt.EqAt.int_none a t'
    | bl b => cases rx; exact SeqAt.EqAt.int_bool a t' b
    | int b => obtain ⟨t, rfl⟩ := rx; exact SeqAt.EqAt.int_int a t' b t
    | str b => obtain ⟨t, rfl⟩ := rx; exact SeqAt.EqAt.int_str a t' b t
    | _ => exact absurd (show false = true from fx) Bool.false_ne_true
  | str a =>
    obtain ⟨t', rfl⟩ := ry
    cases x with
    | non => cases rx; exact SeqAt.EqAt.str_none a t'
    | bl b => cases rx; exact SeqAt.EqAt.str_bool a t' b
    | int b => obtain ⟨t, rfl⟩ := rx; exact SeqAt.EqAt.str_int a t' b t
    | str b => obtain ⟨t, rfl⟩ := rx; exact SeqAt.EqAt.str_str a t' b t
    | _ => exact absurd (show false = true from fx) Bool.false_ne_true
  | _ => exact absurd (show false = true from fy) Bool.false_ne_true
/-- the items' answers, read off the values (a value's own answer does not lean on its token) -/
def eqU (x : V) (u : Value) : Bool := match u with
  | .none => eqV .non x
  | .bool b => eqV (.bl b) x
  | .int i _ => eqV (.int i) x
  | .str z _ => eqV (.str z) x
  | _ => false
theorem eqU_of {x y : V} {u : Value} (r : RelV y u) (f : flatV y = true) : eqU x u = eqV y x := by
  cases y with
  | non => cases r; rfl
  | bl b => cases r; rfl
  | int i => obtain ⟨t, rfl⟩ := r; rfl
  | str z => obtain ⟨t, rfl⟩ := r; rfl
  | _ => exact absurd (show false = true from f) Bool.false_ne_true
theorem any_eqU {x : V} : ∀ {xs : List V} {us : List Value}, Vals xs us → xs.all flatV = true → us.any (eqU x) = xs.any fun y => eqV y x
  | _, _, .nil, _ => rfl
  | y :: xs, u :: us, .cons r t, f => by
    rw [List.all_cons, Bool.and_eq_true] at f
    rw [List.any_cons, List.any_cons, eqU_of r f.1, any_eqU t f.2]
theorem mem_eqAt {A : Around} {s : Shared} {x : V} {v : Value} (rx : RelV x v) (fx : flatV x = true) : ∀ {xs : List V} {us : List Value}, Vals xs us → xs.all flatV = true → ∀ u ∈ us, SeqAt.EqAt A s u v (eqU x u)
  | _, _, .nil, _ => fun u hu => by cases hu
  | y :: xs, u :: us, .cons r t, f => fun u' hu => by
    rw [List.all_cons, Bool.and_eq_true] at f
    rcases List.mem_cons.mp hu with rfl | hu
    · rw [eqU_of r f.1]; exact eqAt_V r rx f.1 fx
    · exact mem_eqAt rx fx t f.2 u' hu
def inV (x : V) (xs : List V) : Bool := xs.any fun y => eqV y x
/-- x in a list or tuple of flat items -/
def rIn (K : PySem.W.Frag) (neg : Bool) : R2 := fun x y H Q => ∃ p xs, y = .ref p ∧ (SqL K H p xs ∨ SqT K H p xs) ∧ flatV x = true ∧ xs.all flatV = true ∧ Q (.bl (if neg then !inV x xs else inV x xs)) H
theorem op_in_seq : OpR X (compareOp .In) (rIn X.K false) := by
  intro pins s σ H x y v u Q I rx ry h
  obtain ⟨p, xs, rfl, hq, fx, fs, q⟩ := h
  cases ry
  rcases hq with hq | hq
  · obtain ⟨its, r, pl, hz⟩ := I.list hq
    refine SeqAt.in_listAt (eqU x) pl.isList (fun w hw => mem_eqAt rx fx r fs w (by simpa using hw)) ⟨.bl _, H, I, rfl, ?_⟩
    rw [show its.toArray.any (eqU x) = its.any (eqU x) by simp, any_eqU r fs]
    exact q
  · obtain ⟨its, r, pl, hz⟩ := I.tuple hq
    refine SeqAt.in_tupleAt (eqU x) pl (fun w hw => mem_eqAt rx fx r fs w (by simpa using hw)) ⟨.bl _, H, I, rfl, ?_⟩
    rw [show its.toArray.any (eqU x) = its.any (eqU x) by simp, any_eqU r fs]
    exact q
theorem op_notIn_seq : OpR X (compareOp .NotIn) (rIn X.K true) := by
  intro pins s σ H x y v u Q I rx ry h
  obtain ⟨p, xs, rfl, hq, fx, fs, q⟩ := h
  cases ry
  rcases hq with hq | hq
  · obtain ⟨its, r, pl, hz⟩ := I.list hq
    refine SeqAt.notIn_listAt (eqU x) pl.isList (fun w hw => mem_eqAt rx fx r fs w (by simpa using hw)) ⟨.bl _, H, I, rfl, ?_⟩
    rw [show its.toArray.any (eqU x) = its.any (eqU x) by simp, any_eqU r fs]
    exact q
  · obtain ⟨its, r, pl, hz⟩ := I.tuple hq
    refine SeqAt.notIn_tupleAt (eqU x) pl (fun w hw => mem_eqAt rx fx r fs w (by simpa using hw)) ⟨.bl _, H, I, rfl, ?_⟩
    rw [show its.toArray.any (eqU x) = its.any (eqU x) by simp, any_eqU r fs]
    exact q
theorem op_notIn_str : OpR X (compareOp .NotIn) (fun x y H Q => ∃ i j, x = .str i ∧ y = .str j ∧ Q (.bl (!(!(Builtin.Str.occurrences j i 0 j.length 1).isEmpty))) H) := by
  intro pins s σ H x y v u Q I rx ry h
  obtain ⟨i, j, rfl, rfl, q⟩ := h
  obtain ⟨t, rfl⟩ := rx
  obtain ⟨t', rfl⟩ := ry
  exact notIn_str ⟨.bl _, H, I, rfl, q⟩

/-! ### len, list(x), tuple(x) of any list or tuple that is read -/
theorem call_len_seq : CallR X (.builtin "len") (fun xs H Q => ∃ p ys, xs = [.ref p] ∧ (SqL X.K H p ys ∨ SqT X.K H p ys) ∧ Q (.int ys.length) H) := by
  intro pins s σ H xs us Q I r h
  obtain ⟨p, ys, rfl, hq, q⟩ := h
  obtain ⟨u, rfl, rx⟩ := vals1 r
  cases rx
  have hn := line63
  rcases hq with hq | hq
  · obtain ⟨its, r', pl, hz⟩ := I.list hq
    have hlen := r'.length
    exact Calls.call_len_list pl.isList (by simp only [List.size_toArray] <;> omega) ⟨.int ys.length, H, I.tok _, ⟨s.toks + 1, by rw [List.size_toArray, hlen]⟩, q⟩
  · obtain ⟨its, r', pl, hz⟩ := I.tuple hq
    have hlen := r'.length
    exact len_tuple pl (by simp only [List.size_toArray] <;> omega) ⟨.int ys.length, H, I.tok _, ⟨s.toks + 1, by rw [List.size_toArray, hlen]⟩, q⟩
theorem call_len_str : CallR X (.builtin "len") (fun xs H Q => ∃ z, xs = [.str z] ∧ z.length ≤ sizeLine ∧ Q (.int z.length) H) := by
  intro pins s σ H xs us Q I r h
  obtain ⟨z, rfl, hz, q⟩ := h
  obtain ⟨u, rfl, t, rfl⟩ := vals1 r
  have hn := line63
  exact len_str (by omega) ⟨.int z.length, H, I.tok _, ⟨_, rfl⟩, q⟩
theorem CallR.or {f : Value} {r r' : List V → Hp → VK → Prop} (h : CallR X f r) (h' : CallR X f r') : CallR X f (fun xs H Q => r xs H Q ∨ r' xs H Q) := by
  intro pins s σ H xs us Q I rs q
  rcases q with q | q
  · exact h pins s σ H xs us Q I rs q
  · exact h' pins s σ H xs us Q I rs q
theorem call_list_of : CallR X (.type "list") (fun xs H Q => ∃ p ys, xs = [.ref p] ∧ (SqL X.K H p ys ∨ SqT X.K H p ys) ∧ ∀ l, H l = none → Q (.ref l) (upd H l (.lst ys))) := by
  intro pins s σ H xs us Q I r h
  obtain ⟨p, ys, rfl, hq, q⟩ := h
  obtain ⟨u, rfl, rx⟩ := vals1 r
  cases rx
  have fin : ∀ (its : List Value), Vals ys its → ys.length ≤ sizeLine → ∀ (h' : Heap) (c' : Nat), (∀ b o', s.heap.get? b = some o' → h'.get? b = some o') →
      h'.get? s.heap.objs.size = some { cls := .type "list", dict := none, data := .seq its.toArray c', slots := #[] } → EP X pins σ Q (.ref s.heap.objs.size) { s with heap := h' } := fun its r' hz h' c' kp e =>
    ⟨.ref s.heap.objs.size, _, I.laid (t' := s.toks) kp (Nat.le_refl _) (show ObjOk X.prog X.w _ h' _ (.lst ys) from ⟨hz, its, c', r', e⟩), rfl, q _ (I.hok.fresh (Nat.le_refl _))⟩
  rcases hq with hq | hq
  · obtain ⟨its, r', pl, hz⟩ := I.list hq
    have hlen := r'.length
    obtain ⟨o, ho, hc, n, hd⟩ := pl.isList
    exact call_list_seq p (.inl rfl) ho hc hd (fun h' c' kp e => fin its r' hz h' c' kp e) (by simp only [List.size_toArray] <;> omega)
  · obtain ⟨its, r', pl, hz⟩ := I.tuple hq
    have hlen := r'.length
    obtain ⟨o, ho, hc, n, hd⟩ := pl
    exact call_list_seq p (.inr rfl) ho hc hd (fun h' c' kp e => fin its r' hz h' c' kp e) (by simp only [List.size_toArray] <;> omega)
theorem call_tuple_of : CallR X (.type "tuple") (fun xs H Q => ∃ p ys, xs = [.ref p] ∧ ((SqL X.K H p ys ∧ ∀ l, H l = none → Q (.ref l) (upd H l (.tup ys))) ∨ (SqT X.K H p ys ∧ Q (.ref p) H))) := by
  intro pins s σ H xs us Q I r h
  obtain ⟨p, ys, rfl, h⟩ := h
  obtain ⟨u, rfl, rx⟩ := vals1 r
  cases rx
  rcases h with ⟨hq, q⟩ | ⟨hq, q⟩
  · obtain ⟨its, r', pl, hz⟩ := I.list hq
    have hlen := r'.length
    refine call_tuple_list pl.isList (fun h' kp => ?_) (by simp only [List.size_toArray] <;> omega)
    have I1 : Inv X pins σ H { s with heap := h' } := I.kept (t' := s.toks) kp
    have I2 : Inv X pins σ (upd H h'.objs.size (.tup ys)) { s with heap := h'.push { cls := .type "tuple", data := .seq its.toArray } } :=
      I1.laid (t' := s.toks) (fun b o e => Heap.get?_push_of_some _ e) (Nat.le_refl _) (show ObjOk X.prog X.w _ _ _ (.tup ys) from ⟨hz, its, r', IsTup.new _ _⟩)
    exact ⟨.ref h'.objs.size, _, I2, rfl, q _ (I1.hok.fresh (Nat.le_refl _))⟩
  · obtain ⟨its, r', pl, hz⟩ := I.tuple hq
    exact call_tuple_same pl ⟨.ref p, H, I, rfl, q⟩

/-! ### the call of a builtin's method: o.m(..) -/
/-- the value is of that builtin type -/
def tyV (K : PySem.W.Frag) (T : String) (x : V) (H : Hp) : Prop := match x with
  | .str _ => T = "str"
  | .int _ => T = "int"
  | .ref p => (T = "list" ∧ ∃ xs, SqL K H p xs) ∨ (T = "tuple" ∧ ∃ o, K.lookup p = some o ∧ o.cls = .type "tuple" ∧ o.dict = none) ∨
      (T = "dict" ∧ ((∃ kvs, H p = some (.dK kvs)) ∨ ∃ kvs, H p = some (.dT kvs))) ∨ (T = "set" ∧ ∃ S n, H p = some (.set S n))
  | _ => False
theorem tyV_is {pins : List (Addr × Obj)} {σ : St} {H : Hp} {s : Shared} {T : String} {x : V} {v : Value} (I : Inv X pins σ H s) (r : RelV x v) (ty : tyV X.K T x H) :
    s.TypeIs v T ∧ ∀ a, v = .ref a → ∃ ob, s.heap.get? a = some ob ∧ ob.dict = none := by
  cases x with
  | str z =>
    obtain ⟨t, rfl⟩ := r
    cases (show T = "str" from ty)
    exact ⟨typeIs_str s z t, fun _ e => nomatch e⟩
  | int i =>
    obtain ⟨t, rfl⟩ := r
    cases (show T = "int" from ty)
    exact ⟨typeIs_int s i t, fun _ e => nomatch e⟩
  | ref p =>
    cases r
    rcases ty with ⟨rfl, xs, hq⟩ | ⟨rfl, o, hk, hc, hd⟩ | ⟨rfl, hk⟩ | ⟨rfl, S, n, hk⟩
    · obtain ⟨its, _, pl, _⟩ := I.list hq
      refine ⟨pl.isList.typeIs, fun a e => ?_⟩
      cases e
      obtain ⟨o, n, e, c, hd, _⟩ := pl
      exact ⟨o, e, hd⟩
    · refine ⟨⟨o, I.kIn p o hk, hc⟩, fun a e => ?_⟩
      cases e
      exact ⟨o, I.kIn _ o hk, hd⟩
    · have z : ∃ o, s.heap.get? p = some o ∧ o.ExactDict := by
        rcases hk with ⟨kvs, hk⟩ | ⟨kvs, hk⟩
        · obtain ⟨_, _, _, _, o, _, _, e, ex, _⟩ := I.hok p _ hk
          exact ⟨o, e, ex⟩
        · obtain ⟨_, _, _, _, o, _, _, e, ex, _⟩ := I.hok p _ hk
          exact ⟨o, e, ex⟩
      obtain ⟨o, e, ex⟩ := z
      refine ⟨⟨o, e, ex.1⟩, fun a e2 => ?_⟩
      cases e2
      exact ⟨o, e, ex.2.1⟩
    · obtain ⟨o, _, _, _, e, ex, _⟩ := I.hok p _ hk
      refine ⟨⟨o, e, ex.1⟩, fun a e2 => ?_⟩
      cases e2
      exact ⟨o, e, ex.2.1⟩
  | _ => exact False.elim ty
def tBM0 (K : PySem.W.Frag) (T : String) (r : V → List V → Hp → VK → Prop) (to : TE) : TE := fun σ H Q => to σ H fun x H1 => tyV K T x H1 ∧ r x [] H1 Q
def tBM (K : PySem.W.Frag) (T : String) (r : V → List V → Hp → VK → Prop) (to : TE) (t : TA) : TE := fun σ H Q => to σ H fun x H1 => tyV K T x H1 ∧ t σ H1 fun xs H2 => r x xs H2 Q
variable {o e : Expr} {es : List Expr} {to : TE} {t : TA} {name : Str} {apos cpos : Pos} {T id : String} {r : V → List V → Hp → VK → Prop}
theorem pe_bm0 (pa : PlainAttrs T) (slot : Slot T name id) (hty : typeOf (.builtin id) = pure (.type "method_descriptor")) (hm : MtR X id r) (ho : PE X o to)
    (hbase : attributeBase o name X.env (eval o X.env) = eval o X.env := by rfl) (hline : (apos.endLine == cpos.line) = true := by rfl) : PE X (.Call (.Attribute o name apos) [] [] cpos) (tBM0 X.K T r to) := by
  intro pins s σ H Q I h
  refine wpAny_Call_method0_late hbase hline (thn (ho pins s σ H _ I h) fun v s1 ⟨x, H1, I1, r1, ty, q1⟩ => ?_)
  obtain ⟨h1, h2⟩ := tyV_is I1 r1 ty
  exact ⟨T, id, pa, slot, hty, h1, h2, Calls.callWith_builtin rfl (PySem.evalArgs_none (hm pins s1 σ H1 x [] v [] Q I1 r1 .nil q1))⟩
theorem pe_bm (pa : PlainAttrs T) (slot : Slot T name id) (hty : typeOf (.builtin id) = pure (.type "method_descriptor")) (hm : MtR X id r) (ho : PE X o to) (ha : PA X (e :: es) t)
    (hbase : attributeBase o name X.env (eval o X.env) = eval o X.env := by rfl)
    (hfew : ((backTo cpos (starEach (e :: es) X.env)).all (fun x => !x.1) && (backToKw cpos (keywordEach [] X.env)).all (fun x => x.1.isSome)
      && decide ((e :: es).length + ([] : List Keyword).length + (if ([] : List Keyword).isEmpty then 0 else 1) < 30)) = true := by rfl)
    (hline : (apos.endLine == cpos.line) = true := by rfl) (hs : starEach (e :: es) X.env = (false, eval e X.env) :: starEach es X.env := by rfl) (hplain : (backTo cpos (starEach es X.env)).any (·.1) = false := by rfl) :
    PE X (.Call (.Attribute o name apos) (e :: es) [] cpos) (tBM X.K T r to t) := by
  intro pins s σ H Q I h
  refine wpAny_Call_method_late hbase hfew hline rfl (thn (ho pins s σ H _ I h) fun v s1 ⟨x, H1, I1, r1, ty, q1⟩ => ?_)
  obtain ⟨h1, h2⟩ := tyV_is I1 r1 ty
  refine ⟨T, id, pa, slot, hty, h1, h2, ?_⟩
  have hA := ha cpos pins s1 σ H1 _ I1 q1
  rw [hs] at hA ⊢
  refine Calls.callWith_builtin (by show (false || (backTo cpos (starEach es X.env)).any (·.1)) = false; rw [hplain] <;> rfl) (Calls.evalArgs_plain ?_)
  exact thn hA fun us s2 ⟨vs, H2, I2, r2, q2⟩ => hm pins s2 σ H2 x vs v us Q I2 r1 r2 q2
/- xs.append(e), list.index on a module's tuple .. are MtR facts of 06m -/
end
end L2

namespace L2
open PySem PySem.Spec PyProof.Rows

def MtM (X : Cx) (id : String) (r : V → List V → Hp → VK → Prop) : Prop :=
  ∀ (pins : List (Addr × Obj)) (s : Shared) (σ : St) (H : Hp) (x : V) (xs : List V) (v : Value) (us : List Value) (Q : VK), Inv X pins σ H s → RelV x v → Vals xs us → r x xs H Q →
    wpAny (model X.prog X.w) X.A (call (.builtin id) (v :: us)) (EP X pins σ Q) X.xe s

/-! ### lists of values -/
theorem Vals.one : ∀ {x : V} {us : List Value}, Vals [x] us → ∃ u, us = [u] ∧ RelV x u
  | _, _, .cons r .nil => ⟨_, rfl, r⟩
theorem Vals.two : ∀ {x y : V} {us : List Value}, Vals [x, y] us → ∃ u v, us = [u, v] ∧ RelV x u ∧ RelV y v
  | _, _, _, .cons r (.cons q .nil) => ⟨_, _, rfl, r, q⟩
theorem Vals.zero : ∀ {us : List Value}, Vals [] us → us = []
  | _, .nil => rfl
theorem Vals.dropLast {xs : List V} {us : List Value} (h : Vals xs us) : Vals xs.dropLast us.dropLast := by
  induction h with
  | nil => exact .nil
  | cons r t ih =>
    cases t with
    | nil => exact .nil
    | cons q t' => exact .cons r ih
theorem Vals.eraseIdx : ∀ {xs : List V} {us : List Value} (i : Nat), Vals xs us → Vals (xs.eraseIdx i) (us.eraseIdx i)
  | _, _, _, .nil => .nil
  | _, _, 0, .cons _ t => t
  | _, _, i + 1, .cons r t => .cons r (Vals.eraseIdx i t)
theorem Vals.reverse {xs : List V} {us : List Value} (h : Vals xs us) : Vals xs.reverse us.reverse := by
  induction h with
  | nil => exact .nil
  | cons r t ih => rw [List.reverse_cons, List.reverse_cons]; exact Vals.append ih (.cons r .nil)
theorem Vals.rep {xs : List V} {us : List Value} (h : Vals xs us) : ∀ k : Nat, Vals (List.replicate k xs).flatten (List.replicate k us).flatten
  | 0 => .nil
  | k + 1 => by
    rw [List.replicate_succ, List.replicate_succ, List.flatten_cons, List.flatten_cons]
    exact Vals.append h (Vals.rep h k)
theorem erase_last {α : Type} (l : List α) : l.eraseIdx (l.length - 1) = l.dropLast := by
  induction l with
  | nil => rfl
  | cons a r ih =>
    cases r with
    | nil => rfl
    | cons b r =>
      have e : (a :: b :: r).length - 1 = ((b :: r).length - 1) + 1 := by
        have h1 : (a :: b :: r).length = r.length + 2 := rfl
        have h2 : (b :: r).length = r.length + 1 := rfl
        omega
      rw [e, List.eraseIdx_cons_succ, ih]
      all_goals rfl
theorem len_erase {α : Type} : ∀ (l : List α) (i : Nat), (l.eraseIdx i).length ≤ l.length
  | [], _ => Nat.le_refl _
  | _ :: _, 0 => Nat.le_succ _
  | _ :: r, i + 1 => Nat.succ_le_succ (len_erase r i)
theorem foldl_rep (its : List Value) : ∀ (k : Nat) (acc : List Value),
    List.foldl (fun x1 x2 => x1 ++ x2) acc.toArray (List.replicate k its.toArray) = (acc ++ (List.replicate k its).flatten).toArray
  | 0, acc => by simp
  | k + 1, acc => by
    have e : acc.toArray ++ its.toArray = (acc ++ its).toArray := by simp
    have e2 : (acc ++ its) ++ (List.replicate k its).flatten = acc ++ (List.replicate (k + 1) its).flatten := by
      rw [List.replicate_succ, List.flatten_cons, List.append_assoc]
    rw [← e2, ← foldl_rep its k (acc ++ its), ← e, List.replicate_succ, List.foldl_cons]

section
variable {X : Cx} {pins : List (Addr × Obj)} {σ : St} {H : Hp} {s : Shared} {l b : Addr} {xs ys zs : List V}

/-! ### the two steps: a tracked list is rewritten, a new list is laid -/
theorem Inv.lset {its its' : List Value} {n : Nat} {f : Array Value → Array Value} {t' : Nat} (I : Inv X pins σ H s) (hH : H l = some (.lst xs))
    (e : s.heap.get? l = some { cls := .type "list", data := .seq its.toArray n }) (hf : f its.toArray = its'.toArray) (hv : Vals ys its') (hz : ys.length ≤ sizeLine) :
    Inv X pins σ (upd H l (.lst ys)) { s with heap := s.heap.update l (Obj.mapSeq f), toks := t' } := by
  have q := PySem.IsL.update e f
  rw [hf] at q
  refine I.write (x := l) (e := l) (by rw [hH]; exact trivial) (.inl rfl) (fun b' u hb hu => (Heap.get?_update_other s.heap (Obj.mapSeq f) (Ne.symm hb)).trans hu) ⟨_, q⟩ ?_
  exact ⟨hz, its', _, hv, q⟩
theorem Inv.lnew {its : List Value} {t' : Nat} (I : Inv X pins σ H s) (hv : Vals ys its) (hz : ys.length ≤ sizeLine) :
    Inv X pins σ (upd H s.heap.objs.size (.lst ys)) { s with heap := s.heap.push { cls := .type "list", data := .seq its.toArray }, toks := t' } :=
  I.laid (fun _ _ q => Heap.get?_push_of_some _ q) (Nat.le_refl _) ⟨hz, its, 0, hv, Heap.get?_push_size _ rfl⟩
theorem Inv.fresh (I : Inv X pins σ H s) : H s.heap.objs.size = none := I.hok.fresh (Nat.le_refl _)
theorem Inv.lstM (I : Inv X pins σ H s) (hH : H l = some (.lst xs)) : xs.length ≤ sizeLine ∧ ∃ (its : List Value) (n : Nat), Vals xs its ∧ xs.length = its.length ∧ s.heap.get? l = some { cls := .type "list", data := .seq its.toArray n } := by
  obtain ⟨z, its, n, r, e⟩ := I.hok l _ hH
  exact ⟨z, its, n, r, r.length, e⟩

theorem notLongL {n : Nat} (h : n ≤ sizeLine) : Builtin.List.listTooLong n = false := by
  unfold Builtin.List.listTooLong
  exact decide_eq_false (by omega)
end

section
variable {X : Cx}

/-! ### methods -/
def rAppend : V → List V → Hp → VK → Prop := fun x vs H Q => ∃ l xs y, x = .ref l ∧ vs = [y] ∧ H l = some (.lst xs) ∧ xs.length < sizeLine ∧ Q .non (upd H l (.lst (xs ++ [y])))
theorem mt_append : MtM X "list.append" rAppend := by
  intro pins s σ H x vs v us Q I rx rv h
  obtain ⟨l, xs, y, rfl, rfl, hH, hz, q⟩ := h
  cases rx
  obtain ⟨u, rfl, ru⟩ := rv.one
  obtain ⟨z, its, n, r, hl, e⟩ := I.lstM hH
  refine call_meets F.slot_list_append ⟨_, e, rfl⟩ F.entry_list_append (F.args_list_append_2 _ _) (PySem.list_append l its.toArray n u (by rw [List.size_toArray]; omega)) ⟨e, ?_⟩
  refine ⟨.non, _, I.lset (its' := its ++ [u]) hH e (by simp) (r.append (.cons ru .nil)) ?_, rfl, q⟩
  rw [List.length_append, List.length_singleton]
  omega

def rExtend : V → List V → Hp → VK → Prop := fun x vs H Q => ∃ l b xs zs, x = .ref l ∧ vs = [.ref b] ∧ H l = some (.lst xs) ∧ H b = some (.lst zs) ∧ xs.length + zs.length ≤ sizeLine ∧ Q .non (upd H l (.lst (xs ++ zs)))
theorem mt_extend : MtM X "list.extend" rExtend := by
  intro pins s σ H x vs v us Q I rx rv h
  obtain ⟨l, b, xs, zs, rfl, rfl, hH, hB, hz, q⟩ := h
  cases rx
  obtain ⟨u, rfl, ru⟩ := rv.one
  cases ru
  obtain ⟨z, its, n, r, hl, e⟩ := I.lstM hH
  obtain ⟨z2, its2, n2, r2, hl2, e2⟩ := I.lstM hB
  have hsz : its.toArray.size + its2.toArray.size ≤ sizeLine := by rw [List.size_toArray, List.size_toArray]; omega
  have hlong : ¬ (!its.toArray.isEmpty && Builtin.List.listTooLong (its.toArray.size + its2.toArray.size)) = true := by
    rw [notLongL hsz, Bool.and_false]
    exact Bool.false_ne_true
  refine call_meets F.slot_list_extend ⟨_, e, rfl⟩ F.entry_list_extend (F.args_list_extend_2 _ _)
    (AutoSeq1.list_extend_list_list_0 l its.toArray n b its2.toArray n2 hlong (by rw [List.size_toArray]; omega) (by omega)) ⟨e, e2, ?_⟩
  refine ⟨.non, _, I.lset (its' := its ++ its2) hH e (by simp) (r.append r2) ?_, rfl, q⟩
  rw [List.length_append]
  omega

def rPop : V → List V → Hp → VK → Prop := fun x vs H Q => ∃ l xs y, x = .ref l ∧ vs = [] ∧ H l = some (.lst xs) ∧ xs[xs.length - 1]? = some y ∧ Q y (upd H l (.lst xs.dropLast))
theorem mt_pop : MtM X "list.pop" rPop := by
  intro pins s σ H x vs v us Q I rx rv h
  obtain ⟨l, xs, y, rfl, rfl, hH, hy, q⟩ := h
  cases rx
  have hus := rv.zero
  subst hus
  obtain ⟨z, its, n, r, hl, e⟩ := I.lstM hH
  obtain ⟨u, hu, ru⟩ := r.get hy
  have hy' : its.toArray[its.toArray.size - 1]? = some u := by
    show its.toArray[its.length - 1]? = some u
    rw [← Array.getElem?_toList, ← hl]
    exact hu
  refine call_meets F.slot_list_pop ⟨_, e, rfl⟩ F.entry_list_pop (F.args_list_pop_1 _) (MeetsSeq.list_pop_last l its.toArray n u hy' (by rw [List.size_toArray]; omega)) ⟨e, ?_⟩
  refine ⟨y, _, I.lset (its' := its.dropLast) hH e ?_ r.dropLast ?_, ru, q⟩
  · show its.toArray.eraseIdxIfInBounds (its.toArray.size - 1) = its.dropLast.toArray
    rw [List.size_toArray, List.eraseIdxIfInBounds_toArray, erase_last]
  · rw [List.length_dropLast]
    omega

def rPopAt : V → List V → Hp → VK → Prop := fun x vs H Q => ∃ l xs i k y, x = .ref l ∧ vs = [.int i] ∧ H l = some (.lst xs) ∧ -(2 ^ 63) ≤ i ∧ i < 2 ^ 63 ∧ seqIndex? i xs.length = some k ∧ xs[k]? = some y ∧ Q y (upd H l (.lst (xs.eraseIdx k)))
theorem mt_popAt : MtM X "list.pop" rPopAt := by
  intro pins s σ H x vs v us Q I rx rv h
  obtain ⟨l, xs, i, k, y, rfl, rfl, hH, h1, h2, hk, hy, q⟩ := h
  cases rx
  obtain ⟨u, rfl, ru⟩ := rv.one
  obtain ⟨t, rfl⟩ := ru
  obtain ⟨z, its, n, r, hl, e⟩ := I.lstM hH
  obtain ⟨w, hw, rw'⟩ := r.get hy
  refine call_meets F.slot_list_pop ⟨_, e, rfl⟩ F.entry_list_pop (F.args_list_pop_2 _ _)
    (MeetsSeq.list_pop_at l its.toArray n i t k w (fitsIndex_both h1 h2) (by rw [List.size_toArray, ← hl]; exact hk) (by rw [← Array.getElem?_toList]; exact hw) (by rw [List.size_toArray]; omega)) ⟨e, ?_⟩
  refine ⟨y, _, I.lset (its' := its.eraseIdx k) hH e ?_ (r.eraseIdx k) ?_, rw', q⟩
  · show its.toArray.eraseIdxIfInBounds k = (its.eraseIdx k).toArray
    rw [List.eraseIdxIfInBounds_toArray]
  · have := len_erase xs k
    omega

def rReverse : V → List V → Hp → VK → Prop := fun x vs H Q => ∃ l xs, x = .ref l ∧ vs = [] ∧ H l = some (.lst xs) ∧ Q .non (upd H l (.lst xs.reverse))
theorem mt_reverse : MtM X "list.reverse" rReverse := by
  intro pins s σ H x vs v us Q I rx rv h
  obtain ⟨l, xs, rfl, rfl, hH, q⟩ := h
  cases rx
  have hus := rv.zero
  subst hus
  obtain ⟨z, its, n, r, hl, e⟩ := I.lstM hH
  refine call_meets F.slot_list_reverse ⟨_, e, rfl⟩ F.entry_list_reverse (F.args_list_reverse_1 _) (AutoSeq1.list_reverse_list_0 l its.toArray n (by rw [List.size_toArray]; omega)) ⟨e, ?_⟩
  refine ⟨.non, _, I.lset (its' := its.reverse) hH e (by simp) r.reverse ?_, rfl, q⟩
  rw [List.length_reverse]
  omega

def rClear : V → List V → Hp → VK → Prop := fun x vs H Q => ∃ l xs, x = .ref l ∧ vs = [] ∧ H l = some (.lst xs) ∧ Q .non (upd H l (.lst []))
theorem mt_clear : MtM X "list.clear" rClear := by
  intro pins s σ H x vs v us Q I rx rv h
  obtain ⟨l, xs, rfl, rfl, hH, q⟩ := h
  cases rx
  have hus := rv.zero
  subst hus
  obtain ⟨z, its, n, r, hl, e⟩ := I.lstM hH
  refine call_meets F.slot_list_clear ⟨_, e, rfl⟩ F.entry_list_clear (F.args_list_clear_1 _) (AutoSeq1.list_clear_list_0 l its.toArray n (by rw [List.size_toArray]; omega)) ⟨e, ?_⟩
  exact ⟨.non, _, I.lset (its' := []) (ys := []) hH e rfl .nil (Nat.zero_le _), rfl, q⟩

/-! ### list + list, list += list, list * int -/
def rCat : R2 := fun x y H Q => ∃ l b xs zs, x = .ref l ∧ y = .ref b ∧ H l = some (.lst xs) ∧ H b = some (.lst zs) ∧ xs.length + zs.length ≤ sizeLine ∧ ∀ p, H p = none → Q (.ref p) (upd H p (.lst (xs ++ zs)))
theorem op_cat : OpR X (binaryOp .Add) rCat := by
  intro pins s σ H x y v u Q I rx ry h
  obtain ⟨l, b, xs, zs, rfl, rfl, hH, hB, hz, q⟩ := h
  cases rx
  cases ry
  obtain ⟨z, its, n, r, hl, e⟩ := I.lstM hH
  obtain ⟨z2, its2, n2, r2, hl2, e2⟩ := I.lstM hB
  refine PySem.P.add_list e e2 ?_ (by rw [List.size_toArray, List.size_toArray]; omega)
  have ea : its.toArray ++ its2.toArray = (its ++ its2).toArray := by simp
  rw [ea]
  exact ⟨.ref _, _, I.lnew (t' := s.toks) (r.append r2) (by rw [List.length_append]; omega), rfl, q _ I.fresh⟩
/-- a list times an int (a negative one is nothing) -/
def rRep : R2 := fun x y H Q => ∃ l k xs, x = .ref l ∧ y = .int k ∧ H l = some (.lst xs) ∧ -(2 ^ 63) ≤ k ∧ k < 2 ^ 63 ∧ xs.length * k.toNat ≤ sizeLine ∧
  ∀ p, H p = none → Q (.ref p) (upd H p (.lst (List.replicate k.toNat xs).flatten))
theorem len_rep {α : Type} (xs : List α) (k : Nat) : (List.replicate k xs).flatten.length = k * xs.length := by
  induction k with
  | zero => simp
  | succ k ih => rw [List.replicate_succ, List.flatten_cons, List.length_append, ih, Nat.succ_mul, Nat.add_comm]
theorem op_rep : OpR X (binaryOp .Mult) rRep := by
  intro pins s σ H x y v u Q I rx ry h
  obtain ⟨l, k, xs, rfl, rfl, hH, h1, h2, hz, q⟩ := h
  cases rx
  obtain ⟨t, rfl⟩ := ry
  obtain ⟨z, its, n, r, hl, e⟩ := I.lstM hH
  have hlen : its.toArray.size * k.toNat ≤ sizeLine := by rw [List.size_toArray, ← hl]; exact hz
  have hcap : ¬ its.toArray.size * k.toNat > (2 ^ 63 - 1) / 8 := by
    have : (sizeLine : Nat) ≤ (2 ^ 63 - 1) / 8 := by decide
    omega
  have hfit : ¬ (!Builtin.List.listFitsIndex k) = true := by
    rw [fitsIndex_both h1 h2]
    exact Bool.false_ne_true
  have hlong : ¬ Builtin.List.listTooLong (its.toArray.size * k.toNat) = true := by
    rw [notLongL hlen]
    exact Bool.false_ne_true
  have hnew : List.foldl (fun x1 x2 => x1 ++ x2) #[] (List.replicate (if its.toArray.isEmpty = true then 0 else k.toNat) its.toArray) = (List.replicate k.toNat its).flatten.toArray := by
    have f0 : ∀ m : Nat, List.foldl (fun x1 x2 => x1 ++ x2) #[] (List.replicate m its.toArray) = (List.replicate m its).flatten.toArray := fun m => by
      have := foldl_rep its m []
      rw [List.nil_append] at this
      exact this
    rw [f0]
    cases its with
    | nil => simp
    | cons a r' => rw [if_neg (by simp)]
  refine wpAny_binaryOp_repeat_ref (T := "list") (U := "int") (by decide) ⟨_, e, rfl⟩ (fun s' => typeIs_int s' k t) noFill_list_mul F.fills_int_mul F.slot_int_rmul repeat_list F.slot_int_index.lookup
    (call_meets F.slot_int_rmul (typeIs_int s k t) F.entry_int_rmul (F.args_int_rmul_2 _ _) (int___rmul___int_list k t l its.toArray n)
      ⟨e, rfl, ⟨_, e, rfl⟩, call_meets F.slot_list_mul ⟨_, e, rfl⟩ F.entry_list_mul (F.args_list_mul_2 _ _) (AutoListH.list___mul___list_int_3 l its.toArray n k t hfit hcap hlong) ⟨e, ?_⟩⟩)
  rw [hnew]
  exact ⟨.ref _, _, I.lnew (t' := s.toks) (r.rep k.toNat) (by rw [len_rep, Nat.mul_comm]; exact hz), rfl, q _ I.fresh⟩

/-! ### del xs[i] -/
theorem del_list {pins : List (Addr × Obj)} {s : Shared} {σ : St} {H : Hp} {l : Addr} {xs : List V} {i : Int} {t : Tok} {k : Nat} {Q : Unit → Shared → Prop} (I : Inv X pins σ H s) (hH : H l = some (.lst xs))
    (h1 : -(2 ^ 63) ≤ i) (h2 : i < 2 ^ 63) (hk : seqIndex? i xs.length = some k) (h : ∀ s', Inv X pins σ (upd H l (.lst (xs.eraseIdx k))) s' → Q () s') :
    wpAny (model X.prog X.w) X.A (delItem (.ref l) (.int i t)) Q X.xe s := by
  obtain ⟨z, its, n, r, hl, e⟩ := I.lstM hH
  refine PySem.P.delItem_list (k := k) e (fitsIndex_both h1 h2) (by rw [List.size_toArray, ← hl]; exact hk) (h _ ?_) (by rw [List.size_toArray]; omega)
  refine I.lset (its' := its.eraseIdx k) (t' := s.toks) hH e ?_ (r.eraseIdx k) ?_
  · show its.toArray.eraseIdxIfInBounds k = (its.eraseIdx k).toArray
    rw [List.eraseIdxIfInBounds_toArray]
  · have := len_erase xs k
    omega
end

/-! ### xs[a:b] = ys -/
section
variable {prog : Program} {w : World} {A : Around} {E : Value → Shared → Prop} {s : Shared}
theorem splice_eq (its its2 : List Value) (a c : Nat) : its.toArray.extract 0 a ++ its2.toArray ++ its.toArray.extract c its.toArray.size = (its.take a ++ its2 ++ its.drop c).toArray := by
  apply Array.toList_inj.mp
  first
    | (simp
       exact List.take_of_length_le (by simp))
    | simp [List.take_of_length_le]
    | simp
theorem bounds_run {a c n : Nat} (hac : a ≤ c) (hc : c ≤ n) : sliceBounds (some (a : Int)) (some (c : Int)) none n = ((a : Int), (c : Int), 1) := by
  simp only [sliceBounds, Option.getD_none]
  have h1 : ¬ ((a : Int) < 0) := by omega
  have h2 : ¬ ((c : Int) < 0) := by omega
  simp only [h1, h2, if_false, show (1 : Int) > 0 by decide, if_true]
  congr 1
  · omega
  · congr 1; omega
set_option maxRecDepth 100000 in
/-- list.__setitem__ with a slice of step one and another list -/
theorem setItem_slice {l b sl : Addr} {items new : Array Value} {n n2 : Nat} {vl vu : Value} {a c : Nat} {Q : Unit → Shared → Prop}
    (e : s.heap.get? l = some { cls := .type "list", data := .seq items n }) (e2 : s.heap.get? b = some { cls := .type "list", data := .seq new n2 }) (hne : l ≠ b)
    (hs : s.heap.IsSliceOf sl vl vu .none) (pl : IsPart vl (some (a : Int))) (pu : IsPart vu (some (c : Int))) (hac : a ≤ c) (hc : c ≤ items.size)
    (hsz : items.size + new.size ≤ sizeLine) (h : Q () { s with heap := s.heap.update l (Obj.mapSeq fun xs => xs.extract 0 a ++ new ++ xs.extract c xs.size) }) :
    wpAny (model prog w) A (setItem (.ref l) (.ref sl) (.ref b)) Q E s := by
  have hl : s.heap.IsList l items := PySem.IsL.isList e
  have hb : s.heap.IsList b new := PySem.IsL.isList e2
  obtain ⟨os, hos, hcs, hds⟩ := id hs
  have hTs : s.TypeIs (.ref sl) "slice" := ⟨os, hos, hcs⟩
  have hstep : ¬ ((rawPart none == rawInt 0) = true) := Bool.false_ne_true
  have hsame : Builtin.List.listSameRef (.ref l) (.ref b) = false := by
    unfold Builtin.List.listSameRef
    exact beq_eq_false_iff_ne.mpr hne
  have hmax : (max (a : Int) (c : Int)).toNat = c := by omega
  have hz' : ((fun xs : Array Value => xs.extract 0 a ++ new ++ xs.extract c xs.size) items).size ≤ sizeLine + 1 := by
    simp only [Array.size_append, Array.size_extract]
    omega
  unfold setItem
  try with_reducible refine wpAny_holding ?_
  first | refine wpAny_bind (wpAny_pure ?_) | skip
  refine wpAny_bind (wpAny_sequenceKey hl.typeIs (by decide) ?_)
  refine wpAny_bind (wpAny_callSpecial?_slot (name := Str.ofString "__setitem__") hl.typeIs slot_list_setitem
    (wpAny_call_entry slot_list_setitem hl.typeIs entry_list_setitem ?_ (args_list_setitem _ _ _)))
  show wpAny _ _ (Builtin.List.listSubscript? (.ref sl) >>= _) _ _ s
  refine wpAny_bind ?_
  unfold Builtin.List.listSubscript?
  refine wpAny_bind (wpAny_specialOf hTs slice_no_index ?_)
  simp only [Option.isNone_none, if_true]
  refine wpAny_pure ?_
  show wpAny _ _ (typeOf (.ref sl) >>= _) _ _ s
  refine wpAny_bind (wpAny_typeOf hTs ?_)
  first
    | rw [if_neg (by decide)]
    | refine PySem.W.KFB.if_not (by decide) ?_
  rw [listSliceParts_eq]
  refine wpAny_bind (wpAny_bind (wpAny_field hos hds (x := .none) rfl (wpAny_bind (wpAny_listPart .none ?_))))
  rw [if_neg hstep]
  refine wpAny_bind (wpAny_field hos hds (x := vl) rfl (wpAny_bind (wpAny_listPart pl ?_)))
  refine wpAny_bind (wpAny_field hos hds (x := vu) rfl (wpAny_bind (wpAny_listPart pu (wpAny_pure ?_))))
  first
    | simp only [hsame, Bool.false_eq_true, if_false]
    | refine PySem.W.KFB.if_not hsame ?_
    | (dsimp only
       rw [if_neg (by rw [hsame]; exact Bool.false_ne_true)])
  refine wpAny_bind (m := Builtin.List.listAllItems (.ref b) "must assign iterable to extended slice") ?_
  unfold Builtin.List.listAllItems
  refine wpAny_bind (wpAny_typeOf hb.typeIs ?_)
  first
    | refine PySem.W.KFB.if_so (by decide) ?_
    | rw [if_pos (by decide)]
    | simp only [beq_self_eq_true, Bool.true_or, if_true]
  unfold Builtin.List.listItems
  refine wpAny_bind (wpAny_seqItems e2 rfl (wpAny_pure ?_))
  refine wpAny_bind (wpAny_bind (wpAny_seqItems e rfl (wpAny_pure ?_)))
  refine wpAny_bind (wpAny_of_eq ((sliceIndices_raw (some (a : Int)) (some (c : Int)) none items.size (by simp)).trans (congrArg (pure : Int × Int × Int → Sem (Int × Int × Int)) (bounds_run hac hc))) ?_)
  show wpAny _ _ (if ((1 : Int) == 1) = true then _ else _) _ _ s
  rw [if_pos (by decide)]
  refine wpAny_bind (wpAny_rule ?_)
  first
    | simp only [notLongL hsz, Bool.false_eq_true, if_false]
    | refine PySem.W.KFB.if_not (notLongL hsz) ?_
  first | refine wpAny_bind (wpAny_pure ?_) | skip
  show wpAny _ _ (updateSeq l (fun xs => xs.extract 0 ((a : Int)).toNat ++ new ++ xs.extract (max (a : Int) (c : Int)).toNat xs.size) >>= _) _ _ s
  rw [hmax, Int.toNat_natCast]
  refine wpAny_bind (wpAny_updateSeq (hz := Nat.le_trans (Nat.le_add_right _ _) hsz) (_hz' := hz') e rfl ?_)
  refine wpAny_bind (wpAny_letGo ?_)
  first
    | exact wpAny_bind (wpAny_pure (wpAny_pure ⟨.none, rfl, wpAny_pure h⟩))
    | exact wpAny_pure ⟨.none, rfl, wpAny_pure h⟩
end

section
variable {X : Cx}
/-- xs[a:c] = ys of another list, at the value level: sl is the slice object that was just made -/
theorem set_slice {pins : List (Addr × Obj)} {s : Shared} {σ : St} {H : Hp} {l b sl : Addr} {xs ys : List V} {a c : Int} {vl vu : Value} {Q : Unit → Shared → Prop} (I : Inv X pins σ H s)
    (hH : H l = some (.lst xs)) (hB : H b = some (.lst ys)) (hne : l ≠ b) (hs : s.heap.IsSliceOf sl vl vu .none) (ra : RelV (.int a) vl) (rc : RelV (.int c) vu) (h0 : 0 ≤ a) (hac : a ≤ c) (hc : c ≤ xs.length)
    (hz : xs.length + ys.length ≤ sizeLine) (h : ∀ s', Inv X pins σ (upd H l (.lst (xs.take a.toNat ++ ys ++ xs.drop c.toNat))) s' → Q () s') :
    wpAny (model X.prog X.w) X.A (setItem (.ref l) (.ref sl) (.ref b)) Q X.xe s := by
  obtain ⟨ta, rfl⟩ := ra
  obtain ⟨tc, rfl⟩ := rc
  obtain ⟨z, its, n, r, hl, e⟩ := I.lstM hH
  obtain ⟨z2, its2, n2, r2, hl2, e2⟩ := I.lstM hB
  obtain ⟨a', rfl⟩ := Int.eq_ofNat_of_zero_le h0
  obtain ⟨c', rfl⟩ := Int.eq_ofNat_of_zero_le (Int.le_trans h0 hac)
  simp only [Int.toNat_natCast] at h
  refine setItem_slice (a := a') (c := c') e e2 hne hs (.int _ _) (.int _ _) (by omega) (by rw [List.size_toArray]; omega) (by rw [List.size_toArray, List.size_toArray]; omega) (h _ ?_)
  refine I.lset (its' := its.take a' ++ its2 ++ its.drop c') (t' := s.toks) hH e ?_ (Vals.append (Vals.append (r.take _) r2) (r.drop _)) ?_
  · exact splice_eq its its2 a' c'
  · rw [List.length_append, List.length_append, List.length_take, List.length_drop]
    omega
end
end L2

namespace Att
open PySem PySem.W PySem.Calls PyProof.Rows

/-! ### the script -/
/-! ### the attachment: holds_open's last premise (the goal 'hc' behind k_head) from a wpAny of the law's body -/
/-! ### rules over ANY heap (no ledger) from facts about the written part K: the library's own take a ledger (News) for what they write -/
section
variable {prog : Program} {w : World} {A : Around} {E : Value → Shared → Prop} {s : Shared} {K : Frag}

/-! the whole heap as the ledger: makes every rule that writes through a ledger a rule over any heap -/
end
end Att

namespace L2
open PySem PySem.Spec PyProof.Rows

end L2

namespace L2
open PySem PySem.Spec PyProof.Rows

end L2

/- THE LAST THEOREM (shape; LID, My.* are yours):
   My.Adr: a structure of the addresses that your layer names (classes, functions); My.Txt K t: a structure (Prop) of the equations over K;
   My.txt_mk : {K} {implicit addresses ..} (e1 : nsIn K mainGlobals "law" = some (some (.ref f))) (e2 : K.lookup f = some ⟨oc, od, .func (fnOf "law" "law" params body scope dV kV doc pm an cdv ct), sl⟩) (e3 : codeIn K cdv "law" = true) .. : ∃ t, My.Txt K t

(the tactic k_is has no namespace: write k_is) -/

/-! SHORT WORDS over the layer: a def of the text, its body, what a loop and a test want. -/
namespace L2
open PySem PySem.Spec PyProof.Rows

/-! ### the text by places -/
/-! ### no exception leaves a def -/
/-! ### a def (or method) of the text as it stands behind the top -/
section
variable {P : Program} {w : World} {K : PySem.W.Frag} {mg : Str → Option Value} {base : Heap}
end
/-! ### expressions in short: the name that stands in the i-th slot -/
section
variable {X : Cx}
end

/-! ### tests -/
/-! ### heaps -/
end L2

set_option Elab.async false
set_option linter.all false
set_option maxRecDepth 100000
/-! RULES OF OUR OWN over the hand layer: comprehensions, data compared, small built-ins. -/
namespace L2
open PySem PySem.Spec PyProof.Rows

/-! ### a comprehension: the loop -/
section
variable {prog : Program} {w : World} {A : Around} {R : Result → Shared → Prop} {s : Shared}
theorem compLoop_any {elt target iter : Expr} {ifs : List Expr} {scope : Scope} {pos : Pos} {it acc : Value} {env : Env} (I : Nat → Shared → Prop)
    (turn : ∀ n s, I n s → wpAny (model prog w) A (pyNext it) (fun r s₁ => match r with
      | none => R (.ok .next) s₁
      | some v => wpAny (model prog w) A (letOwnedTupleGo target it v) (fun _ s₁' => wpAny (model prog w) A (assign target env v) (fun _ s₂ =>
          wpAny (model prog w) A (forIn ifs true fun c r => if r = true then do let ok ← isTrue c env (eval c env); pure (ForInStep.yield ok) else pure (ForInStep.yield r)) (fun ok s₃ =>
            if ok = true then wpAny (model prog w) A (eval elt env) (fun x s₄ =>
              wpAny (model prog w) A (call (.builtin "list.append") [acc, x]) (fun _ s₅ => ∃ m, m < n ∧ I m s₅) (fun _ _ => False) s₄) (fun _ _ => False) s₃
            else ∃ m, m < n ∧ I m s₃) (fun _ _ => False) s₂) (fun _ _ => False) s₁') (fun _ _ => False) s₁) (fun _ _ => False) s)
    (n : Nat) (h : I n s) :
    codeAny (model prog w) A (.compLoop (.ListComp elt [⟨target, iter, ifs, 0⟩] scope pos) 0 it acc env) R s := by
  refine codeAny_loop rfl I (fun n s hI => ?_) n h
  show wpAny _ A ((compTurn (.ListComp elt [⟨target, iter, ifs, 0⟩] scope pos) 0 it acc env).onRaise (fun x => do noteFrame x env; theTreesLotGoes x)) _ _ s
  refine wpAny_noted ?_
  rw [compTurn_list]
  refine wpAny_bind (wpAny_standAt (wpAny_bind (wpAny_mono (turn n s hI) (fun r s₁ h₁ => ?_) fun _ _ h' => h'.elim)))
  cases r with
  | none => exact wpAny_pure h₁
  | some v =>
    refine wpAny_bind (wpAny_mono h₁ (fun _ s₁' h₁' => ?_) fun _ _ h' => h'.elim)
    refine wpAny_bind (wpAny_mono h₁' (fun _ s₂ h₂ => wpAny_bind (wpAny_mono h₂ (fun ok s₃ h₃ => ?_) fun _ _ h' => h'.elim)) fun _ _ h' => h'.elim)
    cases ok with
    | false => exact wpAny_pure ⟨rfl, h₃⟩
    | true =>
      exact wpAny_bind (wpAny_bind (wpAny_mono h₃ (fun x s₄ h₄ => wpAny_bind (wpAny_mono h₄ (fun _ s₅ h₅ => wpAny_pure (wpAny_pure ⟨rfl, h₅⟩)) fun _ _ h' => h'.elim)) fun _ _ h' => h'.elim))
end

/-! ### the names that a block has from around -/
theorem forIn_fold {α β : Type} (g : α → β → β) {f : α → β → Sem (ForInStep β)} : ∀ (l : List α) (c : β), (∀ x ∈ l, ∀ c, f x c = pure (.yield (g x c))) → forIn l c f = pure (l.foldl (fun c x => g x c) c)
  | [], _, _ => rfl
  | x :: l, c, h => by
    rw [List.forIn_cons, h x List.mem_cons_self, pure_bind]
    exact forIn_fold g l (g x c) fun y hy => h y (List.mem_cons_of_mem _ hy)
def clStep (env : Env) (x : Str × NameKind) (cs : List (Str × Addr)) : List (Str × Addr) := if (x.2 == .free) = true then (x.1, (env.cells.lookup x.1).getD 0) :: cs else cs
def clOf (env : Env) (names : List (Str × NameKind)) (cs : List (Str × Addr)) : List (Str × Addr) := names.foldl (fun c x => clStep env x c) cs
theorem closure_of {scope : Scope} {env : Env} (h : ∀ y ∈ scope.names, y.2 = .free → ∃ c, env.cells.lookup y.1 = some c) : closureFor scope env = pure (clOf env scope.names []) := by
  simp only [closureFor]
  rw [forIn_fold (fun x c => clStep env x c) scope.names [] (fun x hx c => by
    obtain ⟨n, k⟩ := x
    unfold clStep
    by_cases hk : (k == NameKind.free) = true
    · obtain ⟨a, ha⟩ := h (n, k) hx (by simpa using hk)
      have ha' : env.cells.lookup n = some a := ha
      simp only [hk, if_true, cellOf, ha', Option.getD_some]
      try rfl
    · simp only [hk, if_false, Bool.false_eq_true]
      try rfl)]
  rfl
theorem clOf_lookup (env : Env) {x : Str} : ∀ (names : List (Str × NameKind)) (cs : List (Str × Addr)), (∀ c, cs.lookup x = some c → c = (env.cells.lookup x).getD 0) → ∀ c, (clOf env names cs).lookup x = some c → c = (env.cells.lookup x).getD 0
  | [], _, h, c, e => h c e
  | (n, k) :: r, cs, h, c, e => by
    refine clOf_lookup env r (clStep env (n, k) cs) (fun c' e' => ?_) c e
    unfold clStep at e'
    split at e'
    · rw [List.lookup_cons] at e'
      split at e'
      · rename_i hx
        have hx' : x = n := by simpa using hx
        cases e'
        rw [hx']
      · exact h c' e'
    · exact h c' e'
theorem clOf_keeps (env : Env) {x : Str} : ∀ (names : List (Str × NameKind)) (cs : List (Str × Addr)), (cs.lookup x).isSome = true → ((clOf env names cs).lookup x).isSome = true
  | [], _, h => h
  | (n, k) :: r, cs, h => by
    refine clOf_keeps env r (clStep env (n, k) cs) ?_
    unfold clStep
    split
    · rw [List.lookup_cons]
      split
      · rfl
      · exact h
    · exact h
theorem clOf_has (env : Env) {x : Str} : ∀ (names : List (Str × NameKind)) (cs : List (Str × Addr)), (x, NameKind.free) ∈ names → ((clOf env names cs).lookup x).isSome = true
  | [], _, h => by simp at h
  | (n, k) :: r, cs, h => by
    rcases List.mem_cons.mp h with e | e
    · cases e
      refine clOf_keeps env r (clStep env (x, NameKind.free) cs) ?_
      unfold clStep
      rw [if_pos (show ((x, NameKind.free).snd == NameKind.free) = true from rfl), List.lookup_cons]
      simp
    · exact clOf_has env r _ e
/-- a lookup in the closure is one in the cells -/
theorem clOf_from (env : Env) {x : Str} : ∀ (names : List (Str × NameKind)) (cs : List (Str × Addr)), (∀ y ∈ names, y.2 = .free → ∃ c, env.cells.lookup y.1 = some c) → (∀ c, cs.lookup x = some c → env.cells.lookup x = some c) →
    ∀ c, (clOf env names cs).lookup x = some c → env.cells.lookup x = some c
  | [], _, _, h, c, e => h c e
  | (n, k) :: r, cs, hf, h, c, e => by
    refine clOf_from env r (clStep env (n, k) cs) (fun y hy => hf y (List.mem_cons_of_mem _ hy)) (fun c' e' => ?_) c e
    unfold clStep at e'
    split at e'
    · rename_i hk
      rw [List.lookup_cons] at e'
      split at e'
      · rename_i hx
        have hx' : x = n := by simpa using hx
        obtain ⟨a, ha⟩ := hf (n, k) List.mem_cons_self (by simpa using hk)
        have ha' : env.cells.lookup n = some a := ha
        cases e'
        show env.cells.lookup x = some ((env.cells.lookup n).getD 0)
        rw [hx', ha']
        rfl
      · exact h c' e'
    · exact h c' e'

/-- the context of a block: C its names, s₃ and H₃ the entry, fp the iterator's records -/
def cxC (X : Cx) (N : List Str) (scope : Scope) (C : Addr) (s₃ : Shared) (H₃ : Hp) (fp : List Addr) : Cx where
  prog := X.prog
  w := X.w
  K := X.K
  mg := X.mg
  base := X.base
  A := X.A
  N := N
  s₀ := s₃
  H₀ := H₃
  env := compEnvC scope (clOf X.env scope.names []) C X.env
  outer := X.stack
  stack := X.stack
  ex := fp
  fn := fun _ => false
  calm := X.calm
  pn := []
  xe := fun _ _ => False
/-- the block's slots: the targets, then the names from around, each with its slot there -/
def pick (ts : List Str) (fr : List (Str × Nat)) (σ : St) : St := ts.map (fun _ => none) ++ fr.map fun p => (σ[p.2]?).join
abbrev namesC (ts : List Str) (fr : List (Str × Nat)) : List Str := ts ++ fr.map (·.1)
/-- what is seen of the text: the names from around stand in cells there, and are free here -/
def FreesOk (X : Cx) (scope : Scope) : List (Str × Nat) → Prop
  | [] => True
  | p :: r => (X.N[p.2]? = some p.1 ∧ X.env.scope.names.lookup p.1 = some .cell ∧ scope.names.lookup p.1 = some .free) ∧ FreesOk X scope r
theorem FreesOk.mem {X : Cx} {scope : Scope} : ∀ {fr : List (Str × Nat)}, FreesOk X scope fr → ∀ p ∈ fr, X.N[p.2]? = some p.1 ∧ X.env.scope.names.lookup p.1 = some .cell ∧ scope.names.lookup p.1 = some .free
  | [], _, _, hp => by simp at hp
  | _ :: _, h, p, hp => by
    rcases List.mem_cons.mp hp with e | e
    · subst e; exact h.1
    · exact FreesOk.mem h.2 p e
structure CompScope (X : Cx) (ts : List Str) (fr : List (Str × Nat)) (scope : Scope) : Prop where
  kind : scope.kind = .function
  nocell : ∀ y ∈ scope.names, y.2 ≠ .cell
  locs : ∀ y ∈ scope.names, y.2 = .local → scope.names.lookup y.1 = some .local
  freeC : ∀ y ∈ scope.names, y.2 = .free → X.env.scope.names.lookup y.1 = some .cell ∨ X.env.scope.names.lookup y.1 = some .free
  fr : FreesOk X scope fr
theorem relabel_lookup {env : Env} {x : Str} {k : NameKind} : ∀ {names : List (Str × NameKind)}, (names.map fun (n, k) => if (k == NameKind.free && env.scope.kind == .function && env.kindOf n == some .cell) then (n, NameKind.cell) else (n, k)).lookup x = some k →
    (k = .cell ∨ k = .free) → (∀ y ∈ names, y.2 ≠ .cell) → (x, NameKind.free) ∈ names
  | [], h, _, _ => by simp at h
  | (n, k') :: r, h, hk, hc => by
    rw [List.map_cons, List.lookup_cons] at h
    have hr : ∀ y ∈ r, y.2 ≠ .cell := fun y hy => hc y (List.mem_cons_of_mem _ hy)
    have hk' : k' ≠ .cell := hc (n, k') List.mem_cons_self
    split at h
    · rename_i hx
      split at hx
      · rename_i hq
        have hx' : x = n := by simpa using hx
        have hf : k' = .free := by
          rw [Bool.and_eq_true, Bool.and_eq_true] at hq
          simpa using hq.1.1
        rw [hx', hf]
        exact List.mem_cons_self
      · rename_i hq
        have hx' : x = n := by simpa using hx
        rw [if_neg hq] at h
        have h' : k' = k := Option.some.inj h
        rcases hk with e | e
        · exact absurd (h'.trans e) hk'
        · rw [hx', ← e, ← h']
          exact List.mem_cons_self
    · exact List.mem_cons_of_mem _ (relabel_lookup h hk hr)
theorem relabel_free {env : Env} {x : Str} : ∀ {names : List (Str × NameKind)}, names.lookup x = some .free →
    (names.map fun (n, k) => if (k == NameKind.free && env.scope.kind == .function && env.kindOf n == some .cell) then (n, NameKind.cell) else (n, k)).lookup x = some .cell ∨
    (names.map fun (n, k) => if (k == NameKind.free && env.scope.kind == .function && env.kindOf n == some .cell) then (n, NameKind.cell) else (n, k)).lookup x = some .free
  | [], h => by simp at h
  | (n, k) :: r, h => by
    have ih := @relabel_free env x r
    rw [List.map_cons]
    cases hx : x == n with
    | true =>
      simp only [List.lookup_cons, hx] at h
      cases h
      dsimp only
      by_cases hc : (NameKind.free == NameKind.free && env.scope.kind == .function && env.kindOf n == some .cell) = true
      · left; rw [if_pos hc, List.lookup_cons, hx]
      · right; rw [if_neg hc, List.lookup_cons, hx]
    | false =>
      simp only [List.lookup_cons, hx] at h
      dsimp only
      by_cases hc : (k == NameKind.free && env.scope.kind == .function && env.kindOf n == some .cell) = true
      · rw [if_pos hc, List.lookup_cons, hx]; exact ih h
      · rw [if_neg hc, List.lookup_cons, hx]; exact ih h

/-! ### its tests -/
def PIfs (X : Cx) (ifs : List Expr) (tc : TT) : Prop :=
  ∀ (pins : List (Addr × Obj)) (s : Shared) (σ : St) (H : Hp) (Q : Bool → Hp → Prop), Inv X pins σ H s → tc σ H Q →
    wpAny (model X.prog X.w) X.A (forIn ifs true fun c r => if r = true then do let ok ← isTrue c X.env (eval c X.env); pure (ForInStep.yield ok) else pure (ForInStep.yield r)) (TP X pins σ Q) X.xe s
def tNoIf : TT := fun _ H Q => Q true H
theorem pifs_nil {X : Cx} : PIfs X [] tNoIf := fun pins s σ H Q I h => wpAny_tests_nil ⟨H, I, h⟩
theorem pifs_one {X : Cx} {c : Expr} {tc : TT} (h : PT X c tc) : PIfs X [c] tc := fun pins s σ H Q I q => wpAny_tests_one (h pins s σ H Q I q)

/-! ### the rule -/
/-- the names from around stay -/
def KeepF (ts : List Str) (fr : List (Str × Nat)) (σ σ2 : St) : Prop := σ2.length = (pick ts fr σ).length ∧ σ2.drop ts.length = (pick ts fr σ).drop ts.length
theorem pick_target {ts : List Str} {fr : List (Str × Nat)} {σ : St} {j : Nat} {v : V} (h : (pick ts fr σ)[j]? = some (some v)) : ts.length ≤ j := by
  unfold pick at h
  by_cases hj : j < ts.length
  · rw [List.getElem?_append_left (by simpa using hj), List.getElem?_map] at h
    cases q : ts[j]? with
    | none => rw [q] at h; cases h
    | some t => rw [q] at h; cases h
  · omega
theorem KeepF.weak {ts : List Str} {fr : List (Str × Nat)} {σ σ2 : St} (k : KeepF ts fr σ σ2) {j : Nat} {v : V} (h : (pick ts fr σ)[j]? = some (some v)) : σ2[j]? = some (some v) := by
  have hj := pick_target h
  have e : (σ2.drop ts.length)[j - ts.length]? = ((pick ts fr σ).drop ts.length)[j - ts.length]? := by rw [k.2]
  rw [List.getElem?_drop, List.getElem?_drop, show ts.length + (j - ts.length) = j by omega, h] at e
  exact e
/-- what is wanted of a walk of J -/
def CompW (J : It) (D : Addr) (ts : List Str) (fr : List (Str × Nat)) (σ : St) (g : TG) (tc : TT) (te : TE) (k : Addr → Hp → Prop) (H : Hp) : Prop :=
  ∃ W : Nat → Nat → List V → Hp → Prop, (∃ m, W 0 m [] (upd H D (.lst []))) ∧ ∀ i m ys H2, W i m ys H2 → H2 D = some (.lst ys) ∧ ((J.stop i H2 ∧ k D H2) ∨
    (J.go i H2 ∧ ys.length < sizeLine ∧ ∃ N : List V → Hp → Prop, (∀ ys' H', N ys' H' → ∃ m', m' < m ∧ W (i + 1) m' ys' H') ∧ ∀ x H3, J.yld i H2 x H3 → g x (pick ts fr σ) H3 fun σ2 H4 => KeepF ts fr σ σ2 ∧ tc σ2 H4 fun b H5 =>
      if b = true then te σ2 H5 fun y H6 => H6 D = some (.lst ys) ∧ N (ys ++ [y]) (upd H6 D (.lst (ys ++ [y]))) else N ys H5))
/-- [te for g in wi if tc] -/
def tCompK (ts : List Str) (fr : List (Str × Nat)) (wi : TI) (g : TG) (tc : TT) (te : TE) (k : Addr → Hp → Prop) : St → Hp → Prop := fun σ H => wi σ H fun J H1 => ∀ D, H1 D = none → CompW J D ts fr σ g tc te k H1
def tComp (ts : List Str) (fr : List (Str × Nat)) (wi : TI) (g : TG) (tc : TT) (te : TE) : TE := fun σ H Q => tCompK ts fr wi g tc te (fun D H2 => Q (.ref D) H2) σ H

section
variable {X : Cx} {ts : List Str} {fr : List (Str × Nat)} {scope : Scope}
/-- the block's entry -/
theorem inv_block {pins : List (Addr × Obj)} {σ : St} {H₃ : Hp} {s₃ s₄ : Shared} {fp : List Addr} {h₁ : Heap} (S : CompScope X ts fr scope) (I : Inv X pins σ H₃ s₃)
    (e4 : s₄ = { s₃ with heap := h₁ }) (ns : h₁.Ns s₃.heap.objs.size (fun _ => none)) (kp : ∀ b o, s₃.heap.get? b = some o → h₁.get? b = some o)
    (hf : ∀ b ∈ fp, FpOk X pins H₃ b) (hlt : ∀ b ∈ fp, b < s₃.heap.objs.size) :
    Inv (cxC X (namesC ts fr) scope s₃.heap.objs.size s₃ H₃ fp) [] (pick ts fr σ) H₃ s₄ := by
  subst e4
  have hfree : ∀ y ∈ scope.names, y.2 = .free → ∃ c, X.env.cells.lookup y.1 = some c := fun y hy hk => I.ok.has y.1 (S.freeC y hy hk)
  have hcl : ∀ x c, (clOf X.env scope.names []).lookup x = some c → X.env.cells.lookup x = some c := fun x c e => clOf_from X.env scope.names [] hfree (fun c e => by simp at e) c e
  have hfr := S.fr.mem
  refine ⟨⟨I.mod, ?_, I.ok.glob, I.ok.blt, Nat.le_refl _, ?_, ?_, ?_, I.ok.hd, I.ok.frames, .inl rfl, ?_, fun b o e => I.bs b o e, Nat.le_trans I.ok.bsz I.sz, ?_, ?_, I.stack, I.stkFree⟩,
    rfl, I.bare, Un.kept kp, ⟨_, ns, ?_⟩, ?_, I.hok.fresh (Nat.le_refl _), ?_, ?_, I.hok.kept kp, ?_⟩
  · exact S.kind
  · intro x y c h1 h2
    exact I.ok.inj x y c (hcl x c h1) (hcl y c h2)
  · intro x hx
    have hm : (x, NameKind.free) ∈ scope.names := by
      rcases hx with e | e
      · exact relabel_lookup e (.inl rfl) S.nocell
      · exact relabel_lookup e (.inr rfl) S.nocell
    have z := clOf_has X.env (x := x) scope.names [] hm
    cases q : (clOf X.env scope.names []).lookup x with
    | none => rw [q] at z; cases z
    | some c => exact ⟨c, q⟩
  · intro x c h _
    exact absurd (show false = true from h) Bool.false_ne_true
  · intro b hb
    exact ⟨Nat.ne_of_lt (hlt b hb), fun x c e => (hf b hb).2.2.2.2.1 x c (hcl x c e)⟩
  · intro b o e hb
    rcases (hf b hb).2.2.2.1 with z | z
    · exact I.ok.noex b o e z
    · exact absurd (Nat.lt_of_lt_of_le (Heap.lt_size (I.ok.bs b o e).1) z) (Nat.lt_irrefl _)
  · intro b hb hz
    rcases List.mem_cons.mp (I.stkSub b hz) with e | e
    · exact (hf b hb).2.1 e
    · exact (hf b hb).2.2.1 e
  · intro j x v h1 h2 h3
    have h2 : (pick ts fr σ)[j]? = some (some v) := h2
    have h1 : (namesC ts fr)[j]? = some x := h1
    unfold pick at h2
    unfold namesC at h1
    by_cases hj : j < ts.length
    · rw [List.getElem?_append_left (by simpa using hj), List.getElem?_map] at h2
      cases q : ts[j]? with
      | none => rw [q] at h2; cases h2
      | some t => rw [q] at h2; cases h2
    · rw [List.getElem?_append_right (by simpa using hj), List.getElem?_map, List.length_map] at h2
      rw [List.getElem?_append_right (by omega), List.getElem?_map] at h1
      cases q : fr[j - ts.length]? with
      | none => rw [q] at h2; cases h2
      | some p =>
        rw [q] at h1 h2
        have h1' : p.1 = x := Option.some.inj h1
        subst h1'
        have h2' : (σ[p.2]?).join = some v := Option.some.inj h2
        have hσ : σ[p.2]? = some (some v) := by
          cases z : σ[p.2]? with
          | none => rw [z] at h2'; cases h2'
          | some y =>
            rw [z] at h2'
            have h2'' : y = some v := h2'
            rw [h2'']
        obtain ⟨g1, g2, g3⟩ := hfr p (List.mem_of_getElem? q)
        obtain ⟨m, hn, hl⟩ := I.loc
        obtain ⟨u, ru, lk⟩ := hl p.2 p.1 v g1 hσ (.inr (.inl g2))
        refine ⟨u, ru, .inr ⟨relabel_free (env := X.env) g3, ?_⟩⟩
        rcases lk with ⟨k1, _⟩ | ⟨k1, c, hc, hcell⟩
        · rw [show X.env.kindOf p.1 = X.env.scope.names.lookup p.1 from rfl, g2] at k1; cases k1
        · have z := clOf_has X.env (x := p.1) scope.names [] (PySem.mem_of_lookup g3)
          cases q2 : (clOf X.env scope.names []).lookup p.1 with
          | none => rw [q2] at z; cases z
          | some c' =>
            have e2 := hcl p.1 c' q2
            rw [hc] at e2
            cases e2
            obtain ⟨o, ho, hd⟩ := hcell
            exact ⟨c, q2, o, kp c o ho, hd⟩
  · intro x c e
    obtain ⟨v, o, ho, hd⟩ := I.cell x c (hcl x c e)
    exact ⟨v, o, kp c o ho, hd⟩
  · intro x c e
    exact I.freeC x c (hcl x c e)
  · intro p hp
    exact absurd (show p ∈ ([] : List (Addr × Obj)) from hp) (by simp)
  · show (pick ts fr σ).length = (namesC ts fr).length
    unfold pick namesC
    simp

variable {elt iter tg : Expr} {ifs : List Expr} {pos : Pos} {wi : TI} {g : TG} {tc : TT} {te : TE}
/-- the block, from its iterator on: the list at D, Inv of the context around again, the names' object at C -/
theorem comp_block {pins : List (Addr × Obj)} {σ : St} {H2 : Hp} {s2 : Shared} {it : Addr} {fp : List Addr} {tn : Nat → Heap → Prop} {J : It} {k : Addr → Hp → Prop} {RR : Value → Addr → Result → Shared → Prop} {E : Value → Shared → Prop}
    (hc : X.calm = true) (S : CompScope X ts fr scope)
    (hg : ∀ C s₃ H₃ fp, PG (cxC X (namesC ts fr) scope C s₃ H₃ fp) tg g) (ht : ∀ C s₃ H₃ fp, PIfs (cxC X (namesC ts fr) scope C s₃ H₃ fp) ifs tc) (he : ∀ C s₃ H₃ fp, PE (cxC X (namesC ts fr) scope C s₃ H₃ fp) elt te)
    (I2 : Inv X pins σ H2 s2) (T : Turn X.prog X.w X.K tg J fp it tn) (st2 : tn 0 s2.heap) (f2 : ∀ b ∈ fp, FpOk X pins H2 b)
    (h : ∀ D, H2 D = none → ∃ W : Nat → Nat → List V → Hp → Prop, (∃ m, W 0 m [] (upd H2 D (.lst []))) ∧ ∀ i m ys H2, W i m ys H2 → H2 D = some (.lst ys) ∧ ((J.stop i H2 ∧ k D H2) ∨
      (J.go i H2 ∧ ys.length < sizeLine ∧ ∃ N : List V → Hp → Prop, (∀ ys' H', N ys' H' → ∃ m', m' < m ∧ W (i + 1) m' ys' H') ∧ ∀ x H3, J.yld i H2 x H3 → g x (pick ts fr σ) H3 fun σ2 H4 => KeepF ts fr σ σ2 ∧ tc σ2 H4 fun b H5 =>
        if b = true then te σ2 H5 fun y H6 => H6 D = some (.lst ys) ∧ N (ys ++ [y]) (upd H6 D (.lst (ys ++ [y]))) else N ys H5)))
    (hRR : ∀ (D C : Addr) (H' : Hp) (s' : Shared), Inv X pins σ H' s' → k D H' → H' C = none → C ≠ X.env.locals → C ∉ X.fs → X.s₀.heap.objs.size ≤ C → (∀ x c, X.env.cells.lookup x = some c → c ≠ C) → (∀ p ∈ X.pn ++ pins, p.1 ≠ C) → (∃ m, s'.heap.Ns C m) → RR (.ref D) C (.ok .next) s') :
    wpAny (model X.prog X.w) X.A (newList []) (fun acc s₃ => wpAny (model X.prog X.w) X.A (newFunctionEnv scope X.env.globals (clOf X.env scope.names []) [] X.env.qual none .none (some X.env)) (fun cenv s₄ =>
      codeAny (model X.prog X.w) X.A (.compStart (.ListComp elt [⟨tg, iter, ifs, 0⟩] scope pos) 0 (.ref it) acc { cenv with scope := relabel scope X.env }) (RR acc cenv.locals) s₄) E s₃) E s2 := by
  obtain ⟨W, ⟨m0, w0⟩, turn⟩ := h s2.heap.objs.size I2.fresh
  refine wpAny_newObj_type ?_
  have hflt : ∀ b ∈ fp, b < s2.heap.objs.size := fun b hb => by
    obtain ⟨o, e, _⟩ := T.obj _ _ st2 b hb
    exact Heap.lt_size e
  generalize hs3 : ({ s2 with heap := s2.heap.push { cls := .type "list", dict := none, data := .seq ([] : List Value).toArray } } : Shared) = s3
  have I3 : Inv X pins σ (upd H2 s2.heap.objs.size (.lst [])) s3 := by
    rw [← hs3]
    exact I2.lnew (t' := s2.toks) (.nil : Vals [] []) (Nat.zero_le _)
  have sz3 : s3.heap.objs.size = s2.heap.objs.size + 1 := by rw [← hs3]; exact Heap.size_push ..
  have kp3 : ∀ b o, s2.heap.get? b = some o → s3.heap.get? b = some o := fun b o e => by rw [← hs3]; exact Heap.get?_push_of_some _ e
  have f3 : ∀ b ∈ fp, FpOk X pins (upd H2 s2.heap.objs.size (.lst [])) b := fun b hb => ⟨by rw [upd_ne (Nat.ne_of_lt (hflt b hb))]; exact (f2 b hb).1, (f2 b hb).2⟩
  have st3 : tn 0 s3.heap := T.keep _ _ _ st2 fun b _ o e => kp3 b o e
  refine wpAny_newFunctionEnv S.nocell (by intro y hy; simp at hy) (fun h₁ hns₁ hsb₁ => ?_) S.kind
  have kp4 : ∀ b o, s3.heap.get? b = some o → h₁.get? b = some o := fun b o e => hsb₁.extBut b o (Nat.ne_of_lt (Heap.lt_size e)) (Heap.get?_push_of_some _ e)
  have hflt3 : ∀ b ∈ fp, b < s3.heap.objs.size := fun b hb => by rw [sz3]; exact Nat.lt_succ_of_lt (hflt b hb)
  have IC : Inv (cxC X (namesC ts fr) scope s3.heap.objs.size s3 (upd H2 s2.heap.objs.size (.lst [])) fp) [] (pick ts fr σ) (upd H2 s2.heap.objs.size (.lst [])) { s3 with heap := h₁, toks := s3.toks + ([] : List (Str × Value)).length } := by
    refine inv_block S I3 (h₁ := h₁) rfl ?_ kp4 f3 hflt3
    simpa using hns₁
  generalize hXC : cxC X (namesC ts fr) scope s3.heap.objs.size s3 (upd H2 s2.heap.objs.size (.lst [])) fp = XC at IC
  have eP : XC.prog = X.prog := by rw [← hXC]; rfl
  have ew : XC.w = X.w := by rw [← hXC]; rfl
  have eK : XC.K = X.K := by rw [← hXC]; rfl
  have ecalm : XC.calm = true := by rw [← hXC]; exact hc
  have eA : XC.A = X.A := by rw [← hXC]; rfl
  have eex : XC.ex = fp := by rw [← hXC]; rfl
  have eenv : XC.env = compEnvC scope (clOf X.env scope.names []) s3.heap.objs.size X.env := by rw [← hXC]; rfl
  have exe : XC.xe = fun _ _ => False := by rw [← hXC]; rfl
  have hgC : PG XC tg g := by rw [← hXC]; exact hg _ _ _ _
  have htC : PIfs XC ifs tc := by rw [← hXC]; exact ht _ _ _ _
  have heC : PE XC elt te := by rw [← hXC]; exact he _ _ _ _
  have fC : ∀ {H' : Hp}, (∀ b ∈ fp, H' b = none) → ∀ b ∈ fp, FpOk XC [] H' b := fun hn b hb =>
    ⟨hn b hb, (IC.ok.exf b (by rw [eex]; exact hb)).1, IC.ok.exfs b (by rw [eex]; exact hb), .inl (by rw [eex]; exact hb), (IC.ok.exf b (by rw [eex]; exact hb)).2, fun p hp => by
      have : XC.pn = [] := by rw [← hXC]; rfl
      rw [this] at hp
      exact absurd hp (by simp)⟩
  have st4 : tn 0 h₁ := T.keep _ _ _ st3 fun b _ o e => kp4 b o e
  have n4 : ∀ b ∈ fp, upd H2 s2.heap.objs.size (.lst []) b = none := fun b hb => (f3 b hb).1
  have main : codeAny (model X.prog X.w) X.A (.compLoop (.ListComp elt [⟨tg, iter, ifs, 0⟩] scope pos) 0 (.ref it) (.ref s2.heap.objs.size) (compEnvC scope (clOf X.env scope.names []) s3.heap.objs.size X.env))
      (RR (.ref s2.heap.objs.size) s3.heap.objs.size) { s3 with heap := h₁, toks := s3.toks + ([] : List (Str × Value)).length } := by
    rw [← eenv, ← eA]
    refine compLoop_any (fun n s' => ∃ i ys H', Inv XC [] (pick ts fr σ) H' s' ∧ tn i s'.heap ∧ (∀ b ∈ fp, H' b = none) ∧ W i n ys H') ?_ m0 ⟨0, [], _, IC, st4, n4, w0⟩
    rintro n s5 ⟨i, ys, H5, I5, st5, fr5, w5⟩
    obtain ⟨hD, hs⟩ := turn i n ys H5 w5
    rcases hs with ⟨stop, q⟩ | ⟨go, hlen, N, hN, step⟩
    · refine thn (T.done XC eP ew eK ecalm i [] s5 _ H5 _ I5 (fC fr5) st5 stop) fun r s6 ⟨hr, I6⟩ => ?_
      subst hr
      have bC := I6.base
      rw [← hXC] at bC
      have IX : Inv X pins σ H5 s6 := I3.call' (ch := fp) (by have := I6.os; rw [← hXC] at this; exact this) bC (by have := I6.hok; rw [eP, ew] at this; exact this) I6.bare fun b hb => ⟨(f2 b hb).2.2.2.1, (f2 b hb).2.1, (f2 b hb).2.2.2.2.1, (f2 b hb).2.2.2.2.2⟩
      obtain ⟨m6, n6, _⟩ := I6.loc
      have n6' : s6.heap.Ns s3.heap.objs.size m6 := by rw [eenv] at n6; exact n6
      have fr6 : H5 s3.heap.objs.size = none := by have := I6.free; rw [eenv] at this; exact this
      refine hRR _ _ H5 s6 IX q fr6 (Ne.symm (Nat.ne_of_lt I3.lt)) (I3.nofs (Nat.le_refl _)) I3.sz (fun x c e => ?_) (fun p hp => ?_) ⟨m6, n6'⟩
      · obtain ⟨v, o, ho, _⟩ := I3.cell x c e
        exact Nat.ne_of_lt (Heap.lt_size ho)
      · exact Nat.ne_of_lt (Heap.lt_size (I3.pin p hp).1)
    · refine thn (T.item XC eP ew eK ecalm i [] s5 _ H5 _ I5 (fC fr5) st5 go) fun r s6 ⟨u, hr, h6⟩ => ?_
      subst hr
      refine thn h6 fun _ s7 ⟨x, H7, I7, r7, y7, st7, fr7⟩ => ?_
      have I7' := I7.pinned (fC fr7) (T.obj _ _ st7)
      have hgg := hgC _ s7 _ H7 x u _ I7' r7 (step x H7 y7)
      rw [exe, eP, ew] at hgg
      refine thn hgg fun _ s8 ⟨σ8, H8, I8, q8⟩ => ?_
      obtain ⟨kf, q8⟩ := q8
      have htt := htC _ s8 σ8 H8 _ I8 q8
      rw [exe, eP, ew] at htt
      refine thn htt fun b s9 ⟨H9, I9, q9⟩ => ?_
      have again : ∀ {H10 : Hp} {s10 : Shared} {ys' : List V}, Inv XC ([] ++ pinsAt fp s7.heap) σ8 H10 s10 → (∃ m', m' < n ∧ W (i + 1) m' ys' H10) → ∃ m, m < n ∧ ∃ i ys H', Inv XC [] (pick ts fr σ) H' s10 ∧ tn i s10.heap ∧ (∀ b ∈ fp, H' b = none) ∧ W i m ys H' :=
        fun {H10 s10 ys'} I10 ⟨m', hm, w10⟩ => by
          refine ⟨m', hm, i + 1, ys', H10, (I10.unpinned (pins := [])).weak kf.1.symm fun j v e => kf.weak e, T.keep _ _ _ st7 fun b hb o e => (I10.pin (b, o) (List.mem_append_right _ (List.mem_append_right _ (mem_pinsAt hb e)))).1, fun b hb => ?_, w10⟩
          obtain ⟨o, e, d⟩ := T.obj _ _ st7 b hb
          exact (I10.pin (b, o) (List.mem_append_right _ (List.mem_append_right _ (mem_pinsAt hb e)))).2.1
      cases b with
      | false =>
        rw [if_neg Bool.false_ne_true] at q9 ⊢
        exact again I9 (hN _ _ q9)
      | true =>
        rw [if_pos rfl] at q9 ⊢
        have hee := heC _ s9 σ8 H9 _ I9 q9
        rw [exe, eP, ew] at hee
        refine thn hee fun y s10 ⟨yv, H10, I10, ry, hD10, w10⟩ => ?_
        have ha := mt_append (X := XC) _ s10 σ8 H10 (.ref s2.heap.objs.size) [yv] (.ref s2.heap.objs.size) [y] (fun _ H' => N (ys ++ [yv]) H') I10 rfl (.cons ry .nil) ⟨_, _, _, rfl, rfl, hD10, hlen, w10⟩
        rw [exe, eP, ew] at ha
        refine thn ha fun _ s11 ⟨_, H11, I11, _, w11⟩ => ?_
        exact again I11 (hN _ _ w11)
  exact codeAny_compStart_list main (T.self _ 0 _ _ _ st4 main)
/-- [elt for tg in iter ..] as a value -/
theorem pe_comp (hc : X.calm = true) (S : CompScope X ts fr scope) (hi : PI X tg iter wi) (hg : ∀ C s₃ H₃ fp, PG (cxC X (namesC ts fr) scope C s₃ H₃ fp) tg g) (ht : ∀ C s₃ H₃ fp, PIfs (cxC X (namesC ts fr) scope C s₃ H₃ fp) ifs tc)
    (he : ∀ C s₃ H₃ fp, PE (cxC X (namesC ts fr) scope C s₃ H₃ fp) elt te) (hs : ∀ x, foldedSetIterable iter X.env x = pure x := by intro _; rfl) :
    PE X (.ListComp elt [⟨tg, iter, ifs, 0⟩] scope pos) (tComp ts fr wi g tc te) := by
  intro pins s σ H Q I h
  have hfree : ∀ y ∈ scope.names, y.2 = .free → ∃ c, X.env.cells.lookup y.1 = some c := fun y hy hk => I.ok.has y.1 (S.freeC y hy hk)
  rw [eval_ListComp]
  refine wpAny_comprehension_free (use := none) rfl hs (closure_of hfree) S.kind S.locs (thn (hi pins s σ H _ I h) fun xv s1 h1 => thn h1 fun itv s2 h2 => ?_)
  obtain ⟨it, fp, tn, J, H2, rfl, I2, T, st2, f2, q2⟩ := h2
  refine comp_block (RR := fun acc C => compPost (model X.prog X.w) X.A X.xe none (EP X pins σ Q) acc C) hc S hg ht he I2 T st2 f2 q2 ?_
  intro D C H' s' I' q' nC hL hf hz hcl hp hn
  obtain ⟨m, hn⟩ := hn
  refine ⟨m, hn, fun h' hsb => ⟨.ref D, H', I'.turned (t' := s'.toks) (fun b o hb e => hsb.extBut b o hb e) nC hL (.inr hz) hcl hp, rfl, q'⟩⟩
/-- x = [elt for tg in iter ..] -/
def tSetComp (i : Nat) (ts : List Str) (fr : List (Str × Nat)) (wi : TI) (g : TG) (tc : TT) (te : TE) : TS := fun D σ H => tCompK ts fr wi g tc te (fun a H2 => D.nx (σ.set i (some (.ref a))) H2) σ H
theorem ps_setComp {i : Nat} {x : Str} {px spos : Pos} (hN : X.N.Nodup) (hix : X.N[i]? = some x) (hx : X.env.scope.names.lookup x = some .local)
    (hc : X.calm = true) (S : CompScope X ts fr scope) (hi : PI X tg iter wi) (hg : ∀ C s₃ H₃ fp, PG (cxC X (namesC ts fr) scope C s₃ H₃ fp) tg g) (ht : ∀ C s₃ H₃ fp, PIfs (cxC X (namesC ts fr) scope C s₃ H₃ fp) ifs tc)
    (he : ∀ C s₃ H₃ fp, PE (cxC X (namesC ts fr) scope C s₃ H₃ fp) elt te) (hsw : swapsWith (.ListComp elt [⟨tg, iter, ifs, 0⟩] scope pos) (some (.Name x px)) spos.line X.env = pure true := by rfl) (hs : ∀ x, foldedSetIterable iter X.env x = pure x := by intro _; rfl) :
    PS X (.Assign [.Name x px] (.ListComp elt [⟨tg, iter, ifs, 0⟩] scope pos) spos) (tSetComp i ts fr wi g tc te) := by
  intro pins s σ H D I h
  have hfree : ∀ y ∈ scope.names, y.2 = .free → ∃ c, X.env.cells.lookup y.1 = some c := fun y hy hk => I.ok.has y.1 (S.freeC y hy hk)
  rw [exec_Assign_Name_used _ _ _ _ hsw]
  refine wpAny_bind (wpAny_standAt (wpAny_bind ?_))
  show wpAny _ X.A (do let _ ← comprehension (.ListComp elt [⟨tg, iter, ifs, 0⟩] scope pos) scope X.env _ (newList []) false (eval iter X.env) (some (assign (.Name x px) X.env))) _ _ s
  refine wpAny_bind (wpAny_mono (wpAny_comprehension_free (use := some (assign (.Name x px) X.env)) (Q := fun _ s' => SP X pins D .next s') rfl hs (closure_of hfree) S.kind S.locs
    (thn (hi pins s σ H _ I h) fun xv s1 h1 => thn h1 fun itv s2 h2 => ?_)) (fun _ s' hq => wpAny_pure (wpAny_pure hq)) fun _ _ e => e)
  obtain ⟨it, fp, tn, J, H2, rfl, I2, T, st2, f2, q2⟩ := h2
  refine comp_block (RR := fun acc C => compPost (model X.prog X.w) X.A X.xe (some (assign (.Name x px) X.env)) (fun _ s' => SP X pins D .next s') acc C) hc S hg ht he I2 T st2 f2 q2 ?_
  intro a C H' s' I' q' nC hL hf hz hcl hp hn
  obtain ⟨m, hn⟩ := hn
  obtain ⟨oC, es, ep, hoC, hdC, hrC⟩ := id hn
  have Ip : Inv X (pins ++ [(C, oC)]) σ H' s' := I'.pins_of fun p hp' => by
    rcases List.mem_append.mp hp' with z | z
    · exact I'.pin p (List.mem_append_right _ z)
    · have e : p = (C, oC) := by simpa using z
      subst e
      exact ⟨hoC, nC, hL, hf, fun v q => by rw [hdC] at q; cases q⟩
  show wpAny _ X.A (assign (.Name x px) X.env (.ref a)) _ _ s'
  refine thn (pg_name (X := X) (pos := px) hN hix (.inl hx) (.inr hx) (pins ++ [(C, oC)]) s' σ H' (.ref a) (.ref a) (fun σ2 H2 => D.nx σ2 H2) Ip rfl q') fun _ s'' ⟨σ'', H'', I'', q''⟩ => ?_
  have pC := I''.pin (C, oC) (List.mem_append_right _ (List.mem_append_right _ (by simp)))
  refine ⟨m, ⟨oC, es, ep, pC.1, hdC, hrC⟩, fun h' hsb => ⟨σ'', H'', (I''.unpinned (pins := pins)).turned (t' := s''.toks) (fun b o hb e => hsb.extBut b o hb e) pC.2.1 hL (.inr hz) hcl hp, q''⟩⟩
end
/-! ### the forms one uses -/
section
variable {D : Addr} {ts : List Str} {fr : List (Str × Nat)} {σ : St} {g : TG} {tc : TT} {te : TE} {k : Addr → Hp → Prop} {H : Hp}
theorem comp_list {K : PySem.W.Frag} {a : Addr} {xs : List V} (Pv : Nat → List V → Hp → Prop) (h0 : Pv 0 [] (upd H D (.lst []))) (hl : ∀ i ys H, i ≤ xs.length → Pv i ys H → SqL K H a xs ∧ H D = some (.lst ys))
    (hs : ∀ i x ys H, xs[i]? = some x → Pv i ys H → ys.length < sizeLine ∧ g x (pick ts fr σ) H fun σ2 H4 => KeepF ts fr σ σ2 ∧ tc σ2 H4 fun b H5 =>
      if b = true then te σ2 H5 fun y H6 => H6 D = some (.lst ys) ∧ Pv (i + 1) (ys ++ [y]) (upd H6 D (.lst (ys ++ [y]))) else Pv (i + 1) ys H5)
    (hd : ∀ ys H, Pv xs.length ys H → k D H) : CompW (Itl K a) D ts fr σ g tc te k H := by
  refine ⟨fun i m ys H => i ≤ xs.length ∧ m = xs.length - i ∧ Pv i ys H, ⟨xs.length, Nat.zero_le _, rfl, h0⟩, ?_⟩
  rintro i m ys H2 ⟨hi, rfl, hP⟩
  obtain ⟨q1, q2⟩ := hl i ys H2 hi hP
  refine ⟨q2, ?_⟩
  cases e : xs[i]? with
  | none =>
    have hle : xs.length ≤ i := List.getElem?_eq_none_iff.mp e
    have hie : i = xs.length := by omega
    subst hie
    exact .inl ⟨⟨xs, q1, Nat.le_refl _⟩, hd ys H2 hP⟩
  | some x =>
    have hlt : i < xs.length := (List.getElem?_eq_some_iff.mp e).1
    obtain ⟨hz, st⟩ := hs i x ys H2 e hP
    refine .inr ⟨⟨xs, x, q1, e⟩, hz, fun ys' H' => Pv (i + 1) ys' H', fun ys' H' h => ⟨xs.length - (i + 1), by omega, by omega, rfl, h⟩, ?_⟩
    rintro y H3 ⟨rfl, hy⟩
    have ey : y = x := Option.some.inj ((hy xs q1).symm.trans e)
    subst ey
    exact st
theorem comp_tup {K : PySem.W.Frag} {a : Addr} {xs : List V} (Pv : Nat → List V → Hp → Prop) (h0 : Pv 0 [] (upd H D (.lst []))) (hl : ∀ i ys H, i ≤ xs.length → Pv i ys H → SqT K H a xs ∧ H D = some (.lst ys))
    (hs : ∀ i x ys H, xs[i]? = some x → Pv i ys H → ys.length < sizeLine ∧ g x (pick ts fr σ) H fun σ2 H4 => KeepF ts fr σ σ2 ∧ tc σ2 H4 fun b H5 =>
      if b = true then te σ2 H5 fun y H6 => H6 D = some (.lst ys) ∧ Pv (i + 1) (ys ++ [y]) (upd H6 D (.lst (ys ++ [y]))) else Pv (i + 1) ys H5)
    (hd : ∀ ys H, Pv xs.length ys H → k D H) : CompW (Itt K a) D ts fr σ g tc te k H := by
  refine ⟨fun i m ys H => i ≤ xs.length ∧ m = xs.length - i ∧ Pv i ys H, ⟨xs.length, Nat.zero_le _, rfl, h0⟩, ?_⟩
  rintro i m ys H2 ⟨hi, rfl, hP⟩
  obtain ⟨q1, q2⟩ := hl i ys H2 hi hP
  refine ⟨q2, ?_⟩
  cases e : xs[i]? with
  | none =>
    have hle : xs.length ≤ i := List.getElem?_eq_none_iff.mp e
    have hie : i = xs.length := by omega
    subst hie
    exact .inl ⟨⟨xs, q1, Nat.le_refl _⟩, hd ys H2 hP⟩
  | some x =>
    have hlt : i < xs.length := (List.getElem?_eq_some_iff.mp e).1
    obtain ⟨hz, st⟩ := hs i x ys H2 e hP
    refine .inr ⟨⟨xs, x, q1, e⟩, hz, fun ys' H' => Pv (i + 1) ys' H', fun ys' H' h => ⟨xs.length - (i + 1), by omega, by omega, rfl, h⟩, ?_⟩
    rintro y H3 ⟨rfl, hy⟩
    have ey : y = x := Option.some.inj ((hy xs q1).symm.trans e)
    subst ey
    exact st
theorem comp_range {lo : Int} {n : Nat} (Pv : Nat → List V → Hp → Prop) (h0 : Pv 0 [] (upd H D (.lst []))) (hl : ∀ i ys H, i ≤ n → Pv i ys H → H D = some (.lst ys))
    (hs : ∀ i ys H, i < n → Pv i ys H → ys.length < sizeLine ∧ g (.int (lo + i)) (pick ts fr σ) H fun σ2 H4 => KeepF ts fr σ σ2 ∧ tc σ2 H4 fun b H5 =>
      if b = true then te σ2 H5 fun y H6 => H6 D = some (.lst ys) ∧ Pv (i + 1) (ys ++ [y]) (upd H6 D (.lst (ys ++ [y]))) else Pv (i + 1) ys H5)
    (hd : ∀ ys H, Pv n ys H → k D H) : CompW (Itr lo n) D ts fr σ g tc te k H := by
  refine ⟨fun i m ys H => i ≤ n ∧ m = n - i ∧ Pv i ys H, ⟨n, Nat.zero_le _, rfl, h0⟩, ?_⟩
  rintro i m ys H2 ⟨hi, rfl, hP⟩
  refine ⟨hl i ys H2 hi hP, ?_⟩
  by_cases hlt : i < n
  · obtain ⟨hz, st⟩ := hs i ys H2 hlt hP
    refine .inr ⟨hlt, hz, fun ys' H' => Pv (i + 1) ys' H', fun ys' H' h => ⟨n - (i + 1), by omega, by omega, rfl, h⟩, ?_⟩
    rintro y H3 ⟨rfl, rfl⟩
    exact st
  · have hie : i = n := by omega
    subst hie
    exact .inl ⟨Nat.le_refl _, hd ys H2 hP⟩
end
end L2

set_option Elab.async false
set_option linter.all false
set_option maxRecDepth 100000
/-! RULES OF OUR OWN, the second part: list.insert, str.join, isinstance, is, == of data, a dict of the module. -/
namespace L2
open PySem PySem.Spec PyProof.Rows
section
variable {X : Cx}
/-! ### len of a dict -/
theorem call_lenD' : CallR X (.builtin "len") (fun xs H Q => ∃ a kvs, xs = [V.ref a] ∧ H a = some (.dK kvs) ∧ Q (.int kvs.length) H) := by
  intro pins s σ H xs us Q I r h
  obtain ⟨a, kvs, rfl, ha, q⟩ := h
  obtain ⟨u, rfl, ru⟩ := vals1 r
  cases ru
  exact d_len I (.inl ha) fun t s' I' => ⟨.int kvs.length, H, I', ⟨t, rfl⟩, q⟩
/-! ### xs.insert(i, y) -/
def insI (n : Nat) (x : Int) : Nat := if x < 0 then (x + (n : Int)).toNat else min x.toNat n
def insL {α : Type} (xs : List α) (i : Int) (y : α) : List α := xs.take (insI xs.length i) ++ y :: xs.drop (insI xs.length i)
theorem insL_length {α : Type} (xs : List α) (i : Int) (y : α) : (insL xs i y).length = xs.length + 1 := by
  unfold insL
  rw [List.length_append, List.length_cons, List.length_take, List.length_drop]
  omega
theorem insI_nat {n : Nat} {i : Int} (h0 : 0 ≤ i) (h : i ≤ n) : insI n i = i.toNat := by
  unfold insI
  rw [if_neg (by omega)]
  omega
theorem ins_eq (l : List Value) (k : Nat) (y : Value) : (l.toArray.extract 0 k).push y ++ l.toArray.extract k = (l.take k ++ y :: l.drop k).toArray := by
  apply Array.toList_inj.mp
  simp
  exact List.take_of_length_le (by simp)
def rInsert : V → List V → Hp → VK → Prop := fun x vs H Q => ∃ l xs i y, x = .ref l ∧ vs = [.int i, y] ∧ H l = some (.lst xs) ∧ (-(2 ^ 63) ≤ i ∧ i < 2 ^ 63) ∧ xs.length < sizeLine ∧ Q .non (upd H l (.lst (insL xs i y)))
theorem mt_insert : MtM X "list.insert" rInsert := by
  intro pins s σ H x vs v us Q I rx rv h
  obtain ⟨l, xs, i, y, rfl, rfl, hH, ⟨h1, h2⟩, hz, q⟩ := h
  cases rx
  obtain ⟨u1, u, rfl, r1, ru⟩ := rv.two
  obtain ⟨t, rfl⟩ := r1
  obtain ⟨z, its, n, r, hl, e⟩ := I.lstM hH
  have hf : Builtin.List.listFitsIndex i = true := by
    unfold Builtin.List.listFitsIndex
    rw [Bool.and_eq_true]
    exact ⟨decide_eq_true h1, decide_eq_true h2⟩
  refine call_meets F.slot_list_insert ⟨_, e, rfl⟩ F.entry_list_insert (F.args_list_insert_3 _ _ _) (PySem.AutoSeq1.list_insert_list_int_val_1 l its.toArray n i t u (by rw [hf]; decide) (by rw [List.size_toArray]; omega)) ⟨e, ?_⟩
  have hv : Vals (insL xs i y) (its.take (insI its.length i) ++ u :: its.drop (insI its.length i)) := by
    unfold insL
    rw [hl]
    exact (r.take _).append (.cons ru (r.drop _))
  refine ⟨.non, _, I.lset (its' := its.take (insI its.length i) ++ u :: its.drop (insI its.length i)) hH e ?_ hv (by rw [insL_length]; omega), rfl, q⟩
  show (its.toArray.extract 0 (if i < 0 then (i + (its.toArray.size : Int)).toNat else min i.toNat its.toArray.size)).push u ++ its.toArray.extract (if i < 0 then (i + (its.toArray.size : Int)).toNat else min i.toNat its.toArray.size) = _
  rw [ins_eq, List.size_toArray]
  rfl
/-! ### sep.join(xs) -/
theorem strsAre_of : ∀ {ys : List Str} {us : List Value}, Vals (ys.map V.str) us → StrsAre us ys
  | [], _, .nil => .nil
  | y :: ys, _, .cons r t => by
    obtain ⟨k, rfl⟩ := r
    exact .cons y k (strsAre_of t)
def rJoin (K : PySem.W.Frag) : V → List V → Hp → VK → Prop := fun x vs H Q => ∃ z l ys, x = .str z ∧ vs = [.ref l] ∧ SqL K H l (ys.map V.str) ∧ (ys.map (·.length)).sum + ys.length * z.length ≤ 16777216 ∧ Q (.str (Txt.join z ys)) H
theorem mt_join : MtR X "str.join" (rJoin X.K) := by
  intro pins s σ H x vs v us Q I rx rv h
  obtain ⟨z, l, ys, rfl, rfl, hq, hz, q⟩ := h
  obtain ⟨t, rfl⟩ := rx
  obtain ⟨u, rfl, ru⟩ := rv.one
  cases ru
  obtain ⟨its, r, pl, _⟩ := I.list hq
  exact join_list pl.isList (by simpa using strsAre_of r) hz fun t' k => ⟨.str _, H, I.tok _, ⟨_, rfl⟩, q⟩
/-! ### isinstance -/
theorem call_isiT : CallR X (.builtin "isinstance") (fun xs H Q => ∃ x n t b, xs = [x, .ty n] ∧ TyOf X.K H x t ∧ PySem.W.kitOne X.K t (.type n) = some b ∧ Q (.bl b) H) := by
  intro pins s σ H xs us Q I r h
  obtain ⟨x, n, t, b, rfl, ty, e, q⟩ := h
  obtain ⟨u, u2, rfl, r1, r2⟩ := vals2 r
  cases r2
  exact isinst_ok I r1 ty e fun tk => ⟨.bl b, H, I.tok _, rfl, q⟩
theorem call_isiC : CallR X (.builtin "isinstance") (fun xs H Q => ∃ x C t b, xs = [x, .ref C] ∧ TyOf X.K H x t ∧ PySem.W.kitOne X.K t (.ref C) = some b ∧ Q (.bl b) H) := by
  intro pins s σ H xs us Q I r h
  obtain ⟨x, n, t, b, rfl, ty, e, q⟩ := h
  obtain ⟨u, u2, rfl, r1, r2⟩ := vals2 r
  cases r2
  exact isinst_ok I r1 ty e fun tk => ⟨.bl b, H, I.tok _, rfl, q⟩
/-! ### is of bools -/
theorem op_isB : OpR X (compareOp .Is) (fun x y H Q => ∃ a b, x = .bl a ∧ y = .bl b ∧ Q (.bl (a == b)) H) := by
  intro pins s σ H x y v u Q I rx ry h
  obtain ⟨a, b, rfl, rfl, q⟩ := h
  cases rx
  cases ry
  have e : (Value.bool a == Value.bool b) = (a == b) := by cases a <;> cases b <;> decide
  exact wpAny_is_plain rfl (fin_bl I q e.symm)
end

/-! ### data -/
mutual
inductive Dat (K : PySem.W.Frag) (H : Hp) : V → PyData → Prop
  | non : Dat K H .non .none
  | bl (b : Bool) : Dat K H (.bl b) (.bool b)
  | int (i : Int) : Dat K H (.int i) (.int i)
  | str (x : Str) : Dat K H (.str x) (.str x)
  | lst {a : Addr} {xs : List V} {ds : List PyData} : SqL K H a xs → Dats K H xs ds → Dat K H (.ref a) (.list ds)
  | tup {a : Addr} {xs : List V} {ds : List PyData} : SqT K H a xs → Dats K H xs ds → Dat K H (.ref a) (.tuple ds)
inductive Dats (K : PySem.W.Frag) (H : Hp) : List V → List PyData → Prop
  | nil : Dats K H [] []
  | cons {x : V} {xs : List V} {d : PyData} {ds : List PyData} : Dat K H x d → Dats K H xs ds → Dats K H (x :: xs) (d :: ds)
end
theorem Dat.reads {X : Cx} {pins : List (Addr × Obj)} {σ : St} {H : Hp} {s : Shared} (I : Inv X pins σ H s) {v : V} {d : PyData} (h : Dat X.K H v d) : ∀ u, RelV v u → ∃ as, Reads s.heap u d as := by
  refine Dat.rec (K := X.K) (H := H) (motive_1 := fun v d _ => ∀ u, RelV v u → ∃ as, Reads s.heap u d as) (motive_2 := fun xs ds _ => ∀ us, Vals xs us → ∃ as, ReadsAll s.heap us ds as) ?_ ?_ ?_ ?_ ?_ ?_ ?_ ?_ h
  · intro u r; cases r; exact ⟨_, .none⟩
  · intro b u r; cases r; exact ⟨_, .bool b⟩
  · intro i u r; obtain ⟨t, rfl⟩ := r; exact ⟨_, .int i t⟩
  · intro x u r; obtain ⟨t, rfl⟩ := r; exact ⟨_, .str x t⟩
  · intro a xs ds hq _ ih u r
    cases r
    obtain ⟨its, rv, pl, _⟩ := I.list hq
    obtain ⟨o, ho, hc, n, hd⟩ := pl.isList
    obtain ⟨as, ha⟩ := ih its rv
    exact ⟨_, .list ho hc hd (by simpa using ha)⟩
  · intro a xs ds hq _ ih u r
    cases r
    obtain ⟨its, rv, pl, _⟩ := I.tuple hq
    obtain ⟨o, ho, hc, n, hd⟩ := pl
    obtain ⟨as, ha⟩ := ih its rv
    exact ⟨_, .tuple ho hc hd (by simpa using ha)⟩
  · intro us r; cases r; exact ⟨_, .nil⟩
  · intro x xs d ds _ _ ih1 ih2 us r
    cases r with
    | cons r1 r2 =>
      obtain ⟨as, ha⟩ := ih1 _ r1
      obtain ⟨bs, hb⟩ := ih2 _ r2
      exact ⟨_, .cons ha hb⟩
def rEqD (K : PySem.W.Frag) (neg : Bool) : R2 := fun x y H Q => ∃ d e, Dat K H x d ∧ Dat K H y e ∧ (d.canLay0 = true ∧ e.canLay0 = true) ∧ min d.depth e.depth ≤ 190 ∧ Q (.bl (if neg then !PyData.eqv d e else PyData.eqv d e)) H
section
variable {X : Cx} {k : Nat}
theorem op_eqD (hr : Room k X.A) : OpR X (compareOp .Eq) (rEqD X.K false) := by
  intro pins s σ H x y v u Q I rx ry h
  obtain ⟨d, e, hd, he, ⟨c1, c2⟩, hm, q⟩ := h
  obtain ⟨as, ra⟩ := hd.reads I v rx
  obtain ⟨bs, rb⟩ := he.reads I u ry
  have hu := hr.un
  exact PySem.SeqAt.compareEq_reads ra rb c1 c2 (by omega) ⟨.bl _, H, I, rfl, q⟩
theorem op_neD (hr : Room k X.A) : OpR X (compareOp .NotEq) (rEqD X.K true) := by
  intro pins s σ H x y v u Q I rx ry h
  obtain ⟨d, e, hd, he, ⟨c1, c2⟩, hm, q⟩ := h
  obtain ⟨as, ra⟩ := hd.reads I v rx
  obtain ⟨bs, rb⟩ := he.reads I u ry
  have hu := hr.un
  exact PySem.SeqAt.compareNe_reads ra rb c1 c2 (by omega) ⟨.bl _, H, I, rfl, q⟩
end
/-- data stay data where what they lean on stays -/
theorem Dat.mono {K : PySem.W.Frag} {H H' : Hp} {v : V} {d : PyData} (h : Dat K H v d) (hs : Same H H') : Dat K H' v d := by
  refine Dat.rec (K := K) (H := H) (motive_1 := fun v d _ => Dat K H' v d) (motive_2 := fun xs ds _ => Dats K H' xs ds) ?_ ?_ ?_ ?_ ?_ ?_ ?_ ?_ h
  · exact .non
  · intro b; exact .bl b
  · intro i; exact .int i
  · intro x; exact .str x
  · intro a xs ds hq _ ih; exact .lst (hs.seq hq) ih
  · intro a xs ds hq _ ih
    refine .tup ?_ ih
    rcases hq with (hq | ⟨o, hq⟩) | hq
    · exact .inl (.inl (hs _ _ hq))
    · exact .inl (.inr ⟨o, hs _ _ hq⟩)
    · exact .inr hq
  · exact .nil
  · intro x xs d ds _ _ h1 h2; exact .cons h1 h2

/-! ### a dict of the module, read -/
def KDict (P : Program) (w : World) (K : PySem.W.Frag) (a : Addr) (kvs : List (Key × V)) : Prop := ∀ h : Heap, K.In h → ∃ vs, KV kvs vs ∧ h.DictOf (mixKind P w) a vs
def tMGet (a : Addr) (kvs : List (Key × V)) (td ty : TE) : TE := fun σ H Q => td σ H fun x H1 => ty σ H1 fun y H2 => ∃ k v, x = .ref a ∧ y = kV k ∧ valV kvs k = some v ∧ Q v H2
theorem pe_mget {X : Cx} {o i : Expr} {pos : Pos} {td ty : TE} {a : Addr} {kvs : List (Key × V)} (hk : KDict X.prog X.w X.K a kvs) (ho : PE X o td) (hi : PE X i ty) (hs : NoSl i) : PE X (.Subscript o i pos) (tMGet a kvs td ty) := by
  intro pins s σ H Q I h
  refine subD_of PySem.F.slot_dict_getitem.lookup hs (thn (ho pins s σ H _ I h) fun u s1 ⟨x, H1, I1, rx, q1⟩ => thn (hi pins s1 σ H1 _ I1 q1) fun iv s2 ⟨y, H2, I2, ry, k, v, ex, ey, l, q2⟩ => ?_)
  subst ex
  subst ey
  obtain rfl : u = Value.ref a := rx
  obtain ⟨vs, rel, dd⟩ := hk s2.heap I2.kIn
  obtain ⟨w', hw, rw'⟩ := RelO.some_of (v := v) (o := valueAt vs k) (by rw [← l]; exact rel.val k)
  obtain ⟨ob, es, ep, e1, e2, _⟩ := id dd
  exact ⟨⟨ob, e1, e2.1⟩, wpAny_getItem_of (kV_is ry) dd.mapOf hw ⟨v, H2, I2.tok _, rw', q2⟩⟩
end L2
namespace L2
open PySem PySem.Spec PyProof.Rows
/-! ### a cut of a text -/
def rSlS : V → Option Int → Option Int → Hp → VK → Prop := fun x lo hi H Q => ∃ z, x = .str z ∧ z.length ≤ sizeLine ∧ Q (.str (Txt.slice z lo hi)) H
theorem part_of {v : Value} {o : Option Int} (h : IsPart v o) : ∃ l : Option (Int × Tok), v = partValue l ∧ l.map (·.1) = o := by
  cases h with
  | none => exact ⟨Option.none, rfl, rfl⟩
  | int i t => exact ⟨some (i, t), rfl, rfl⟩
theorem pick_all {z : Str} {p : Nat → Bool} (h : z.cps.all p = true) (is : List Nat) : ((is.filterMap (z.cps[·]?)).toArray).all p = true := by
  rw [List.all_toArray, List.all_eq_true]
  intro c hc
  obtain ⟨i, _, e⟩ := List.mem_filterMap.mp hc
  obtain ⟨hi, rfl⟩ := Array.getElem?_eq_some_iff.mp e
  rw [Array.all_eq_true] at h
  exact h i hi
theorem slice_all {z : Str} {p : Nat → Bool} (h : z.cps.all p = true) (lo hi : Option Int) : (Txt.slice z lo hi).cps.all p = true := by
  unfold Txt.slice
  split
  · exact h
  · exact pick_all h _
theorem sl_str {X : Cx} : SlR X rSlS := by
  intro pins s σ H x v vl vu lo hi sl Q I rx hs pl pu h
  obtain ⟨z, rfl, hz, q⟩ := h
  obtain ⟨t, rfl⟩ := rx
  obtain ⟨l, rfl, rfl⟩ := part_of pl
  obtain ⟨u, rfl, rfl⟩ := part_of pu
  refine ⟨"str", _, PySem.F.slot_str_getitem.lookup, typeIs_str s z t, wpAny_getItem_str_slice (l := l) (u := u) (st := none) hs rfl ?_⟩
  have hl := Txt.slice_le z (l.map (·.1)) (u.map (·.1))
  have e : Txt.slice z (l.map (·.1)) (u.map (·.1)) = if (((none : Option (Int × Tok)).map (·.1)).getD 1 == 1 && (slicePicked z l u none).length == z.length) = true then z else ⟨((slicePicked z l u none).filterMap (z.cps[·]?)).toArray⟩ := rfl
  rw [e] at hl q
  unfold sliceMade
  split
  · rename_i hc
    rw [if_pos hc] at q
    exact ⟨.str z, H, I, ⟨t, rfl⟩, q⟩
  · rename_i hc
    rw [if_neg hc] at q hl
    exact ⟨Nat.le_trans hl hz, .str _, H, I.tok _, ⟨_, rfl⟩, q⟩
theorem ix_listK {X : Cx} {K : PySem.W.Frag} (h : X.K = K) : IxR X (rIxL K) := by subst h; exact ix_list
theorem ix_tupK {X : Cx} {K : PySem.W.Frag} (h : X.K = K) : IxR X (rIxT K) := by subst h; exact ix_tup
end L2

set_option Elab.async false
set_option linter.all false
set_option maxRecDepth 100000
/-! RULES OF OUR OWN, the third part: walks by enumerate. -/
namespace L2
open PySem PySem.Spec PyProof.Rows
section
variable {X : Cx} {pins : List (Addr × Obj)} {σ : St} {H : Hp} {s : Shared} {h' : Heap}
/-- records of ours (iterators) have turned -/
theorem Inv.turnedN {t' : Nat} {fp : List Addr} (I : Inv X pins σ H s) (k : ∀ b o, b ∉ fp → s.heap.get? b = some o → h'.get? b = some o) (hf : ∀ b ∈ fp, FpOk X pins H b) : Inv X pins σ H { s with heap := h', toks := t' } := by
  have nit : ∀ b u, H b = some u → b ∉ fp := fun b u e z => by rw [(hf b z).1] at e; cases e
  refine I.step (g' := s.gens) (d' := s.drawn) (ch := fp) (fun b hb => ?_) (fun b o _ _ hc e _ => k b o hc e) (fun b o _ _ hc e _ => ⟨o.slots, k b o hc e⟩) (fun _ _ _ _ n => n)
    (fun b o hc e => ⟨o, k b o hc e⟩) (fun _ _ e => e) (fun _ _ _ e => e) (fun b ps e => ⟨#[], by rw [e]; simp⟩) (fun m hm => ?_) (fun b u e => ?_) I.bare
  · obtain ⟨f0, f1, f2, f3, f4, f5⟩ := hf b hb
    exact ⟨f3, f1, f4, f5⟩
  · obtain ⟨o, es, ep, ho, r⟩ := hm
    exact ⟨o, es, ep, k _ o (fun z => (hf _ z).2.1 rfl) ho, r⟩
  · refine (I.hok b u e).stay (fun c v hc q => k c v ?_ q) (fun _ q => q) fun _ _ q => q
    rcases hc with z | z
    · rw [z]; exact nit b u e
    · exact nit c _ z
/-- .. and a new object is laid and tracked -/
theorem Inv.turnedLaid {t' : Nat} {fp : List Addr} {p : Addr} {o : HO} (I : Inv X pins σ H s) (k : ∀ b u, b ∉ fp → s.heap.get? b = some u → h'.get? b = some u) (hf : ∀ b ∈ fp, FpOk X pins H b) (hp : s.heap.objs.size ≤ p)
    (new : ObjOk X.prog X.w (upd H p o) h' p o) : Inv X pins σ (upd H p o) { s with heap := h', toks := t' } := by
  have hn : H p = none := I.hok.fresh hp
  have nit : ∀ b u, H b = some u → b ∉ fp := fun b u e z => by rw [(hf b z).1] at e; cases e
  have nep : ∀ b u, H b = some u → b ≠ p := fun b u e => ne_of_none e hn
  have nps : ∀ b u, s.heap.get? b = some u → b ≠ p := fun b u e => Nat.ne_of_lt (Nat.lt_of_lt_of_le (Heap.lt_size e) hp)
  refine I.step (g' := s.gens) (d' := s.drawn) (ch := fp) (fun b hb => ?_) (fun b o _ _ hc e _ => k b o hc e) (fun b o _ _ hc e _ => ⟨o.slots, k b o hc e⟩) (fun b u _ e n => by rw [upd_ne (nps b u e)]; exact n)
    (fun b o hc e => ⟨o, k b o hc e⟩) (fun b _ e => by rw [upd_ne (nep b _ e)]; exact e) (fun b _ _ e => by rw [upd_ne (nep b _ e)]; exact e) (fun b ps e => ⟨#[], by rw [upd_ne (nep b _ e), e]; simp⟩) (fun m hm => ?_) (fun b u e => ?_) I.bare
  · obtain ⟨f0, f1, f2, f3, f4, f5⟩ := hf b hb
    exact ⟨f3, f1, f4, f5⟩
  · obtain ⟨o, es, ep, ho, r⟩ := hm
    exact ⟨o, es, ep, k _ o (fun z => (hf _ z).2.1 rfl) ho, r⟩
  · by_cases hb : b = p
    · subst hb
      rw [upd_same] at e
      cases e
      exact new
    · rw [upd_ne hb] at e
      refine (I.hok b u e).stay (fun c v hc q => k c v ?_ q) (fun c q => by rw [upd_ne (nep c _ q)]; exact q) fun c _ q => by rw [upd_ne (nep c _ q)]; exact q
      rcases hc with z | z
      · rw [z]; exact nit b u e
      · exact nit c _ z
end
/-- enumerate over the list at a: pairs of place and item, each a new tuple -/
def Ite (K : PySem.W.Frag) (a : Addr) : It := ⟨fun i H => ∃ xs x, SqL K H a xs ∧ xs[i]? = some x,
  fun i H x H' => ∃ p, x = .ref p ∧ H p = none ∧ ∃ y, (∀ xs, SqL K H a xs → xs[i]? = some y) ∧ H' = upd H p (.tup [.int i, y]), fun i H => ∃ xs, SqL K H a xs ∧ xs.length ≤ i⟩
theorem turn_enum {P : Program} {w : World} {K : PySem.W.Frag} {elts : List Expr} {x1 : Nat} {pos : Pos} (a e it : Addr) (hne : e ≠ it) :
    Turn P w K (.Tuple elts x1 pos) (Ite K a) [e, it] e (fun i h => (∃ old, IsEnum h e it (i : Int) old) ∧ h.IsListIter it a i) where
  mem := by simp
  obj := fun i h st b hb => by
    obtain ⟨⟨old, se⟩, st⟩ := st
    rcases List.mem_cons.mp hb with z | z
    · subst z
      exact ⟨_, se, fun v z => by
        have z' : Data.fields _ = Data.cell v := z
        cases z'⟩
    · have z := List.mem_singleton.mp z
      subst z
      obtain ⟨o, e, c, d⟩ := st
      exact ⟨o, e, fun v z => by rw [d] at z; cases z⟩
  keep := fun i h h' st k => ⟨st.1.elim fun old se => ⟨old, k e (by simp) _ se⟩, st.2.at fun o q => k it (by simp) o q⟩
  item := by
    intro X hP hw hK hc i pins s σ H E I hf st hg
    subst hP hw hK
    obtain ⟨xs, x, hq, hx⟩ := hg
    obtain ⟨its, rv, p, hz⟩ := I.list hq
    obtain ⟨u, hu, ru⟩ := rv.get hx
    obtain ⟨⟨old, se⟩, st⟩ := st
    refine wpAny_pyNext_enum_item se st p.isList (x := u) (by simpa using hu) hne fun h1 heo hit1 ht1 hz1 hk1 => ⟨_, rfl, ?_⟩
    refine wpAny_letOwnedTupleGo_enum heo fun h2 he2 hs2 => ?_
    have hel : e < s.heap.objs.size := Heap.lt_size se
    have hil : it < s.heap.objs.size := by obtain ⟨o, q, _⟩ := st; exact Heap.lt_size q
    have hs2' : Heap.SameBut e h1 h2 := hs2
    have hn : H s.heap.objs.size = none := I.hok.fresh (Nat.le_refl _)
    have ht2 : h2.get? s.heap.objs.size = some { cls := .type "tuple", data := .seq #[.int i s.toks, u] } := (hs2'.2 _ (Nat.ne_of_gt hel)).trans ht1
    refine ⟨.ref s.heap.objs.size, upd H s.heap.objs.size (.tup [.int i, x]), ?_, rfl, ⟨_, rfl, hn, x, fun ys hy => by rw [I.list_inj hy hq]; exact hx, rfl⟩, ?_, fun b hb => ?_⟩
    · refine I.turnedLaid (fp := [e, it]) (t' := s.toks + 1) (fun b o hb q => ?_) hf (Nat.le_refl _) ⟨by show 2 ≤ sizeLine; decide, _, .cons ⟨_, rfl⟩ (.cons ru .nil), ⟨_, ht2, rfl, _, rfl⟩⟩
      have hbe : b ≠ e := fun z => hb (by simp [z])
      have hbi : b ≠ it := fun z => hb (by simp [z])
      exact (hs2'.2 b hbe).trans (hk1 b o hbe hbi q)
    · refine ⟨⟨u, by simpa using he2⟩, hit1.extBut hs2'.extBut (Ne.symm hne)⟩
    · rw [upd_ne (fun z => ?_)]
      · exact (hf b hb).1
      · rcases List.mem_cons.mp hb with y | y
        · exact absurd (y.symm.trans z) (Nat.ne_of_lt hel)
        · exact absurd ((List.mem_singleton.mp y).symm.trans z) (Nat.ne_of_lt hil)
  done := by
    intro X hP hw hK hc i pins s σ H E I hf st hg
    subst hP hw hK
    obtain ⟨xs, hq, hx⟩ := hg
    obtain ⟨its, rv, p, hz⟩ := I.list hq
    obtain ⟨⟨old, se⟩, st⟩ := st
    have hl := rv.length
    exact wpAny_pyNext_enum_end (I.ok.hd hc) se st p.isList (by simp; omega) fun h' eb => ⟨rfl, I.turnedN (fp := [e, it]) (t' := s.toks) (fun b o hb q => eb b o (fun z => hb (by simp [z])) q) hf⟩
  self := fun _ _ _ _ _ st h => st.1.elim fun _ se => wpAny_pyIter_enum se h
end L2
namespace L2
open PySem PySem.Spec PyProof.Rows
section
variable {X : Cx} {elts : List Expr} {x1 : Nat} {tpos : Pos}
def iEnum (K : PySem.W.Frag) (ta : TA) : TI := fun σ H R => ta σ H fun vs H1 => ∃ a, vs = [.ref a] ∧ (∃ xs, SqL K H1 a xs) ∧ R (Ite K a) H1
theorem pi_enum {a : Expr} {ta : TA} {p pos : Pos} (hg : Gl X "enumerate") (hm : X.mg "enumerate" = none) (ha : PA X [a] ta) (hs : starEach [a] X.env = [(false, eval a X.env)] := by rfl) : PI X (.Tuple elts x1 tpos) (.Call (.Name "enumerate" p) [a] [] pos) (iEnum X.K ta) := by
  intro pins s σ H R I h
  refine Call_ (ld_blt I hg hm boot_enumerate (PyProof.Rows.callWith_type1 (thn (ha pos pins s σ H _ I h) fun us s1 ⟨vs, H1, I1, r1, q1⟩ => ?_) hs rfl))
  obtain ⟨a, e, ⟨xs, hq⟩, q⟩ := q1
  subst e
  cases r1 with
  | cons r rr =>
    cases rr
    cases r
    obtain ⟨its, rv, pl, hz⟩ := I1.list hq
    refine call_enumerate_list pl.isList fun h' he hi hsz hk => ?_
    refine wpAny_pyIter_enum he ?_
    have I2 : Inv X pins σ H1 { s1 with heap := h' } := I1.kept (t' := s1.toks) hk
    have n0 : H1 s1.heap.objs.size = none := I1.hok.fresh (Nat.le_refl _)
    have n1 : H1 (s1.heap.objs.size + 1) = none := I1.hok.fresh (Nat.le_succ _)
    refine ⟨s1.heap.objs.size + 1, [s1.heap.objs.size + 1, s1.heap.objs.size], _, _, H1, rfl, I2, turn_enum a (s1.heap.objs.size + 1) s1.heap.objs.size (Nat.succ_ne_self _), ⟨⟨_, he⟩, hi⟩, fun b hb => ?_, q⟩
    rcases List.mem_cons.mp hb with z | z
    · rw [z]; exact I1.fpOk (Nat.le_succ _) n1
    · rw [List.mem_singleton.mp z]; exact I1.fpOk (Nat.le_refl _) n0
end
theorem for_enum {K : PySem.W.Frag} {a : Addr} {xs : List V} {g : TG} {tb : TS} {D : Ends} {σ : St} {H : Hp} (Pv : Nat → St → Hp → Prop) (h0 : Pv 0 σ H) (hl : ∀ i σ H, i ≤ xs.length → Pv i σ H → SqL K H a xs)
    (hs : ∀ i x σ H, xs[i]? = some x → Pv i σ H → ∀ p, H p = none → g (.ref p) σ (upd H p (.tup [.int i, x])) fun σ2 H2 => tb { D with nx := Pv (i + 1), ct := Pv (i + 1), bk := D.nx } σ2 H2) (hd : ∀ σ H, Pv xs.length σ H → D.nx σ H) :
    ∃ W : Nat → Nat → St → Hp → Prop, (∃ m, W 0 m σ H) ∧ ∀ i m σ H, W i m σ H →
      ((Ite K a).stop i H ∧ D.nx σ H) ∨ ((Ite K a).go i H ∧ ∃ N : St → Hp → Prop, (∀ σ' H', N σ' H' → ∃ m', m' < m ∧ W (i + 1) m' σ' H') ∧ ∀ x H', (Ite K a).yld i H x H' → g x σ H' fun σ2 H2 => tb { D with nx := N, ct := N, bk := D.nx } σ2 H2) := by
  refine ⟨fun i m σ H => m = xs.length - i ∧ i ≤ xs.length ∧ Pv i σ H, ⟨xs.length, by simp, Nat.zero_le _, h0⟩, ?_⟩
  rintro i m σ H ⟨rfl, hi, p⟩
  have q := hl i σ H hi p
  by_cases hlt : i < xs.length
  · refine .inr ⟨⟨xs, xs[i], q, by simp [hlt]⟩, Pv (i + 1), fun σ' H' p' => ⟨xs.length - (i + 1), by omega, rfl, hlt, p'⟩, fun x H' y => ?_⟩
    obtain ⟨p1, rfl, hn, z, hz, rfl⟩ := y
    exact hs i z σ _ (hz xs q) p p1 hn
  · have e : i = xs.length := by omega
    subst e
    exact .inl ⟨⟨xs, q, Nat.le_refl _⟩, hd σ H p⟩
section
variable {D : Addr} {ts : List Str} {fr : List (Str × Nat)} {σ : St} {g : TG} {tc : TT} {te : TE} {k : Addr → Hp → Prop} {H : Hp}
theorem comp_enum {K : PySem.W.Frag} {a : Addr} {xs : List V} (Pv : Nat → List V → Hp → Prop) (h0 : Pv 0 [] (upd H D (.lst []))) (hl : ∀ i ys H, i ≤ xs.length → Pv i ys H → SqL K H a xs ∧ H D = some (.lst ys))
    (hs : ∀ i x ys H, xs[i]? = some x → Pv i ys H → ys.length < sizeLine ∧ ∀ p, H p = none → g (.ref p) (pick ts fr σ) (upd H p (.tup [.int i, x])) fun σ2 H4 => KeepF ts fr σ σ2 ∧ tc σ2 H4 fun b H5 =>
      if b = true then te σ2 H5 fun y H6 => H6 D = some (.lst ys) ∧ Pv (i + 1) (ys ++ [y]) (upd H6 D (.lst (ys ++ [y]))) else Pv (i + 1) ys H5)
    (hd : ∀ ys H, Pv xs.length ys H → k D H) : CompW (Ite K a) D ts fr σ g tc te k H := by
  refine ⟨fun i m ys H => i ≤ xs.length ∧ m = xs.length - i ∧ Pv i ys H, ⟨xs.length, Nat.zero_le _, rfl, h0⟩, ?_⟩
  rintro i m ys H2 ⟨hi, rfl, hP⟩
  obtain ⟨q1, q2⟩ := hl i ys H2 hi hP
  refine ⟨q2, ?_⟩
  cases e : xs[i]? with
  | none =>
    have hle : xs.length ≤ i := List.getElem?_eq_none_iff.mp e
    have hie : i = xs.length := by omega
    subst hie
    exact .inl ⟨⟨xs, q1, Nat.le_refl _⟩, hd ys H2 hP⟩
  | some x =>
    have hlt : i < xs.length := (List.getElem?_eq_some_iff.mp e).1
    obtain ⟨hz, st⟩ := hs i x ys H2 e hP
    refine .inr ⟨⟨xs, x, q1, e⟩, hz, fun ys' H' => Pv (i + 1) ys' H', fun ys' H' h => ⟨xs.length - (i + 1), by omega, by omega, rfl, h⟩, ?_⟩
    rintro y H3 ⟨p, rfl, hn, z, hzz, rfl⟩
    have ez : z = x := Option.some.inj ((hzz xs q1).symm.trans e)
    subst ez
    exact st p hn
end
end L2
namespace L2
open PySem PySem.Spec PyProof.Rows
section
variable {X : Cx}
/-! ### all(xs) of bools -/
def rAll (K : PySem.W.Frag) : List V → Hp → VK → Prop := fun xs H Q => ∃ (p : Addr) (bs : List Bool), xs = [.ref p] ∧ SqL K H p (bs.map V.bl) ∧ Q (.bl (bs.all id)) H
theorem range_all (bs : List Bool) : (List.range bs.length).all (fun i => bs.getD i false) = bs.all id := by
  rw [Bool.eq_iff_iff, List.all_eq_true, List.all_eq_true]
  constructor
  · intro h b hb
    obtain ⟨i, hi, rfl⟩ := List.getElem_of_mem hb
    have := h i (List.mem_range.mpr hi)
    rw [List.getD_eq_getElem?_getD, List.getElem?_eq_getElem hi] at this
    exact this
  · intro h i hi
    have hi := List.mem_range.mp hi
    rw [List.getD_eq_getElem?_getD, List.getElem?_eq_getElem hi]
    exact h _ (List.getElem_mem hi)
theorem call_all (hc : X.calm = true) : CallR X (.builtin "all") (rAll X.K) := by
  intro pins s σ H xs us Q I r h
  obtain ⟨p, bs, rfl, hq, q⟩ := h
  obtain ⟨u, rfl, rx⟩ := vals1 r
  cases rx
  obtain ⟨its, r', pl, hz⟩ := I.list hq
  have hlen := r'.length
  rw [List.length_map] at hlen
  obtain ⟨o, ho, hcl, n, hd⟩ := pl.isList
  have hlt : p < s.heap.objs.size := Heap.lt_size ho
  refine call_all_walk (wpAny_pyIter_list pl.isList ⟨s.heap.objs.size, [s.heap.objs.size, p], [s.heap.objs.size], _, _, _, fun i => bs.getD i false, rfl, Walks.list (A := X.A.in1) (show X.A.in1.handled = none from I.ok.hd hc) s.heap.objs.size p (Nat.ne_of_lt hlt) its.toArray, ⟨⟨_, Heap.get?_push_size _ rfl, rfl, rfl⟩, ⟨o, Heap.get?_push_of_some _ ho, hcl, n, hd⟩⟩, ?_, fun h' tk hk => ?_⟩)
  · intro i v s' Q' E' hv hQ'
    have hi : i < its.length := by
      have := (Array.getElem?_eq_some_iff.mp hv).1
      simpa using this
    have hi2 : i < bs.length := by omega
    obtain ⟨w', hw, rw'⟩ := r'.get (i := i) (x := .bl bs[i]) (by rw [List.getElem?_map, List.getElem?_eq_getElem hi2]; rfl)
    have hv' : its[i]? = some v := by simpa using hv
    rw [hw] at hv'
    cases hv'
    cases rw'
    have hQ' : Q' (bs.getD i false) s' := hQ'
    rw [List.getD_eq_getElem?_getD, List.getElem?_eq_getElem hi2] at hQ'
    exact wpAny_truthy_bool hQ'
  · refine ⟨.bl (bs.all id), H, ?_, ?_, q⟩
    · refine I.kept (t' := tk) fun b o' e => hk b o' ?_ (Heap.get?_push_of_some _ e)
      intro z
      rw [List.mem_singleton.mp z] at e
      exact absurd (Heap.lt_size e) (Nat.lt_irrefl _)
    · show Value.bool _ = Value.bool _
      rw [← range_all, List.size_toArray, hlen]
/-! ### xs.count(text) -/
def rCount (K : PySem.W.Frag) : V → List V → Hp → VK → Prop := fun x vs H Q => ∃ (l : Addr) (ys : List Str) (z : Str), x = .ref l ∧ vs = [.str z] ∧ SqL K H l (ys.map V.str) ∧ Q (.int (ys.countP (fun y => decide (y = z)) : Nat)) H
theorem count_in (z : Str) (ys : List Str) : countIn (.str z) (ys.map PyData.str) = (ys.countP (fun y => decide (y = z)) : Nat) := by
  induction ys with
  | nil => rfl
  | cons y ys ih =>
    rw [List.map_cons, List.countP_cons]
    show (if same (.str y) (.str z) = true then 1 else 0) + countIn (.str z) (ys.map PyData.str) = _
    rw [ih]
    have e : same (.str y) (.str z) = decide (y = z) := by
      show (y == z) = decide (y = z)
      by_cases h : y = z
      · subst h; simp
      · rw [decide_eq_false h]; exact beq_eq_false_iff_ne.mpr h
    rw [e]
    by_cases h : y = z
    · simp [h]; omega
    · simp [h]
theorem mt_count : MtR X "list.count" (rCount X.K) := by
  intro pins s σ H x vs v us Q I rx rv h
  obtain ⟨l, ys, z, rfl, rfl, hq, q⟩ := h
  cases rx
  obtain ⟨u, rfl, ru⟩ := vals1 rv
  obtain ⟨t, rfl⟩ := ru
  obtain ⟨its, r', pl, hz⟩ := I.list hq
  refine count_list_strs pl.isList (strsAre_of r') ⟨.int _, H, I.tok _, ⟨s.toks, rfl⟩, ?_⟩
  rw [count_in]
  exact q
/-! ### dict(d) -/
def rDictOf : List V → Hp → VK → Prop := fun xs H Q => ∃ a kvs, xs = [.ref a] ∧ Rd H a (.dK kvs) ∧ ∀ p, H p = none → Q (.ref p) (upd H p (.dK kvs))
theorem call_dictOf : CallR X (.type "dict") rDictOf := by
  intro pins s σ H xs us Q I r h
  obtain ⟨a, kvs, rfl, hq, q⟩ := h
  obtain ⟨u, rfl, rx⟩ := vals1 r
  cases rx
  exact d_copyOf I hq fun p s' hp I' => ⟨.ref p, _, I', rfl, q p hp⟩
/-! ### d == e of two dicts that hold the same ints -/
theorem valV_mem {κ : Type} [DecidableEq κ] : ∀ {kvs : List (κ × V)} {kv : κ × V}, (kvs.map (·.1)).Nodup → kv ∈ kvs → valV kvs kv.1 = some kv.2
  | p :: r, kv, nd, h => by
    rw [List.map_cons, List.nodup_cons] at nd
    rcases List.mem_cons.mp h with rfl | h
    · exact valV_pos rfl
    · rw [valV_neg (fun e => nd.1 (by rw [e]; exact List.mem_map.mpr ⟨kv, h, rfl⟩))]
      exact valV_mem nd.2 h
def rEqK : R2 := fun x y H Q => ∃ a b kvs, x = .ref a ∧ y = .ref b ∧ Rd H a (.dK kvs) ∧ Rd H b (.dK kvs) ∧ (∀ kv ∈ kvs, ∃ i, kv.2 = V.int i) ∧ Q (.bl true) H
theorem op_eqK {k : Nat} (hr : Room k X.A) : OpR X (compareOp .Eq) rEqK := by
  intro pins s σ H x y v u Q I rx ry h
  obtain ⟨a, b, kvs, rfl, rfl, ha, hb, hi, q⟩ := h
  cases rx
  cases ry
  obtain ⟨_, hda, va, ra, da⟩ := dk_rd I.hok ha
  obtain ⟨_, hdb, vb, rb, db⟩ := dk_rd I.hok hb
  have hl : va.length = vb.length := by rw [← ra.length, ← rb.length]
  have hu := hr.un
  have nd : (vb.map (·.1)).Nodup := by obtain ⟨_, _, _, _, _, _, _, _, nd⟩ := db; exact nd
  refine PySem.W.keq_eq hda hdb da db (by omega) (r := true) (fun _ => ?_) ?_
  · have key : ∀ (ks : List (Key × V)) (ws : List (Key × Value)), KV ks ws → (∀ kv ∈ ks, ∃ i, kv.2 = V.int i ∧ valV kvs kv.1 = some (.int i)) → PySem.W.KeqHits X.A.in1 s vb ws true := by
      intro ks ws rel
      unfold KV at rel
      induction rel with
      | nil => intro _; exact .nil
      | @cons p q ps qs h t ih =>
        intro hh
        obtain ⟨i, e1, e2⟩ := hh p (List.mem_cons_self ..)
        obtain ⟨w', hw, rw'⟩ := RelO.some_of (v := .int i) (o := valueAt vb p.1) (by rw [← e2]; exact rb.val p.1)
        obtain ⟨t2, rfl⟩ := rw'
        have h2 := h.2
        rw [e1] at h2
        obtain ⟨t1, e3⟩ := h2
        obtain ⟨q1, q2⟩ := q
        have e4 : p.1 = q1 := h.1
        have e5 : q2 = Value.int i t1 := e3
        subst e4 e5
        have := PySem.W.KeqHits.hit (e := (i == i)) hw (SeqAt.EqAt.int_int i t1 i t2) (ih fun kv hk => hh kv (List.mem_cons_of_mem _ hk))
        rw [beq_self_eq_true] at this
        exact this
    have nk : (kvs.map (·.1)).Nodup := by rw [rb.keys]; exact nd
    refine key kvs va ra fun kv hk => ?_
    obtain ⟨i, e⟩ := hi kv hk
    exact ⟨i, e, by rw [valV_mem nk hk, e]⟩
  · rw [hl, beq_self_eq_true]
    exact ⟨.bl true, H, I, rfl, q⟩
end
end L2

set_option Elab.async false
set_option linter.all false
set_option maxRecDepth 100000
/-! THE PROGRAM'S DATA: defs and promises in short, hangs, lists of hangs. -/
namespace NL
open PySem PySem.Spec PyProof.Rows L2

/-! ### a def of the text, its promise -/
structure Def (K : PySem.W.Frag) (mg : Str → Option Value) (x : Str) (st : Stmt) : Prop where
  ex : ∃ f fd, Fun K x x st f fd ∧ mg x = some (.ref f)
structure Fn (P : Program) (w : World) (K : PySem.W.Frag) (mg : Str → Option Value) (base : Heap) (k : Nat) (x : Str) (ps : List Str) (sp : Sp) : Prop where
  ex : ∃ f fd, FnOk P w K mg base CX0 k f fd ps sp ∧ Binds K fd ps [] ∧ PySem.W.keepIn K (.ref f) = true ∧ mg x = some (.ref f)
/-- the built-in names that the text leaves as they are -/
structure Bl (mg : Str → Option Value) : Prop where
  len : mg "len" = none
  range : mg "range" = none
  isinstance : mg "isinstance" = none
  list : mg "list" = none
  tuple : mg "tuple" = none
  int : mg "int" = none
  str : mg "str" = none
  bool : mg "bool" = none
  dict : mg "dict" = none
  enumerate : mg "enumerate" = none
  zip : mg "zip" = none
  all : mg "all" = none
  sorted : mg "sorted" = none
section
variable {P : Program} {w : World} {K : PySem.W.Frag} {mg : Str → Option Value} {base : Heap}
theorem Def.fn {x : Str} {st : Stmt} {N ps : List Str} {k : Nat} {sp : Sp} (D : Def K mg x st) (S : FnScope N ps (defScope st))
    (hb : ∀ (kV doc pm : Value) (an : Option Addr) (cdv ct : Value) (us : List Value), us.length = ps.length → bindArgs (PySem.W.fnOf x x (defArgs st) (defBody st) (defScope st) .none kV doc pm an cdv ct) ⟨us, []⟩ = pure (ps.zip us))
    (len : ∀ vs H Q E, sp vs H Q E → vs.length = ps.length)
    (hbody : ∀ (f : Addr) (cdv : Value) (A : Around) (outer : List Env) (s : Shared) (H : Hp) (vs : List V) (Q : VK) (E : XK), Room k (A.deeper (envOfC x (defScope st) s.heap.objs.size f cdv)) → sp vs H Q E →
      ∃ t, PSs (cxOf CX0 P w K mg base N x (defScope st) f cdv A outer s H E).nox (defBody st) t ∧ t { nx := fun _ H' => Q .non H', rt := Q } (start N vs) H) : Fn P w K mg base (k + 1) x ps sp := by
  obtain ⟨f, fd, F, m⟩ := D.ex
  exact ⟨f, fd, F.ok S len fun cdv A outer s H vs Q E hr h => hbody f cdv A outer s H vs Q E hr h, F.binds hb, F.kp, m⟩
theorem Fn.mono {x : Str} {ps : List Str} {k j : Nat} {sp : Sp} (F : Fn P w K mg base k x ps sp) (h : k ≤ j) : Fn P w K mg base j x ps sp := by
  obtain ⟨f, fd, G, b, kp, m⟩ := F.ex
  exact ⟨f, fd, G.mono h, b, kp, m⟩
theorem Fn.imp {x : Str} {ps : List Str} {k : Nat} {sp sp' : Sp} (F : Fn P w K mg base k x ps sp) (h : ∀ vs H Q E, sp' vs H Q E → sp vs H Q E) : Fn P w K mg base k x ps sp' := by
  obtain ⟨f, fd, G, b, kp, m⟩ := F.ex
  exact ⟨f, fd, G.imp h, b, kp, m⟩
/-- a promise that can't be asked -/
theorem Def.no {x : Str} {st : Stmt} {ps : List Str} {k : Nat} {sp : Sp} (D : Def K mg x st)
    (hb : ∀ (kV doc pm : Value) (an : Option Addr) (cdv ct : Value) (us : List Value), us.length = ps.length → bindArgs (PySem.W.fnOf x x (defArgs st) (defBody st) (defScope st) .none kV doc pm an cdv ct) ⟨us, []⟩ = pure (ps.zip us))
    (no : ∀ vs H Q E, ¬ sp vs H Q E) : Fn P w K mg base k x ps sp := by
  obtain ⟨f, fd, F, m⟩ := D.ex
  exact ⟨f, fd, ⟨fun vs H Q E h => absurd h (no vs H Q E), fun A outer s H args us vs Q E _ _ _ _ h => absurd h (no vs H Q E)⟩, F.binds hb, F.kp, m⟩
end
theorem pe_fn {X : Cx} {k k' : Nat} {x : Str} {ps : List Str} {sp : Sp} {p pos : Pos} {e : Expr} {es : List Expr} {t : TA} (F : Fn X.prog X.w X.K X.mg X.base k x ps sp) (hr : Room k' X.A) (hg : Gl X x) (ha : PA X (e :: es) t)
    (hk : k ≤ k' := by first | omega | decide) (hdb : (x == ("__debug__" : Str)) = false := by decide) (he : starEach (e :: es) X.env = (false, eval e X.env) :: starEach es X.env := by rfl) (hpl : (backTo pos (starEach es X.env)).any (·.1) = false := by rfl) :
    PE X (.Call (.Name x p) (e :: es) [] pos) (tCall sp [] E0 t) := by
  obtain ⟨f, fd, G, b, kp, m⟩ := F.ex
  exact pe_call G (hr.mono hk) hg m kp b .nil pass0 ha hdb he hpl

/-! ### heaps -/
theorem same_new {H : Hp} {p : Addr} (h : H p = none) (o : HO) : Same H (upd H p o) := fun b u q => by rw [upd_ne (ne_of_none q h)]; exact q
/-- tuples stay -/
def TupK (H H' : Hp) : Prop := ∀ b xs, H b = some (.tup xs) → H' b = some (.tup xs)
theorem TupK.refl (H : Hp) : TupK H H := fun _ _ h => h
theorem TupK.trans {H H1 H2 : Hp} (a : TupK H H1) (b : TupK H1 H2) : TupK H H2 := fun c xs h => b c xs (a c xs h)
theorem TupK.of {H H' : Hp} (s : Same H H') : TupK H H' := fun b xs h => s b _ h
theorem TupK.new {H : Hp} {p : Addr} (h : H p = none) (o : HO) : TupK H (upd H p o) := TupK.of (same_new h o)
theorem TupK.set {H : Hp} {p : Addr} {xs : List V} (h : H p = some (.lst xs)) (o : HO) : TupK H (upd H p o) := fun b ys q => by rw [upd_ne (ne_of q h (by intro z; cases z))]; exact q
/-- all but what stands at cs stays -/
def Keep (cs : List Addr) (H H' : Hp) : Prop := ∀ b o, H b = some o → b ∉ cs → H' b = some o
theorem Keep.refl (cs : List Addr) (H : Hp) : Keep cs H H := fun _ _ h _ => h
theorem Keep.trans {cs : List Addr} {H H1 H2 : Hp} (a : Keep cs H H1) (b : Keep cs H1 H2) : Keep cs H H2 := fun c o h n => b c o (a c o h n) n
theorem Keep.of {cs : List Addr} {H H' : Hp} (s : Same H H') : Keep cs H H' := fun b o h _ => s b o h
theorem Keep.mono {cs ds : List Addr} {H H' : Hp} (k : Keep cs H H') (h : ∀ b ∈ cs, b ∈ ds) : Keep ds H H' := fun b o e n => k b o e fun z => n (h b z)
theorem Keep.upd {cs : List Addr} {H : Hp} {p : Addr} (h : p ∈ cs) (o : HO) : Keep cs H (upd H p o) := fun b u e n => by rw [upd_ne (fun z => n (by rw [z]; exact h))]; exact e

/-! ### pairs of lists -/
section
variable {α β : Type} {F : α → β → Prop}
theorem Paired.getR : ∀ {l₁ : List α} {l₂ : List β} {i : Nat} {b : β}, Paired F l₁ l₂ → l₂[i]? = some b → ∃ a, l₁[i]? = some a ∧ F a b
  | _, _, _, _, .nil, e => by simp at e
  | _, _, 0, _, .cons r _, e => by simp at e; subst e; exact ⟨_, rfl, r⟩
  | _, _, i + 1, b, .cons _ t, e => by
    obtain ⟨u, h1, h2⟩ := Paired.getR (i := i) (b := b) t (by simpa using e)
    exact ⟨u, by simpa using h1, h2⟩
theorem Paired.getL : ∀ {l₁ : List α} {l₂ : List β} {i : Nat} {a : α}, Paired F l₁ l₂ → l₁[i]? = some a → ∃ b, l₂[i]? = some b ∧ F a b
  | _, _, _, _, .nil, e => by simp at e
  | _, _, 0, _, .cons r _, e => by simp at e; subst e; exact ⟨_, rfl, r⟩
  | _, _, i + 1, a, .cons _ t, e => by
    obtain ⟨u, h1, h2⟩ := Paired.getL (i := i) (a := a) t (by simpa using e)
    exact ⟨u, by simpa using h1, h2⟩
theorem Paired.app : ∀ {l₁ m₁ : List α} {l₂ m₂ : List β}, Paired F l₁ l₂ → Paired F m₁ m₂ → Paired F (l₁ ++ m₁) (l₂ ++ m₂)
  | _, _, _, _, .nil, s => s
  | _, _, _, _, .cons r t, s => .cons r (Paired.app t s)
theorem Paired.tak : ∀ {l₁ : List α} {l₂ : List β} (n : Nat), Paired F l₁ l₂ → Paired F (l₁.take n) (l₂.take n)
  | _, _, 0, _ => .nil
  | _, _, _ + 1, .nil => .nil
  | _, _, n + 1, .cons r t => .cons r (Paired.tak n t)
theorem Paired.drp : ∀ {l₁ : List α} {l₂ : List β} (n : Nat), Paired F l₁ l₂ → Paired F (l₁.drop n) (l₂.drop n)
  | _, _, 0, r => r
  | _, _, _ + 1, .nil => .nil
  | _, _, n + 1, .cons _ t => Paired.drp n t
theorem Paired.set' {a : α} {b : β} (r : F a b) : ∀ {l₁ : List α} {l₂ : List β} (n : Nat), Paired F l₁ l₂ → Paired F (l₁.set n a) (l₂.set n b)
  | _, _, _, .nil => .nil
  | _, _, 0, .cons _ t => .cons r t
  | _, _, n + 1, .cons q t => .cons q (Paired.set' r n t)
theorem Paired.ins {l₁ : List α} {l₂ : List β} {a : α} {b : β} (h : Paired F l₁ l₂) (r : F a b) (i : Int) : Paired F (insL l₁ i a) (insL l₂ i b) := by
  unfold insL
  rw [h.length]
  exact Paired.app (Paired.tak _ h) (.cons r (Paired.drp _ h))
theorem Paired.erase : ∀ {l₁ : List α} {l₂ : List β} (n : Nat), Paired F l₁ l₂ → Paired F (l₁.eraseIdx n) (l₂.eraseIdx n)
  | _, _, _, .nil => .nil
  | _, _, 0, .cons _ t => t
  | _, _, n + 1, .cons q t => .cons q (Paired.erase n t)
theorem Paired.imp2 {G : α → β → Prop} (f : ∀ a b, F a b → G a b) : ∀ {l₁ : List α} {l₂ : List β}, Paired F l₁ l₂ → Paired G l₁ l₂
  | _, _, .nil => .nil
  | _, _, .cons r t => .cons (f _ _ r) (Paired.imp2 f t)
end

/-! ### hangs -/
inductive Hang where
  | tip (lt : Bool) (dye : Str) (n : Int)
  | knot (fast : Bool) (l r : Hang)
deriving DecidableEq
def tipW : Bool → Str
  | true => "light"
  | false => "dark"
def knotW : Bool → Str
  | true => "fast"
  | false => "loose"
/-- a text of one to twenty letters from a to z -/
def lower (c : Nat) : Bool := decide (97 ≤ c) && decide (c ≤ 122)
def dyeOk (d : Str) : Bool := d.cps.all lower && (decide (0 < d.cps.size) && decide (d.cps.size ≤ 20))
theorem dyeOk.mk {d : Str} (h1 : d.cps.all lower = true) (h2 : 0 < d.cps.size) (h3 : d.cps.size ≤ 20) : dyeOk d = true := by
  unfold dyeOk
  rw [h1, decide_eq_true h2, decide_eq_true h3]
  rfl
theorem dyeOk.all {d : Str} (h : dyeOk d = true) : d.cps.all lower = true ∧ 0 < d.cps.size ∧ d.cps.size ≤ 20 := by
  unfold dyeOk at h
  rw [Bool.and_eq_true, Bool.and_eq_true] at h
  exact ⟨h.1, of_decide_eq_true h.2.1, of_decide_eq_true h.2.2⟩
theorem all_imp {p q : Nat → Bool} {xs : Array Nat} (h : ∀ c, p c = true → q c = true) (hp : xs.all p = true) : xs.all q = true := by
  rw [Array.all_eq_true] at hp ⊢
  exact fun i hi => h _ (hp i hi)
theorem dyeOk_str {d : Str} (h : dyeOk d = true) : PyData.strOk d = true := all_imp (fun c hc => by
  unfold lower at hc
  rw [Bool.and_eq_true] at hc
  have := of_decide_eq_true hc.2
  exact decide_eq_true (by omega)) (dyeOk.all h).1
namespace Hang
def isTip : Hang → Bool
  | tip .. => true
  | knot .. => false
def word : Hang → Str
  | tip b _ _ => tipW b
  | knot f _ _ => knotW f
def depth : Hang → Nat
  | tip .. => 0
  | knot _ l r => max l.depth r.depth + 1
/-- how many tips -/
def size : Hang → Nat
  | tip .. => 1
  | knot _ l r => l.size + r.size
def tips : Hang → List Hang
  | h@(tip ..) => [h]
  | knot _ l r => l.tips ++ r.tips
def mir : Hang → Hang
  | tip b d n => tip (!b) d n
  | knot f l r => knot (!f) l.mir r.mir
def bare : Hang → Hang
  | tip b d _ => tip b d 0
  | knot f l r => knot f l.bare r.bare
/-- two hangs mirror one another -/
def mirs : Hang → Hang → Bool
  | tip b d _, tip c e _ => b != c && d == e
  | knot f l r, knot g l' r' => f != g && (mirs l l' && mirs r r')
  | _, _ => false
/-- its dyes are texts -/
def ok : Hang → Prop
  | tip _ d _ => dyeOk d = true
  | knot _ l r => l.ok ∧ r.ok
def data : Hang → PyData
  | tip b d n => .tuple [.str (tipW b), .str d, .int n]
  | knot f l r => .tuple [.str (knotW f), l.data, r.data]
theorem size_pos : ∀ h : Hang, 0 < h.size
  | tip .. => Nat.one_pos
  | knot _ l r => Nat.add_pos_left l.size_pos _
theorem tips_length : ∀ h : Hang, h.tips.length = h.size
  | tip .. => rfl
  | knot _ l r => by rw [tips, List.length_append, tips_length l, tips_length r, size]
theorem mir_mir : ∀ h : Hang, h.mir.mir = h
  | tip b d n => by simp [mir]
  | knot f l r => by simp [mir, mir_mir l, mir_mir r]
theorem mir_depth : ∀ h : Hang, h.mir.depth = h.depth
  | tip .. => rfl
  | knot _ l r => by simp [mir, depth, mir_depth l, mir_depth r]
theorem mir_size : ∀ h : Hang, h.mir.size = h.size
  | tip .. => rfl
  | knot _ l r => by simp [mir, size, mir_size l, mir_size r]
theorem mir_ok : ∀ h : Hang, h.ok → h.mir.ok
  | tip .., h => h
  | knot _ l r, h => ⟨mir_ok l h.1, mir_ok r h.2⟩
theorem bare_depth : ∀ h : Hang, h.bare.depth = h.depth
  | tip .. => rfl
  | knot _ l r => by simp [bare, depth, bare_depth l, bare_depth r]
theorem bare_ok : ∀ h : Hang, h.ok → h.bare.ok
  | tip .., h => h
  | knot _ l r, h => ⟨bare_ok l h.1, bare_ok r h.2⟩
theorem data_depth : ∀ h : Hang, h.data.depth = h.depth + 1
  | tip .. => rfl
  | knot _ l r => by
    show max 0 (max l.data.depth (max r.data.depth 0)) + 1 = max l.depth r.depth + 1 + 1
    rw [data_depth l, data_depth r]
    omega
theorem tipW_ok (b : Bool) : PyData.strOk (tipW b) = true := by cases b <;> decide +kernel
theorem knotW_ok (b : Bool) : PyData.strOk (knotW b) = true := by cases b <;> decide +kernel
theorem data_lay : ∀ h : Hang, h.ok → h.data.canLay0 = true
  | tip b d n, h => by
    show (PyData.strOk (tipW b) && (PyData.strOk d && (true && true))) = true
    rw [tipW_ok, dyeOk_str (show dyeOk d = true from h)]
    rfl
  | knot f l r, h => by
    show (PyData.strOk (knotW f) && (l.data.canLay0 && (r.data.canLay0 && true))) = true
    rw [knotW_ok, data_lay l h.1, data_lay r h.2]
    rfl
theorem tipW_inj {a b : Bool} (h : (tipW a == tipW b) = true) : a = b := by revert h; cases a <;> cases b <;> decide +kernel
theorem knotW_inj {a b : Bool} (h : (knotW a == knotW b) = true) : a = b := by revert h; cases a <;> cases b <;> decide +kernel
theorem tip_knot (a b : Bool) : (tipW a == knotW b) = false := by cases a <;> cases b <;> decide +kernel
theorem knot_tip (a b : Bool) : (knotW a == tipW b) = false := by cases a <;> cases b <;> decide +kernel
theorem data_eqv : ∀ g h : Hang, PyData.eqv g.data h.data = true ↔ g = h
  | tip b d n, tip c e m => by
    show ((tipW b == tipW c) && ((d == e) && ((n == m) && true))) = true ↔ _
    rw [Bool.and_eq_true, Bool.and_eq_true, Bool.and_eq_true]
    constructor
    · rintro ⟨h1, h2, h3, _⟩
      rw [tipW_inj h1, eq_of_beq h2, eq_of_beq h3]
    · intro h
      cases h
      simp
  | tip b d n, knot f l r => by
    show ((tipW b == knotW f) && _) = true ↔ _
    rw [tip_knot]
    simp
  | knot f l r, tip b d n => by
    show ((knotW f == tipW b) && _) = true ↔ _
    rw [knot_tip]
    simp
  | knot f l r, knot g l' r' => by
    show ((knotW f == knotW g) && (PyData.eqv l.data l'.data && (PyData.eqv r.data r'.data && true))) = true ↔ _
    rw [Bool.and_eq_true, Bool.and_eq_true, Bool.and_eq_true, data_eqv l l', data_eqv r r']
    constructor
    · rintro ⟨h1, h2, h3, _⟩
      rw [knotW_inj h1, h2, h3]
    · intro h
      cases h
      simp
theorem mirs_iff : ∀ g h : Hang, mirs g h = true ↔ h.bare = g.mir.bare
  | tip b d n, tip c e m => by
    show (b != c && d == e) = true ↔ tip c e 0 = tip (!b) d 0
    rw [Bool.and_eq_true]
    constructor
    · rintro ⟨h1, h2⟩
      rw [eq_of_beq h2]
      cases b <;> cases c <;> simp at h1 ⊢
    · intro h
      injection h with h1 h2 _
      subst h1 h2
      cases b <;> simp
  | tip .., knot .. => by simp [mirs, bare, mir]
  | knot .., tip .. => by simp [mirs, bare, mir]
  | knot f l r, knot g l' r' => by
    show (f != g && (mirs l l' && mirs r r')) = true ↔ knot g l'.bare r'.bare = knot (!f) l.mir.bare r.mir.bare
    rw [Bool.and_eq_true, Bool.and_eq_true, mirs_iff l l', mirs_iff r r']
    constructor
    · rintro ⟨h1, h2, h3⟩
      rw [h2, h3]
      cases f <;> cases g <;> simp at h1 ⊢
    · intro h
      injection h with h1 h2 h3
      refine ⟨?_, h2, h3⟩
      subst h1
      cases f <;> rfl
theorem mirs_comm : ∀ g h : Hang, mirs g h = mirs h g
  | tip b d n, tip c e m => by
    show (b != c && d == e) = (c != b && e == d)
    rw [bne_comm, Bool.beq_comm]
  | tip .., knot .. => rfl
  | knot .., tip .. => rfl
  | knot f l r, knot g l' r' => by
    show (f != g && (mirs l l' && mirs r r')) = (g != f && (mirs l' l && mirs r' r))
    rw [bne_comm, mirs_comm l l', mirs_comm r r']
theorem mirs_self : ∀ g : Hang, mirs g g = false
  | tip b d n => by simp [mirs]
  | knot f l r => by simp [mirs]
end Hang
theorem Hang.isTip_in (h : Hang) : h.isTip = inV (.str h.word) [.str "light", .str "dark"] := by
  cases h with
  | tip b d n => show true = inV (.str (tipW b)) _; cases b <;> decide +kernel
  | knot f l r => show false = inV (.str (knotW f)) _; cases f <;> decide +kernel
theorem Hang.isTip_light {h : Hang} (e : h.word = "light") : h.isTip = true := by
  cases h with
  | tip b d n => rfl
  | knot f l r => revert e; show knotW f = "light" → false = true; cases f <;> decide +kernel
theorem Hang.isTip_dark {h : Hang} (e : ¬ h.word = "light") : h.isTip = decide (V.str h.word = V.str "dark") := by
  cases h with
  | tip b d n => revert e; show ¬ tipW b = "light" → true = decide (V.str (tipW b) = V.str "dark"); cases b <;> decide +kernel
  | knot f l r => revert e; show ¬ knotW f = "light" → false = decide (V.str (knotW f) = V.str "dark"); cases f <;> decide +kernel
/-- the heap bears the hang at v -/
inductive HangAt (H : Hp) : V → Hang → Prop
  | tip {a : Addr} {b : Bool} {d : Str} {n : Int} : H a = some (.tup [.str (tipW b), .str d, .int n]) → HangAt H (.ref a) (.tip b d n)
  | knot {a : Addr} {f : Bool} {vl vr : V} {l r : Hang} : H a = some (.tup [.str (knotW f), vl, vr]) → HangAt H vl l → HangAt H vr r → HangAt H (.ref a) (.knot f l r)
theorem HangAt.mono {H H' : Hp} {v : V} {h : Hang} (x : HangAt H v h) (k : TupK H H') : HangAt H' v h := by
  induction x with
  | tip e => exact .tip (k _ _ e)
  | knot e _ _ i1 i2 => exact .knot (k _ _ e) i1 i2
theorem HangAt.same {H H' : Hp} {v : V} {h : Hang} (x : HangAt H v h) (k : Same H H') : HangAt H' v h := x.mono (.of k)
/-- its tuple: the word ahead -/
theorem HangAt.tup {H : Hp} {v : V} {h : Hang} (x : HangAt H v h) : ∃ a y z, v = .ref a ∧ H a = some (.tup [.str h.word, y, z]) := by
  cases x with
  | tip e => exact ⟨_, _, _, rfl, e⟩
  | knot e _ _ => exact ⟨_, _, _, rfl, e⟩
theorem HangAt.dat {K : PySem.W.Frag} {H : Hp} {v : V} {h : Hang} (x : HangAt H v h) : Dat K H v h.data := by
  induction x with
  | tip e => exact .tup (SqT.of e) (.cons (.str _) (.cons (.str _) (.cons (.int _) .nil)))
  | knot e _ _ i1 i2 => exact .tup (SqT.of e) (.cons (.str _) (.cons i1 (.cons i2 .nil)))
theorem HangAt.inj {H : Hp} {v : V} {g h : Hang} (x : HangAt H v g) (y : HangAt H v h) : g = h := by
  induction x generalizing h with
  | tip e =>
    cases y with
    | tip e' =>
      rw [e] at e'
      injection e' with e1; injection e1 with e2; injection e2 with e3 e4; injection e4 with e5 e6; injection e6 with e7 _
      rw [Hang.tipW_inj (beq_iff_eq.mpr (V.str.inj e3)), V.str.inj e5, V.int.inj e7]
    | knot e' _ _ =>
      rw [e] at e'
      injection e' with e1; injection e1 with e2; injection e2 with e3 _
      have := Hang.tip_knot _ _ ▸ beq_iff_eq.mpr (V.str.inj e3)
      cases this
  | knot e _ _ i1 i2 =>
    cases y with
    | tip e' =>
      rw [e] at e'
      injection e' with e1; injection e1 with e2; injection e2 with e3 _
      have := Hang.knot_tip _ _ ▸ beq_iff_eq.mpr (V.str.inj e3)
      cases this
    | knot e' y1 y2 =>
      rw [e] at e'
      injection e' with e1; injection e1 with e2; injection e2 with e3 e4; injection e4 with e5 e6; injection e6 with e7 _
      subst e5 e7
      rw [Hang.knotW_inj (beq_iff_eq.mpr (V.str.inj e3)), i1 y1, i2 y2]
abbrev HangsAt (H : Hp) : List V → List Hang → Prop := Paired (HangAt H)
theorem HangsAt.mono {H H' : Hp} {vs : List V} {hs : List Hang} (x : HangsAt H vs hs) (k : TupK H H') : HangsAt H' vs hs := Paired.imp2 (fun _ _ h => h.mono k) x
theorem upd_at {H : Hp} {a : Addr} {o o' : HO} (e : o = o') : upd H a o a = some o' := by rw [← e]; exact upd_same
theorem upd_old {H : Hp} {p a : Addr} {o u : HO} (n : H p = none) (h : H a = some o) : upd H p u a = some o := by rw [upd_ne (ne_of_none h n)]; exact h
theorem same_app {H H' : Hp} {a : Addr} {o : HO} (g : Same H H') (h : H a = some o) : H' a = some o := g a o h
theorem same_upd {H M : Hp} {p : Addr} {o : HO} (n : M p = none) (s : Same H M) : Same H (upd M p o) := s.trans (same_new n o)
theorem same_snoc {H M M' : Hp} (g : Same M M') (s : Same H M) : Same H M' := s.trans g
theorem hang_upd {H : Hp} {p : Addr} {o : HO} {v : V} {h : Hang} (n : H p = none) (x : HangAt H v h) : HangAt (upd H p o) v h := x.same (same_new n o)
theorem hang_app {H H' : Hp} {v : V} {h : Hang} (g : Same H H') (x : HangAt H v h) : HangAt H' v h := x.same g
theorem HangsAt.dats {K : PySem.W.Frag} {H : Hp} {vs : List V} {hs : List Hang} (h : HangsAt H vs hs) : Dats K H vs (hs.map Hang.data) := by
  induction h with
  | nil => exact .nil
  | cons r _ ih => exact .cons r.dat ih
theorem lays_ok : ∀ {hs : List Hang}, (∀ h ∈ hs, h.ok) → PyData.canLayAll0 (hs.map Hang.data) = true
  | [], _ => rfl
  | g :: hs, hm => by
    show (g.data.canLay0 && PyData.canLayAll0 (hs.map Hang.data)) = true
    rw [g.data_lay (hm g List.mem_cons_self), lays_ok fun y hy => hm y (List.mem_cons_of_mem _ hy)]
    rfl
end NL

set_option Elab.async false
set_option linter.all false
set_option maxRecDepth 100000
/-! WHAT A SCRIPT MAKES: the drawn numbers, dyes and lofts as plain functions, and the promises of the defs that make them. -/
namespace NL
open PySem PySem.Spec PyProof.Rows L2

/-! ### drawn numbers -/
def stirStep (cell found factor : Int) : Int := found * 10 ^ 9 + (cell * factor + 7919) % 2147483647 * 40692 % 2147483399 / 7
def factors : List Int := [48271, 69621, 39373, 44488]
def stir (cell : Int) : Int := factors.foldl (stirStep cell) 0
theorem stirStep_nonneg {c f z : Int} (h : 0 ≤ f) : 0 ≤ stirStep c f z := by
  unfold stirStep
  have h1 : 0 ≤ (c * z + 7919) % 2147483647 * 40692 % 2147483399 := Int.emod_nonneg _ (by decide)
  have h2 : 0 ≤ (c * z + 7919) % 2147483647 * 40692 % 2147483399 / 7 := Int.ediv_nonneg h1 (by decide)
  have h3 : 0 ≤ f * 10 ^ 9 := Int.mul_nonneg h (by decide)
  omega
theorem stir_nonneg (c : Int) : 0 ≤ stir c := by
  show 0 ≤ stirStep c (stirStep c (stirStep c (stirStep c 0 48271) 69621) 39373) 44488
  exact stirStep_nonneg (stirStep_nonneg (stirStep_nonneg (stirStep_nonneg (Int.le_refl 0))))
/-- the k-th drawn number (k from nought) -/
def cellAt (ns : List Int) (k : Int) : Int := if k < (ns.length : Int) then stir (ns.getD k.toNat 0) else stir 0
theorem cellAt_nonneg (ns : List Int) (k : Int) : 0 ≤ cellAt ns k := by unfold cellAt; split <;> exact stir_nonneg _
def cut {α : Type} (xs : List α) (lo hi : Option Int) : List α := (xs.drop (HT.sIx xs.length 0 lo)).take (HT.sIx xs.length xs.length hi - HT.sIx xs.length 0 lo)
theorem cutV_map {α : Type} (f : α → V) (xs : List α) (lo hi : Option Int) : cutV (xs.map f) lo hi = (cut xs lo hi).map f := by
  unfold cutV cut
  rw [List.length_map, List.map_take, List.map_drop]
theorem cut_length {α : Type} (xs : List α) (lo hi : Option Int) : (cut xs lo hi).length ≤ xs.length := by
  unfold cut
  rw [List.length_take, List.length_drop]
  omega
theorem sIx_of {n d : Nat} {v : Int} (h : 0 ≤ v) : HT.sIx n d (some v) = min v.toNat n := by
  show (if v < 0 then (v + (n : Int)).toNat else min v.toNat n) = min v.toNat n
  rw [if_neg (by omega)]
theorem cut_most {α : Type} (xs : List α) {a b : Int} (h0 : 0 ≤ a) (h : a ≤ b) : ((cut xs (some a) (some b)).length : Int) ≤ b - a := by
  unfold cut
  rw [List.length_take, List.length_drop, sIx_of h0, sIx_of (by omega)]
  omega
def cellsAt (ns : List Int) (a b : Int) : List Int := (cut ns (some a) (some b)).map stir
theorem cellsAt_nonneg {ns : List Int} {a b : Int} : ∀ c ∈ cellsAt ns a b, 0 ≤ c := fun c hc => by
  unfold cellsAt at hc
  obtain ⟨z, _, rfl⟩ := List.mem_map.mp hc
  exact stir_nonneg z

/-! ### dyes -/
def letters : Str := "abcdefghijklmnopqrstuvwxyz"
def letterAt (i : Int) : Str := ⟨#[letters.cps.toList.getD i.toNat 0]⟩
def dyeSize (cell : Int) : Int := if cell % 11 = 5 then 20 else 1 + cell % 3
def dyeStep (cell : Int) : Int := 7 * (cell / 5 % 4)
def dyeLs (cell : Int) : List Str := (List.range (dyeSize cell).toNat).map fun (k : Nat) => letterAt ((cell / 3 + dyeStep cell * (k : Int)) % 26)
def dyeOf (cell : Int) : Str := Txt.join "" (dyeLs cell)
theorem dyeSize_le (cell : Int) : 1 ≤ dyeSize cell ∧ dyeSize cell ≤ 20 := by
  unfold dyeSize
  have := Int.emod_nonneg cell (show (3 : Int) ≠ 0 by decide)
  have := Int.emod_lt_of_pos cell (show (0 : Int) < 3 by decide)
  split <;> omega

theorem join_all {p : Nat → Bool} {sep : Str} (hs : sep.cps.all p = true) : ∀ {ys : List Str}, (∀ y ∈ ys, y.cps.all p = true) → (Str.join sep ys).cps.all p = true
  | [], _ => by show (#[] : Array Nat).all p = true; simp
  | [x], h => h x (by simp)
  | x :: y :: r, h => by
    show (x.cps ++ sep.cps ++ (Str.join sep (y :: r)).cps).all p = true
    rw [Array.all_append, Array.all_append, h x (by simp), hs, join_all hs (fun z hz => h z (List.mem_cons_of_mem _ hz))]
    rfl
theorem letters_ok : ∀ c ∈ letters.cps.toList, lower c = true := by decide +kernel
theorem letterAt_ok (z : Int) : (letterAt (z % 26)).cps.all lower = true := by
  have h1 := Int.emod_nonneg z (show (26 : Int) ≠ 0 by decide)
  have h2 := Int.emod_lt_of_pos z (show (0 : Int) < 26 by decide)
  have hl : letters.cps.toList.length = 26 := by decide +kernel
  have hk : (z % 26).toNat < letters.cps.toList.length := by omega
  have e : letters.cps.toList.getD (z % 26).toNat 0 = letters.cps.toList[(z % 26).toNat] := by rw [List.getD_eq_getElem?_getD, List.getElem?_eq_getElem hk]; rfl
  have := letters_ok _ (List.getElem_mem hk)
  show (#[letters.cps.toList.getD (z % 26).toNat 0] : Array Nat).all _ = true
  rw [e]
  simpa using this
theorem dyeLs_sum1 (c : Int) : ((dyeLs c).map (·.length)).sum = (dyeSize c).toNat := by
  have h1 : ∀ n : Nat, (((List.range n).map fun (k : Nat) => letterAt ((c / 3 + dyeStep c * (k : Int)) % 26)).map (·.length)).sum = n := by
    intro n
    induction n with
    | zero => rfl
    | succ n ih =>
      rw [List.range_succ, List.map_append, List.map_append, List.sum_append, ih]
      rfl
  exact h1 _
theorem dyeOf_size (c : Int) : (dyeOf c).cps.size = (dyeSize c).toNat := by
  have h := PySem.size_glued "" (dyeLs c)
  rw [dyeLs_sum1] at h
  have h0 : ("" : Str).length = 0 := rfl
  rw [h0, Nat.mul_zero] at h
  exact h
theorem dyeOf_ok (c : Int) : dyeOk (dyeOf c) = true := by
  have hz := dyeSize_le c
  refine dyeOk.mk ?_ (by rw [dyeOf_size]; omega) (by rw [dyeOf_size]; omega)
  show (Builtin.Str.glued "" (dyeLs c)).cps.all _ = true
  rw [StrLaws.glued_eq_join]
  refine join_all (by show (#[] : Array Nat).all lower = true; simp) fun y hy => ?_
  obtain ⟨k, _, rfl⟩ := List.mem_map.mp hy
  exact letterAt_ok _

/-! ### numbers of cords -/
def numOf (s st c : Int) : Int := s + st * (c * 21 % 64 + 64 * (c / 64))
def bookS (cell : Int) : Int := cell / 16 % ([10, 1000, 10 ^ (12 : Int).toNat, 10 ^ (29 : Int).toNat] : List Int).getD (cell % 4).toNat 0
def bookT (cell : Int) : Int := ([1, 2, 97, 10 ^ (9 : Int).toNat + 7] : List Int).getD (cell / 4 % 4).toNat 0
theorem mod4 (z : Int) : z % 4 = 0 ∨ z % 4 = 1 ∨ z % 4 = 2 ∨ z % 4 = 3 := by omega
theorem bookT_pos (cell : Int) : 0 < bookT cell ∧ bookT cell < 2 ^ 64 := by
  unfold bookT
  rcases mod4 (cell / 4) with h | h | h | h <;> rw [h] <;> decide
theorem bookS_nonneg (cell : Int) : 0 ≤ bookS cell := by
  unfold bookS
  rcases mod4 cell with h | h | h | h <;> rw [h] <;> exact Int.emod_nonneg _ (by decide)
/-- a hang with new numbers -/
def anew (s st : Int) : Hang → Int → Hang × Int
  | .tip b d _, c => (.tip b d (numOf s st c), c + 1)
  | .knot f l r, c => (.knot f (anew s st l c).1 (anew s st r (anew s st l c).2).1, (anew s st r (anew s st l c).2).2)
theorem anew_bare (s st : Int) : ∀ (h : Hang) (c : Int), (anew s st h c).1.bare = h.bare
  | .tip .., _ => rfl
  | .knot f l r, c => by simp only [anew, Hang.bare, anew_bare s st l, anew_bare s st r]
theorem anew_depth (s st : Int) : ∀ (h : Hang) (c : Int), (anew s st h c).1.depth = h.depth
  | .tip .., _ => rfl
  | .knot f l r, c => by simp only [anew, Hang.depth, anew_depth s st l, anew_depth s st r]
theorem anew_size (s st : Int) : ∀ (h : Hang) (c : Int), (anew s st h c).1.size = h.size
  | .tip .., _ => rfl
  | .knot f l r, c => by simp only [anew, Hang.size, anew_size s st l, anew_size s st r]
theorem anew_ok (s st : Int) : ∀ (h : Hang) (c : Int), h.ok → (anew s st h c).1.ok
  | .tip .., _, h => h
  | .knot f l r, c, h => ⟨anew_ok s st l c h.1, anew_ok s st r _ h.2⟩
theorem anew_c (s st : Int) : ∀ (h : Hang) (c : Int), (anew s st h c).2 = c + (h.size : Int)
  | .tip .., _ => rfl
  | .knot f l r, c => by
    simp only [anew, Hang.size, anew_c s st l, anew_c s st r]
    omega

/-! ### lofts -/
structure LoftD where
  rack : List Hang
  marks : List Int
  spl : List (Hang × Hang)
  s : Int
  st : Int
  c : Int
instance : Inhabited Hang := ⟨.tip true "a" 0⟩
def keepIx (n : Nat) (a b : Int) : List Int := ((List.range n).map fun (k : Nat) => (k : Int)).filter fun k => decide (k ≠ a) && decide (k ≠ b)
namespace LoftD
def addCord (d : LoftD) (cell : Int) : LoftD :=
  let n := numOf d.s d.st d.c
  let y := dyeOf (cell / 7)
  { d with rack := d.rack ++ (if cell / 7 % 2 = 1 then [.tip false y n, .tip true y n] else [.tip true y n, .tip false y n]), marks := d.marks ++ [n, n], c := d.c + 1 }
def tie (d : LoftD) (a b : Int) (fast : Bool) (spot : Int) : LoftD :=
  let keep := keepIx d.rack.length a b
  let at_ := spot % ((keep.length : Int) + 1)
  let one := d.marks.getD a.toNat 0
  let other := d.marks.getD b.toNat 0
  { d with rack := insL (keep.map fun k => d.rack.getD k.toNat default) at_ (.knot fast (d.rack.getD a.toNat default) (d.rack.getD b.toNat default)),
           marks := (insL (keep.map fun k => d.marks.getD k.toNat 0) at_ one).map fun m => if m = other then one else m }
def knotAB (d : LoftD) (cell : Int) : Int × Int :=
  let many := (d.rack.length : Int)
  let a := cell / 7 % many
  let b := cell / 448 % many
  (a, if a = b then (a + 1) % many else b)
def addKnot (d : LoftD) (cell : Int) (good : Bool) : LoftD :=
  let a := (d.knotAB cell).1
  let b := (d.knotAB cell).2
  let loose := (good && decide (d.marks.getD a.toNat 0 = d.marks.getD b.toNat 0)) || (!good && decide (cell % 7 > 3))
  d.tie a b (!loose) (cell / 28672)
def addSplice (d : LoftD) (cell : Int) (good : Bool) : LoftD :=
  let a := cell / 7 % (d.rack.length : Int)
  let hang := d.rack.getD a.toNat default
  let far := anew d.s d.st hang d.c
  let pair := if cell / 448 % 2 = 1 then (far.1.mir, hang) else (hang, far.1.mir)
  let spl := insL d.spl (cell / 1792 % ((d.spl.length : Int) + 1)) pair
  match far.1 with
  | .tip .. => { d with rack := d.rack.set a.toNat far.1, spl := spl, c := far.2 }
  | .knot f l r =>
    if cell / 896 % 2 = 1 ∧ (f = false ∨ good = false) then
      { d with rack := insL (d.rack.set a.toNat l) (a + 1) r, marks := insL d.marks (a + 1) (d.marks.getD a.toNat 0), spl := spl, c := far.2 }
    else { d with rack := d.rack.set a.toNat far.1, spl := spl, c := far.2 }
def step (good : Bool) (d : LoftD) (cell : Int) : LoftD :=
  if cell % 7 < 2 ∨ d.rack.length < 2 then d.addCord cell
  else if cell % 7 = 6 ∧ (d.rack.getD (cell / 7 % (d.rack.length : Int)).toNat default).size < 5 then d.addSplice cell good
  else d.addKnot cell good
end LoftD
def spareIx (d : LoftD) : List Int := ((List.range d.rack.length).map fun (k : Nat) => (k : Int)).filter fun k => decide (d.marks.getD k.toNat 0 ≠ d.marks.getD 0 0)
def loft0 (cell : Int) : LoftD := ⟨[], [], [], bookS cell, bookT cell, 0⟩

/-! ### where they stand -/
/-- a pair of hangs -/
inductive PairAt (H : Hp) : V → Hang × Hang → Prop
  | mk {a : Addr} {v u : V} {g h : Hang} : H a = some (.tup [v, u]) → HangAt H v g → HangAt H u h → PairAt H (.ref a) (g, h)
theorem PairAt.mono {H H' : Hp} {v : V} {p : Hang × Hang} (x : PairAt H v p) (k : TupK H H') : PairAt H' v p := by
  cases x with
  | mk e h1 h2 => exact .mk (k _ _ e) (h1.mono k) (h2.mono k)
abbrev PairsAt (H : Hp) : List V → List (Hang × Hang) → Prop := Paired (PairAt H)
theorem PairsAt.mono {H H' : Hp} {vs : List V} {ps : List (Hang × Hang)} (x : PairsAt H vs ps) (k : TupK H H') : PairsAt H' vs ps := Paired.imp2 (fun _ _ h => h.mono k) x
/-- a book: the next numbers -/
def BookAt (H : Hp) (b : Addr) (s st c : Int) : Prop := H b = some (.lst [.int s, .int st, .int c]) ∧ 0 ≤ s ∧ 0 < st ∧ st < 2 ^ 64 ∧ 0 ≤ c
/-- a loft made since H0, as it lies: its list at L, its parts at R, M, S, B -/
structure LV (H0 H : Hp) (L R M S B : Addr) (vr vm vs vb : List V) : Prop where
  same : Same H0 H
  new : H0 L = none ∧ H0 R = none ∧ H0 M = none ∧ H0 S = none ∧ H0 B = none
  nd : (L ≠ R ∧ L ≠ M ∧ L ≠ S ∧ L ≠ B) ∧ (R ≠ M ∧ R ≠ S ∧ R ≠ B) ∧ (M ≠ S ∧ M ≠ B) ∧ S ≠ B
  l : H L = some (.lst [.ref R, .ref M, .ref S, .ref B])
  r : H R = some (.lst vr)
  m : H M = some (.lst vm)
  s : H S = some (.lst vs)
  b : H B = some (.lst vb)
section
variable {H0 H H' : Hp} {L R M S B R' M' : Addr} {vr vm vs vb : List V}
theorem LV.grow (x : LV H0 H L R M S B vr vm vs vb) (g : Same H H') : LV H0 H' L R M S B vr vm vs vb :=
  ⟨x.same.trans g, x.new, x.nd, g _ _ x.l, g _ _ x.r, g _ _ x.m, g _ _ x.s, g _ _ x.b⟩
theorem same_at {H0 H : Hp} {p : Addr} (s : Same H0 H) (h : H0 p = none) (o : HO) : Same H0 (upd H p o) := fun b u e => by rw [upd_ne (ne_of_none e h)]; exact s b u e
theorem LV.setL (x : LV H0 H L R M S B vr vm vs vb) (hR : R' = R ∨ H0 R' = none) (hM : M' = M ∨ H0 M' = none) (hr : H R' = some (.lst vr)) (hm : H M' = some (.lst vm)) (n1 : L ≠ R') (n2 : L ≠ M') (n3 : R' ≠ M') (n4 : R' ≠ S) (n5 : R' ≠ B) (n6 : M' ≠ S) (n7 : M' ≠ B) :
    LV H0 (upd H L (.lst [.ref R', .ref M', .ref S, .ref B])) L R' M' S B vr vm vs vb := by
  obtain ⟨a1, a2, a3, a4, a5⟩ := x.new
  refine ⟨same_at x.same a1 _, ⟨a1, ?_, ?_, a4, a5⟩, ⟨⟨n1, n2, x.nd.1.2.2.1, x.nd.1.2.2.2⟩, ⟨n3, n4, n5⟩, ⟨n6, n7⟩, x.nd.2.2.2⟩, upd_same, ?_, ?_, ?_, ?_⟩
  · rcases hR with rfl | h
    · exact a2
    · exact h
  · rcases hM with rfl | h
    · exact a3
    · exact h
  · rw [upd_ne n1.symm]; exact hr
  · rw [upd_ne n2.symm]; exact hm
  · rw [upd_ne x.nd.1.2.2.1.symm]; exact x.s
  · rw [upd_ne x.nd.1.2.2.2.symm]; exact x.b
theorem LV.setR (x : LV H0 H L R M S B vr vm vs vb) (v : List V) : LV H0 (upd H R (.lst v)) L R M S B v vm vs vb :=
  ⟨same_at x.same x.new.2.1 _, x.new, x.nd, by rw [upd_ne x.nd.1.1]; exact x.l, upd_same, by rw [upd_ne x.nd.2.1.1.symm]; exact x.m, by rw [upd_ne x.nd.2.1.2.1.symm]; exact x.s, by rw [upd_ne x.nd.2.1.2.2.symm]; exact x.b⟩
theorem LV.setM (x : LV H0 H L R M S B vr vm vs vb) (v : List V) : LV H0 (upd H M (.lst v)) L R M S B vr v vs vb :=
  ⟨same_at x.same x.new.2.2.1 _, x.new, x.nd, by rw [upd_ne x.nd.1.2.1]; exact x.l, by rw [upd_ne x.nd.2.1.1]; exact x.r, upd_same, by rw [upd_ne x.nd.2.2.1.1.symm]; exact x.s, by rw [upd_ne x.nd.2.2.1.2.symm]; exact x.b⟩
theorem LV.setS (x : LV H0 H L R M S B vr vm vs vb) (v : List V) : LV H0 (upd H S (.lst v)) L R M S B vr vm v vb :=
  ⟨same_at x.same x.new.2.2.2.1 _, x.new, x.nd, by rw [upd_ne x.nd.1.2.2.1]; exact x.l, by rw [upd_ne x.nd.2.1.2.1]; exact x.r, by rw [upd_ne x.nd.2.2.1.1]; exact x.m, upd_same, by rw [upd_ne x.nd.2.2.2.symm]; exact x.b⟩
theorem LV.setB (x : LV H0 H L R M S B vr vm vs vb) (v : List V) : LV H0 (upd H B (.lst v)) L R M S B vr vm vs v :=
  ⟨same_at x.same x.new.2.2.2.2 _, x.new, x.nd, by rw [upd_ne x.nd.1.2.2.2]; exact x.l, by rw [upd_ne x.nd.2.1.2.2]; exact x.r, by rw [upd_ne x.nd.2.2.1.2]; exact x.m, by rw [upd_ne x.nd.2.2.2]; exact x.s, upd_same⟩
/-- the book is changed by another def -/
theorem LV.book (x : LV H0 H L R M S B vr vm vs vb) (k : Keep [B] H H') {v : List V} (h : H' B = some (.lst v)) : LV H0 H' L R M S B vr vm vs v := by
  have z : ∀ {y : Addr}, y ≠ B → y ∉ [B] := fun h m => h (by simpa using m)
  refine ⟨fun b o e => k b o (x.same b o e) (z fun w => ?_), x.new, x.nd, k _ _ x.l (z x.nd.1.2.2.2), k _ _ x.r (z x.nd.2.1.2.2), k _ _ x.m (z x.nd.2.2.1.2), k _ _ x.s (z x.nd.2.2.2), h⟩
  rw [w, x.new.2.2.2.2] at e
  cases e
end
/-- the loft at L bears d -/
def LoftK (H0 H : Hp) (L R M S B : Addr) (d : LoftD) : Prop :=
  ∃ vr vs, LV H0 H L R M S B vr (d.marks.map V.int) vs [.int d.s, .int d.st, .int d.c] ∧ HangsAt H vr d.rack ∧ PairsAt H vs d.spl ∧ 0 ≤ d.s ∧ 0 < d.st ∧ d.st < 2 ^ 64 ∧ 0 ≤ d.c

/-! ### sizes: what keeps every walk within its bounds -/
theorem Hang.size_le : ∀ h : Hang, h.size ≤ 2 ^ h.depth
  | .tip .. => Nat.le_refl _
  | .knot _ l r => by
    have h1 := size_le l
    have h2 := size_le r
    have h3 : 2 ^ l.depth ≤ 2 ^ max l.depth r.depth := Nat.pow_le_pow_right (by decide) (Nat.le_max_left _ _)
    have h4 : 2 ^ r.depth ≤ 2 ^ max l.depth r.depth := Nat.pow_le_pow_right (by decide) (Nat.le_max_right _ _)
    show l.size + r.size ≤ 2 ^ (max l.depth r.depth + 1)
    rw [Nat.pow_succ]
    omega
def HangOk (n : Nat) (h : Hang) : Prop := h.ok ∧ h.depth ≤ n
theorem HangOk.mono {n m : Nat} {h : Hang} (x : HangOk n h) (l : n ≤ m) : HangOk m h := ⟨x.1, Nat.le_trans x.2 l⟩
structure LoftD.Small (d : LoftD) (n : Nat) : Prop where
  len : d.marks.length = d.rack.length
  rack : d.rack.length ≤ 2 * n
  spl : d.spl.length ≤ n
  each : ∀ h ∈ d.rack, HangOk n h
  pairs : ∀ p ∈ d.spl, HangOk n p.1 ∧ HangOk n p.2

/-! ### the promises -/
def spStir : Sp := fun vs H Q _ => ∃ c, vs = [.int c] ∧ ∀ H', Same H H' → Q (.int (stir c)) H'
def spCell (K : PySem.W.Frag) : Sp := fun vs H Q _ => ∃ a ns k, vs = [.ref a, .int k] ∧ SqL K H a (ns.map V.int) ∧ 0 ≤ k ∧ ∀ H', Same H H' → Q (.int (cellAt ns k)) H'
def spCells (K : PySem.W.Frag) : Sp := fun vs H Q _ => ∃ a ns lo hi, vs = [.ref a, .int lo, .int hi] ∧ SqL K H a (ns.map V.int) ∧ ns.length ≤ 1000 ∧
  ∀ r H', Same H H' → H r = none → H' r = some (.lst ((cellsAt ns lo hi).map V.int)) → Q (.ref r) H'
def spDye : Sp := fun vs H Q _ => ∃ c, vs = [.int c] ∧ ∀ H', Same H H' → Q (.str (dyeOf c)) H'
def spBook : Sp := fun vs H Q _ => ∃ c, vs = [.int c] ∧ ∀ r H', Same H H' → H r = none → H' r = some (.lst [.int (bookS c), .int (bookT c), .int 0]) → Q (.ref r) H'
def spNumber : Sp := fun vs H Q _ => ∃ b s st c, vs = [.ref b] ∧ BookAt H b s st c ∧ Q (.int (numOf s st c)) (upd H b (.lst [.int s, .int st, .int (c + 1)]))
def spIsTip : Sp := fun vs H Q _ => ∃ v h, vs = [v] ∧ HangAt H v h ∧ ∀ H', Same H H' → Q (.bl h.isTip) H'
def spTips (n : Nat) : Sp := fun vs H Q _ => ∃ v h, vs = [v] ∧ HangAt H v h ∧ h.depth < n ∧ h.size ≤ 4194304 ∧ ∀ r us H', Same H H' → H r = none → H' r = some (.lst us) → HangsAt H' us h.tips → Q (.ref r) H'
/-- a hang of a hang: f tells which -/
def spMap (f : Hang → Hang) (n : Nat) : Sp := fun vs H Q _ => ∃ v h, vs = [v] ∧ HangAt H v h ∧ h.depth < n ∧ ∀ r H', Same H H' → HangAt H' r (f h) → Q r H'
def spAnew (n : Nat) : Sp := fun vs H Q _ => ∃ v h b s st c, vs = [v, .ref b] ∧ HangAt H v h ∧ h.depth < n ∧ BookAt H b s st c ∧
  ∀ r H', Keep [b] H H' → BookAt H' b s st (anew s st h c).2 → HangAt H' r (anew s st h c).1 → Q r H'
/-! ### hangs asked and changed -/
def spMirs (n : Nat) : Sp := fun vs H Q _ => ∃ v u g h, vs = [v, u] ∧ HangAt H v g ∧ HangAt H u h ∧ g.depth < n ∧ ∀ H', Same H H' → Q (.bl (g.mirs h)) H'
def mirD : List (Key × V) := [(.inr "light", .str "dark"), (.inr "dark", .str "light"), (.inr "fast", .str "loose"), (.inr "loose", .str "fast")]
theorem mirD_get (h : Hang) : valV (mergeK [] mirD) (Sum.inr h.word) = some (.str h.mir.word) := by
  cases h with
  | tip b d n => cases b <;> (simp only [Hang.word, Hang.mir]; decide +kernel)
  | knot f l r => cases f <;> (simp only [Hang.word, Hang.mir]; decide +kernel)
theorem mirD_get' (h : Hang) : valV mirD (Sum.inr h.word) = some (.str h.mir.word) := by
  cases h with
  | tip b d n => cases b <;> (simp only [Hang.word, Hang.mir]; decide +kernel)
  | knot f l r => cases f <;> (simp only [Hang.word, Hang.mir]; decide +kernel)
theorem same_two {H : Hp} {p : Addr} (h : H p = none) (o u : HO) : Same H (upd (upd H p o) p u) := by rw [upd_upd]; exact same_new h u
namespace Hang
def knots : Hang → Nat
  | tip .. => 0
  | knot _ l r => 1 + l.knots + r.knots
def turned : Hang → Int → Hang
  | h@(tip ..), _ => h
  | h@(knot f l r), at_ => if at_ < 0 ∨ at_ ≥ (h.knots : Int) then h else if at_ = 0 then knot (!f) l r else knot f (l.turned (at_ - 1)) (r.turned (at_ - 1 - (l.knots : Int)))
def withTip : Hang → Int → Hang → Hang
  | tip .., _, t => t
  | knot f l r, at_, t => if at_ < (l.size : Int) then knot f (l.withTip at_ t) r else knot f l (r.withTip (at_ - (l.size : Int)) t)
theorem turned_depth : ∀ (h : Hang) (k : Int), (h.turned k).depth = h.depth
  | tip .., _ => rfl
  | knot f l r, k => by
    unfold turned
    split
    · rfl
    · split
      · rfl
      · simp only [depth, turned_depth l, turned_depth r]
theorem turned_ok : ∀ (h : Hang) (k : Int), h.ok → (h.turned k).ok
  | tip .., _, h => h
  | knot f l r, k, h => by
    unfold turned
    split
    · exact h
    · split
      · exact h
      · exact ⟨turned_ok l _ h.1, turned_ok r _ h.2⟩
theorem withTip_depth : ∀ (h : Hang) (k : Int) (t : Hang), (h.withTip k t).depth ≤ h.depth + t.depth
  | tip .., _, t => by simp [withTip, depth]
  | knot f l r, k, t => by
    have := withTip_depth l k t
    have := withTip_depth r (k - (l.size : Int)) t
    unfold withTip
    split <;> simp only [depth] <;> omega
theorem withTip_ok : ∀ (h : Hang) (k : Int) (t : Hang), h.ok → t.ok → (h.withTip k t).ok
  | tip .., _, t, _, ht => ht
  | knot f l r, k, t, h, ht => by
    unfold withTip
    split
    · exact ⟨withTip_ok l _ t h.1 ht, h.2⟩
    · exact ⟨h.1, withTip_ok r _ t h.2 ht⟩
end Hang
def spMany (n : Nat) : Sp := fun vs H Q _ => ∃ v h, vs = [v] ∧ HangAt H v h ∧ h.depth < n ∧ ∀ H', Same H H' → Q (.int (h.knots : Int)) H'
def spTurned (n : Nat) : Sp := fun vs H Q _ => ∃ v h k, vs = [v, .int k] ∧ HangAt H v h ∧ h.depth < n ∧ ∀ r H', Same H H' → HangAt H' r (h.turned k) → Q r H'
def spWithTip (n : Nat) : Sp := fun vs H Q _ => ∃ v h k u t, vs = [v, .int k, u] ∧ HangAt H v h ∧ h.depth < n ∧ h.size ≤ 4194304 ∧ HangAt H u t ∧ ∀ r H', Same H H' → HangAt H' r (h.withTip k t) → Q r H'
/-- a hang is asked whether it is one -/
def spIsHang (n : Nat) : Sp := fun vs H Q _ => ∃ v h, vs = [v] ∧ HangAt H v h ∧ h.depth < n ∧ ∀ H', Same H H' → Q (.bl true) H'
def spWhole : Sp := fun vs H Q _ => ∃ i, vs = [.int i] ∧ ∀ H', Same H H' → Q (.bl true) H'
def spTruth : Sp := fun vs H Q _ => ∃ a b, vs = [.bl a, .bl b] ∧ ∀ H', Same H H' → Q (.bl (a == b)) H'

/-! ### promises about lofts -/
theorem Keep.tup {cs : List Addr} {H H' : Hp} (k : Keep cs H H') (h : ∀ c ∈ cs, ∃ xs, H c = some (.lst xs)) : TupK H H' := fun b xs e => k b _ e fun z => by
  obtain ⟨ys, q⟩ := h b z
  rw [e] at q
  cases q
theorem BookAt.keep1 {H H' : Hp} {b : Addr} {s st c : Int} (k : Keep [b] H H') (h : BookAt H b s st c) : TupK H H' := k.tup fun x hx => by
  have : x = b := by simpa using hx
  subst this
  exact ⟨_, h.1⟩
theorem atI_some {α : Type} {xs : List α} {a : Int} (h0 : 0 ≤ a) (h : a < (xs.length : Int)) : ∃ v, atI xs a = some v ∧ xs[a.toNat]? = some v := by
  have hk : a.toNat < xs.length := by omega
  have q : atI xs ((a.toNat : Nat) : Int) = some xs[a.toNat] := atI_nat (List.getElem?_eq_getElem hk)
  rw [show ((a.toNat : Nat) : Int) = a by omega] at q
  exact ⟨_, q, List.getElem?_eq_getElem hk⟩
theorem atI_int {ms : List Int} {a : Int} (h0 : 0 ≤ a) (h : a < (ms.length : Int)) : atI (ms.map V.int) a = some (.int (ms.getD a.toNat 0)) := by
  obtain ⟨v, h1, h2⟩ := atI_some (xs := ms.map V.int) h0 (by rw [List.length_map]; exact h)
  rw [h1, List.getD_eq_getElem?_getD]
  rw [List.getElem?_map] at h2
  cases e : ms[a.toNat]? with
  | none => rw [e] at h2; cases h2
  | some z => rw [e] at h2; exact congrArg some (Option.some.inj h2).symm
theorem hang_at {H : Hp} {vr : List V} {hs : List Hang} {a : Int} (p : HangsAt H vr hs) (h0 : 0 ≤ a) (h : a < (hs.length : Int)) : ∃ v, atI vr a = some v ∧ HangAt H v (hs.getD a.toNat default) := by
  obtain ⟨v, h1, h2⟩ := atI_some (xs := vr) h0 (by rw [p.length]; exact h)
  obtain ⟨g, h3, h4⟩ := Paired.getL p h2
  refine ⟨v, h1, ?_⟩
  rw [List.getD_eq_getElem?_getD, h3]
  exact h4
theorem getD_ok {α : Type} {xs : List α} {i : Nat} {d : α} {p : α → Prop} (h : ∀ x ∈ xs, p x) (hi : i < xs.length) : p (xs.getD i d) := by
  rw [List.getD_eq_getElem?_getD, List.getElem?_eq_getElem hi]
  exact h _ (List.getElem_mem hi)
theorem keepIx_mem {n : Nat} {a b k : Int} (h : k ∈ keepIx n a b) : 0 ≤ k ∧ k < n ∧ k ≠ a ∧ k ≠ b := by
  unfold keepIx at h
  obtain ⟨h1, h2⟩ := List.mem_filter.mp h
  obtain ⟨j, hj, rfl⟩ := List.mem_map.mp h1
  have := List.mem_range.mp hj
  rw [Bool.and_eq_true] at h2
  exact ⟨by omega, by omega, of_decide_eq_true h2.1, of_decide_eq_true h2.2⟩
theorem keepIx_length (n : Nat) (a b : Int) : (keepIx n a b).length ≤ n := by
  unfold keepIx
  refine Nat.le_trans (List.length_filter_le _ _) ?_
  rw [List.length_map, List.length_range]
  exact Nat.le_refl _
/-! ### how lofts grow -/
theorem sum_append_nat (xs ys : List Nat) : (xs ++ ys).sum = xs.sum + ys.sum := List.sum_append
theorem insL_mem {α : Type} {xs : List α} {i : Int} {y z : α} (h : z ∈ insL xs i y) : z = y ∨ z ∈ xs := by
  unfold insL at h
  rcases List.mem_append.mp h with h | h
  · exact .inr (List.mem_of_mem_take h)
  · rcases List.mem_cons.mp h with h | h
    · exact .inl h
    · exact .inr (List.mem_of_mem_drop h)
theorem insL_sum {α : Type} (f : α → Nat) (xs : List α) (i : Int) (y : α) : ((insL xs i y).map f).sum = (xs.map f).sum + f y := by
  unfold insL
  rw [List.map_append, List.map_cons, List.sum_append, List.sum_cons]
  have e : ((xs.take (insI xs.length i)).map f).sum + ((xs.drop (insI xs.length i)).map f).sum = (xs.map f).sum := by
    rw [← List.sum_append, ← List.map_append, List.take_append_drop]
  omega
theorem set_sum {α : Type} (f : α → Nat) : ∀ (xs : List α) (i : Nat) (y d : α), i < xs.length → ((xs.set i y).map f).sum + f (xs.getD i d) = (xs.map f).sum + f y
  | [], _, _, _, h => by simp at h
  | x :: xs, 0, y, d, _ => by
    show f y + (xs.map f).sum + f x = f x + (xs.map f).sum + f y
    omega
  | x :: xs, i + 1, y, d, h => by
    have ih := set_sum f xs i y d (by simpa using h)
    show f x + ((xs.set i y).map f).sum + f (xs.getD i d) = f x + (xs.map f).sum + f y
    omega
theorem mem_le_sum {α : Type} (f : α → Nat) : ∀ {xs : List α} {x : α}, x ∈ xs → f x ≤ (xs.map f).sum
  | y :: ys, x, h => by
    rw [List.map_cons, List.sum_cons]
    rcases List.mem_cons.mp h with rfl | h
    · omega
    · have := mem_le_sum f h
      omega
theorem default_ok (n : Nat) : HangOk n (default : Hang) := ⟨by show dyeOk "a" = true; decide +kernel, Nat.zero_le _⟩
theorem getD_ok' {n : Nat} {xs : List Hang} (h : ∀ x ∈ xs, HangOk n x) (i : Nat) : HangOk n (xs.getD i default) := by
  rw [List.getD_eq_getElem?_getD]
  cases e : xs[i]? with
  | none => exact default_ok n
  | some x => exact h x (List.mem_of_getElem? e)
theorem LoftD.Small.addCord {d : LoftD} {n : Nat} (x : d.Small n) (cell : Int) : (d.addCord cell).Small (n + 1) := by
  have hl : ∀ (a b c e : Hang), (if cell / 7 % 2 = 1 then [a, b] else [c, e]).length = 2 := fun a b c e => by split <;> rfl
  refine ⟨?_, ?_, Nat.le_succ_of_le x.spl, ?_, fun p hp => ⟨(x.pairs p hp).1.mono (Nat.le_succ _), (x.pairs p hp).2.mono (Nat.le_succ _)⟩⟩
  · show (d.marks ++ [_, _]).length = (d.rack ++ _).length
    rw [List.length_append, List.length_append, hl, x.len]
    rfl
  · show (d.rack ++ _).length ≤ _
    rw [List.length_append, hl]
    have := x.rack
    omega
  · intro h hm
    have hm : h ∈ d.rack ++ _ := hm
    rcases List.mem_append.mp hm with hm | hm
    · exact (x.each h hm).mono (Nat.le_succ _)
    · have key : ∀ b, HangOk (n + 1) (.tip b (dyeOf (cell / 7)) (numOf d.s d.st d.c)) := fun b => ⟨dyeOf_ok _, Nat.zero_le _⟩
      split at hm
      · rcases List.mem_cons.mp hm with rfl | hm
        · exact key _
        · rw [List.mem_singleton.mp hm]; exact key _
      · rcases List.mem_cons.mp hm with rfl | hm
        · exact key _
        · rw [List.mem_singleton.mp hm]; exact key _
theorem keepIx_len2 {n : Nat} {a : Int} (b : Int) (h0 : 0 ≤ a) (h : a < n) : (keepIx n a b).length < n := by
  unfold keepIx
  have hl : ((List.range n).map fun (k : Nat) => (k : Int)).length = n := by rw [List.length_map, List.length_range]
  refine Nat.lt_of_lt_of_le (List.length_filter_lt_length_iff_exists.mpr ⟨a, ?_, ?_⟩) (Nat.le_of_eq hl)
  · exact List.mem_map.mpr ⟨a.toNat, List.mem_range.mpr (by omega), by omega⟩
  · simp
theorem keepIx_succ (n : Nat) (a b : Int) : keepIx (n + 1) a b = keepIx n a b ++ (if (decide (((n : Nat) : Int) ≠ a) && decide (((n : Nat) : Int) ≠ b)) = true then [(n : Int)] else []) := by
  unfold keepIx
  rw [List.range_succ, List.map_append, List.filter_append, List.map_cons, List.map_nil]
  congr 1
  rw [List.filter_cons, List.filter_nil]
theorem LoftD.Small.tie {d : LoftD} {n : Nat} (x : d.Small n) {a : Int} (b : Int) (f : Bool) (spot : Int) (h0 : 0 ≤ a) (h1 : a < d.rack.length) : (d.tie a b f spot).Small (n + 1) := by
  have hk := keepIx_len2 b h0 h1
  refine ⟨?_, ?_, Nat.le_succ_of_le x.spl, ?_, fun p hp => ⟨(x.pairs p hp).1.mono (Nat.le_succ _), (x.pairs p hp).2.mono (Nat.le_succ _)⟩⟩
  · show (List.map _ (insL _ _ _)).length = (insL _ _ _).length
    rw [List.length_map, insL_length, insL_length, List.length_map, List.length_map]
  · show (insL _ _ _).length ≤ _
    rw [insL_length, List.length_map]
    have := x.rack
    omega
  · intro h hm
    have hm : h ∈ insL _ _ _ := hm
    rcases insL_mem hm with rfl | hm
    · have q1 := getD_ok' x.each a.toNat
      have q2 := getD_ok' x.each b.toNat
      exact ⟨⟨q1.1, q2.1⟩, by show max _ _ + 1 ≤ n + 1; have := q1.2; have := q2.2; omega⟩
    · obtain ⟨k, _, rfl⟩ := List.mem_map.mp hm
      exact (getD_ok' x.each _).mono (Nat.le_succ _)
theorem LoftD.Small.addKnot {d : LoftD} {n : Nat} (x : d.Small n) (cell : Int) (good : Bool) (h : 0 < d.rack.length) : (d.addKnot cell good).Small (n + 1) :=
  x.tie _ _ _ (Int.emod_nonneg _ (by omega)) (Int.emod_lt_of_pos _ (by omega))
theorem LoftD.Small.addSplice {d : LoftD} {n : Nat} (x : d.Small n) (cell : Int) (good : Bool) : (d.addSplice cell good).Small (n + 1) := by
  have qh := getD_ok' x.each (cell / 7 % (d.rack.length : Int)).toNat
  have qf : HangOk n (anew d.s d.st (d.rack.getD (cell / 7 % (d.rack.length : Int)).toNat default) d.c).1 := ⟨anew_ok _ _ _ _ qh.1, by rw [anew_depth]; exact qh.2⟩
  have qm : HangOk n (anew d.s d.st (d.rack.getD (cell / 7 % (d.rack.length : Int)).toNat default) d.c).1.mir := ⟨Hang.mir_ok _ qf.1, by rw [Hang.mir_depth]; exact qf.2⟩
  have hr : d.rack.length ≤ 2 * (n + 1) := by have := x.rack; omega
  have hspl : ∀ p : Hang × Hang, (insL d.spl (cell / 1792 % ((d.spl.length : Int) + 1)) p).length ≤ n + 1 := fun p => by rw [insL_length]; have := x.spl; omega
  have hpair : ∀ p ∈ insL d.spl (cell / 1792 % ((d.spl.length : Int) + 1)) (if cell / 448 % 2 = 1 then ((anew d.s d.st (d.rack.getD (cell / 7 % (d.rack.length : Int)).toNat default) d.c).1.mir, d.rack.getD (cell / 7 % (d.rack.length : Int)).toNat default) else (d.rack.getD (cell / 7 % (d.rack.length : Int)).toNat default, (anew d.s d.st (d.rack.getD (cell / 7 % (d.rack.length : Int)).toNat default) d.c).1.mir)),
      HangOk (n + 1) p.1 ∧ HangOk (n + 1) p.2 := by
    intro p hp
    rcases insL_mem hp with rfl | hp
    · split
      · exact ⟨qm.mono (Nat.le_succ _), qh.mono (Nat.le_succ _)⟩
      · exact ⟨qh.mono (Nat.le_succ _), qm.mono (Nat.le_succ _)⟩
    · exact ⟨(x.pairs p hp).1.mono (Nat.le_succ _), (x.pairs p hp).2.mono (Nat.le_succ _)⟩
  have hset : ∀ (i : Nat) (y : Hang), HangOk n y → ∀ z ∈ d.rack.set i y, HangOk (n + 1) z := fun i y hy z hz => by
    rcases List.mem_or_eq_of_mem_set hz with hz | rfl
    · exact (x.each z hz).mono (Nat.le_succ _)
    · exact hy.mono (Nat.le_succ _)
  unfold LoftD.addSplice
  simp only
  generalize hfar : anew d.s d.st (d.rack.getD (cell / 7 % (d.rack.length : Int)).toNat default) d.c = far at qf qm hpair
  obtain ⟨fh, fc⟩ := far
  cases fh with
  | tip b y k => exact ⟨by rw [List.length_set]; exact x.len, by rw [List.length_set]; exact hr, hspl _, hset _ _ qf, hpair⟩
  | knot f l r =>
    have ql : HangOk n l := ⟨qf.1.1, by have : max l.depth r.depth + 1 ≤ n := qf.2; omega⟩
    have qr : HangOk n r := ⟨qf.1.2, by have : max l.depth r.depth + 1 ≤ n := qf.2; omega⟩
    simp only
    split
    · refine ⟨by rw [insL_length, insL_length, List.length_set, x.len], by rw [insL_length, List.length_set]; have := x.rack; omega, hspl _, fun z hz => ?_, hpair⟩
      rcases insL_mem hz with rfl | hz
      · exact qr.mono (Nat.le_succ _)
      · exact hset _ _ ql z hz
    · exact ⟨by rw [List.length_set]; exact x.len, by rw [List.length_set]; exact hr, hspl _, hset _ _ qf, hpair⟩
theorem LoftD.Small.step {d : LoftD} {n : Nat} (x : d.Small n) (good : Bool) (cell : Int) : (LoftD.step good d cell).Small (n + 1) := by
  unfold LoftD.step
  split
  · exact x.addCord cell
  · rename_i h
    split
    · exact x.addSplice cell good
    · exact x.addKnot cell good (by omega)
theorem LoftK.weak {H0 H0' H : Hp} {L R M S B : Addr} {d : LoftD} (l : LoftK H0' H L R M S B d) (s : Same H0 H0') : LoftK H0 H L R M S B d := by
  obtain ⟨vr, vs, x, r⟩ := l
  exact ⟨vr, vs, ⟨s.trans x.same, ⟨s.free x.new.1, s.free x.new.2.1, s.free x.new.2.2.1, s.free x.new.2.2.2.1, s.free x.new.2.2.2.2⟩, x.nd, x.l, x.r, x.m, x.s, x.b⟩, r⟩
theorem LoftK.grow {H0 H H' : Hp} {L R M S B : Addr} {d : LoftD} (l : LoftK H0 H L R M S B d) (g : Same H H') : LoftK H0 H' L R M S B d := by
  obtain ⟨vr, vs, x, r1, r2, r3⟩ := l
  exact ⟨vr, vs, x.grow g, r1.mono (.of g), r2.mono (.of g), r3⟩
def spAddCord : Sp := fun vs H Q _ => ∃ H0 L R M S B d cell, vs = [.ref L, .int cell] ∧ LoftK H0 H L R M S B d ∧ d.rack.length ≤ 1000 ∧ d.marks.length ≤ 1000 ∧
  ∀ H', LoftK H0 H' L R M S B (d.addCord cell) → TupK H H' → Q .non H'
def spTie : Sp := fun vs H Q _ => ∃ H0 L R M S B d a b f spot, vs = [.ref L, .int a, .int b, .str (knotW f), .int spot] ∧ LoftK H0 H L R M S B d ∧ d.rack.length ≤ 1000 ∧ d.marks.length = d.rack.length ∧
  (0 ≤ a ∧ a < d.rack.length) ∧ (0 ≤ b ∧ b < d.rack.length) ∧ ∀ R' M' H', LoftK H0 H' L R' M' S B (d.tie a b f spot) → TupK H H' → Q .non H'
def spAddKnot : Sp := fun vs H Q _ => ∃ H0 L R M S B d cell good, vs = [.ref L, .int cell, .bl good] ∧ LoftK H0 H L R M S B d ∧ d.rack.length ≤ 1000 ∧ d.marks.length = d.rack.length ∧ 0 < d.rack.length ∧
  ∀ R' M' H', LoftK H0 H' L R' M' S B (d.addKnot cell good) → TupK H H' → Q .non H'
def spAddSplice (n : Nat) : Sp := fun vs H Q _ => ∃ H0 L R M S B d cell good, vs = [.ref L, .int cell, .bl good] ∧ LoftK H0 H L R M S B d ∧ d.rack.length ≤ 1000 ∧ d.marks.length = d.rack.length ∧ d.spl.length ≤ 1000 ∧ 0 < d.rack.length ∧
  (∀ h ∈ d.rack, h.depth < n) ∧ ∀ H', LoftK H0 H' L R M S B (d.addSplice cell good) → TupK H H' → Q .non H'
/-- the loft of a script, without its closing -/
def loftOf (ns : List Int) (first most : Int) (good : Bool) : LoftD := (cellsAt ns (first + 1) (first + 1 + most)).foldl (LoftD.step good) (loft0 (cellAt ns first))
def spLoftF (K : PySem.W.Frag) : Sp := fun vs H Q _ => ∃ a ns first most, vs = [.ref a, .int first, .int most, .bl false] ∧ SqL K H a (ns.map V.int) ∧ ns.length ≤ 63 ∧ 0 ≤ first ∧ (0 ≤ most ∧ most ≤ 20) ∧
  ∀ L R M S B H', LoftK H H' L R M S B (loftOf ns first most false) → Q (.ref L) H'
theorem loftOf_small (ns : List Int) (first most : Int) (good : Bool) : (loftOf ns first most good).Small (cellsAt ns (first + 1) (first + 1 + most)).length := by
  have key : ∀ (cs : List Int) (d : LoftD) (n : Nat), d.Small n → (cs.foldl (LoftD.step good) d).Small (n + cs.length) := by
    intro cs
    induction cs with
    | nil => intro d n h; exact h
    | cons c cs ih =>
      intro d n h
      have := ih _ _ (h.step good c)
      rw [List.length_cons, show n + (cs.length + 1) = n + 1 + cs.length by omega]
      exact this
  have h0 : (loft0 (cellAt ns first)).Small 0 := ⟨rfl, Nat.le_refl _, Nat.le_refl _, fun h hm => (List.not_mem_nil hm).elim, fun p hm => (List.not_mem_nil hm).elim⟩
  have := key (cellsAt ns (first + 1) (first + 1 + most)) _ _ h0
  rw [Nat.zero_add] at this
  exact this
theorem cellsAt_length {ns : List Int} {a b : Int} (h0 : 0 ≤ a) (h : a ≤ b) : ((cellsAt ns a b).length : Int) ≤ b - a := by
  unfold cellsAt
  rw [List.length_map]
  exact cut_most ns h0 h
theorem LoftD.Small.mono {d : LoftD} {n m : Nat} (x : d.Small n) (h : n ≤ m) : d.Small m :=
  ⟨x.len, Nat.le_trans x.rack (by omega), Nat.le_trans x.spl h, fun y hy => (x.each y hy).mono h, fun p hp => ⟨(x.pairs p hp).1.mono h, (x.pairs p hp).2.mono h⟩⟩
theorem tips_ok : ∀ (h : Hang), h.ok → ∀ t ∈ h.tips, ∃ b d n, t = .tip b d n ∧ dyeOk d = true
  | .tip b d n, hk, t, ht => ⟨b, d, n, List.mem_singleton.mp ht, hk⟩
  | .knot _ l r, hk, t, ht => by
    rcases List.mem_append.mp ht with ht | ht
    · exact tips_ok l hk.1 t ht
    · exact tips_ok r hk.2 t ht
/-- a hang spoiled in some way is a hang, at most one knot deeper -/
def spSpoiled (n : Nat) : Sp := fun vs H Q _ => ∃ v h mode cell, vs = [v, .int mode, .int cell] ∧ HangAt H v h ∧ HangOk n h ∧ n ≤ 20 ∧ ∀ r h' H', Same H H' → HangAt H' r h' → HangOk (n + 1) h' → Q r H'
/-! ### knots counted, words, other numbers -/
def Hang.fasts : Hang → Nat
  | .tip .. => 0
  | .knot f l r => l.fasts + r.fasts + (if f = true then 1 else 0)
def Hang.looses : Hang → Nat
  | .tip .. => 0
  | .knot f l r => l.looses + r.looses + (if f = true then 0 else 1)
def spKnots (n : Nat) : Sp := fun vs H Q _ => ∃ v h, vs = [v] ∧ HangAt H v h ∧ h.depth < n ∧ ∀ r H', Same H H' → H' r = some (.tup [.int (h.fasts : Int), .int (h.looses : Int)]) → Q (.ref r) H'
def Hang.words : Hang → List Str
  | .tip .. => []
  | .knot f l r => knotW f :: l.words ++ r.words
def spWords (n : Nat) : Sp := fun vs H Q _ => ∃ v h, vs = [v] ∧ HangAt H v h ∧ h.depth < n ∧ h.size ≤ 4194304 ∧ ∀ r H', Same H H' → H r = none → H' r = some (.lst (h.words.map V.str)) → Q (.ref r) H'
def Hang.ren (f : Int → Int) : Hang → Hang
  | .tip b d n => .tip b d (f n)
  | .knot g l r => .knot g (l.ren f) (r.ren f)
/-- a dict of ints -/
def intD (kvs : List (Key × V)) : Prop := ∀ kv ∈ kvs, ∃ i, kv.2 = V.int i
def intAt (kvs : List (Key × V)) (n : Int) : Int := match valV kvs (Sum.inl n) with
  | some (.int i) => i
  | _ => n
theorem intD.get {kvs : List (Key × V)} (h : intD kvs) {k : Key} {v : V} (e : valV kvs k = some v) : ∃ i, v = .int i := by
  unfold valV at e
  cases q : kvs.find? fun kv => decide (kv.1 = k) with
  | none => rw [q] at e; cases e
  | some kv =>
    rw [q] at e
    obtain ⟨i, hi⟩ := h kv (List.mem_of_find?_eq_some q)
    exact ⟨i, (Option.some.inj e).symm.trans hi⟩
def spRenamed (n : Nat) : Sp := fun vs H Q _ => ∃ v h d kvs, vs = [v, .ref d] ∧ HangAt H v h ∧ h.depth < n ∧ H d = some (.dK kvs) ∧ intD kvs ∧ ∀ r H', Same H H' → HangAt H' r (h.ren (intAt kvs)) → Q r H'
theorem Hang.ren_depth (f : Int → Int) : ∀ h : Hang, (h.ren f).depth = h.depth
  | .tip .. => rfl
  | .knot g l r => by simp only [Hang.ren, Hang.depth, ren_depth f l, ren_depth f r]
theorem Hang.ren_ok (f : Int → Int) : ∀ h : Hang, h.ok → (h.ren f).ok
  | .tip .., h => h
  | .knot g l r, h => ⟨ren_ok f l h.1, ren_ok f r h.2⟩
theorem fast_ne : ¬ (knotW false = "fast") ∧ ¬ (knotW true = "loose") := by decide +kernel
theorem count_fast : ∀ h : Hang, h.words.countP (fun y => decide (y = ("fast" : Str))) = h.fasts
  | .tip .. => rfl
  | .knot f l r => by
    show (knotW f :: l.words ++ r.words).countP _ = l.fasts + r.fasts + _
    rw [List.countP_append, List.countP_cons, count_fast l, count_fast r]
    cases f with
    | true => simp [knotW]; omega
    | false => simp [knotW, show ¬ (("loose" : Str) = "fast") by decide +kernel]
theorem count_loose : ∀ h : Hang, h.words.countP (fun y => decide (y = ("loose" : Str))) = h.looses
  | .tip .. => rfl
  | .knot f l r => by
    show (knotW f :: l.words ++ r.words).countP _ = l.looses + r.looses + _
    rw [List.countP_append, List.countP_cons, count_loose l, count_loose r]
    cases f with
    | false => simp [knotW]; omega
    | true => simp [knotW, show ¬ (("fast" : Str) = "loose") by decide +kernel]
theorem eqvAll_data : ∀ hs : List Hang, PyData.eqvAll (hs.map Hang.data) (hs.map Hang.data) = true
  | [] => rfl
  | h :: hs => by
    show (PyData.eqv h.data h.data && PyData.eqvAll (hs.map Hang.data) (hs.map Hang.data)) = true
    rw [(Hang.data_eqv h h).mpr rfl, eqvAll_data hs]
    rfl
theorem depth_data_list : ∀ (hs : List Hang) (n : Nat), (∀ h ∈ hs, h.depth ≤ n) → (PyData.list (hs.map Hang.data)).depth ≤ n + 2 := by
  intro hs n h
  have key : ∀ hs : List Hang, (∀ h ∈ hs, h.depth ≤ n) → PyData.depthAll (hs.map Hang.data) ≤ n + 1 := by
    intro hs
    induction hs with
    | nil => intro _; exact Nat.zero_le _
    | cons g hs ih =>
      intro hm
      have h1 := hm g List.mem_cons_self
      have h2 := ih fun y hy => hm y (List.mem_cons_of_mem _ hy)
      have h3 := g.data_depth
      show max g.data.depth (PyData.depthAll (hs.map Hang.data)) ≤ n + 1
      omega
  exact Nat.succ_le_succ (key hs h)
theorem intD.put {kvs : List (Key × V)} (h : intD kvs) (k : Key) (i : Int) : intD (putK kvs k (.int i)) := by
  intro kv hk
  unfold putK at hk
  split at hk
  · obtain ⟨q, hq, rfl⟩ := List.mem_map.mp hk
    split
    · exact ⟨i, rfl⟩
    · exact h q hq
  · rcases List.mem_append.mp hk with hk | hk
    · exact h kv hk
    · rw [List.mem_singleton.mp hk]; exact ⟨i, rfl⟩
theorem putK_length {κ : Type} [DecidableEq κ] (kvs : List (κ × V)) (k : κ) (v : V) : (putK kvs k v).length ≤ kvs.length + 1 := by
  unfold putK
  split
  · rw [List.length_map]; exact Nat.le_succ _
  · rw [List.length_append]; exact Nat.le_refl _
end NL

set_option Elab.async false
set_option linter.all false
set_option maxRecDepth 100000
/-! WHAT THE TOP HAS WRITTEN: defs, tables, the law's own def. -/
namespace NL
open PySem PySem.Spec PyProof.Rows L2
section
variable {P : Program} {w : World} {K : PySem.W.Frag} {mg : Str → Option Value} {base h : Heap}
theorem Def.top (X : K.In h) (G : h.Ns mainGlobals mg) {x : Str} {st : Stmt} {f : Addr} {oc : Value} {od an : Option Addr} {osl : Array (Option Value)} {kV doc pm cdv ct : Value} (a : PySem.W.nsIn K mainGlobals x = some (some (.ref f)))
    (l : K.lookup f = some ⟨oc, od, .func (PySem.W.fnOf x x (defArgs st) (defBody st) (defScope st) .none kV doc pm an cdv ct), osl⟩) (c : PySem.W.codeIn K cdv x = true) (k : PySem.W.keepIn K (.ref f) = true) : Def K mg x st :=
  ⟨f, _, fun_mk l c k, PySem.W.mg_of X G a⟩
theorem Def.law {fa : Addr} {st : Stmt} (D : Def K mg "law" st) (hfa : mg "law" = some (.ref fa))
    (hb : ∀ (kV doc pm : Value) (an : Option Addr) (cdv ct : Value) (us : List Value), us.length = 1 → bindArgs (PySem.W.fnOf "law" "law" (defArgs st) (defBody st) (defScope st) .none kV doc pm an cdv ct) ⟨us, []⟩ = pure (([("script" : Str)]).zip us)) :
    ∃ fd : FuncData, (∀ (s : Shared) (v : Value), BindsTo s fd ⟨[v], []⟩ [("script", v)]) ∧ Fun K "law" "law" st fa fd := by
  obtain ⟨f, fd, F, m⟩ := D.ex
  cases hfa.symm.trans m
  obtain ⟨oc, od, kV, doc, pm, an, cdv, ct, osl, e, lk, hcd⟩ := id F.ex
  exact ⟨fd, fun s v => .of_eq (by rw [e]; exact hb kV doc pm an cdv ct [v] rfl), F⟩
/-- the entries of a table with texts for keys -/
inductive Entries (w : World) : List DictEntry → List (Key × V) → Prop
  | nil : Entries w [] []
  | cons {x : Str} {t : Tok} {u : Value} {v : V} {es : List DictEntry} {kvs : List (Key × V)} : RelV v u → Entries w es kvs → Entries w (⟨hashStr w x, .str x t, u⟩ :: es) ((.inr x, v) :: kvs)
theorem Entries.keys {es : List DictEntry} {kvs : List (Key × V)} (d : Entries w es kvs) : ∀ e ∈ es, ∃ k, (mixKind P w).is k e.key = true ∧ e.hash = (mixKind P w).hash k := by
  induction d with
  | nil => intro e h; cases h
  | @cons x t u v es kvs r _ ih =>
    intro e h
    rcases List.mem_cons.mp h with rfl | h
    · exact ⟨.inr x, mixKind_str P w x t, rfl⟩
    · exact ih e h
theorem Entries.pairs {es : List DictEntry} {kvs : List (Key × V)} (d : Entries w es kvs) : ∃ vs, KV kvs vs ∧ Pairs (mixKind P w) es vs ∧ vs.map (·.1) = kvs.map (·.1) := by
  induction d with
  | nil => exact ⟨[], .nil, .nil, rfl⟩
  | @cons x t u v es kvs r _ ih =>
    obtain ⟨vs, h1, h2, h3⟩ := ih
    exact ⟨(.inr x, u) :: vs, .cons ⟨rfl, r⟩ h1, .cons (mixKind_str P w x t) rfl h2, by rw [List.map_cons, List.map_cons, h3]⟩
theorem KDict.top {a : Addr} {es : Array DictEntry} {ep : Nat} {kvs : List (Key × V)} (l : K.lookup a = some ⟨.type "dict", none, .dict es ep, #[]⟩) (d : Entries w es.toList kvs) (nd : (kvs.map (·.1)).Nodup) : KDict P w K a kvs := by
  intro h X
  obtain ⟨vs, h1, h2, h3⟩ := d.pairs (P := P)
  exact ⟨vs, h1, _, es, ep, X a _ l, ⟨rfl, rfl, rfl⟩, rfl, fun e he => d.keys e (Array.mem_toList_iff.mpr he), h2, by rw [h3]; exact nd⟩
end
end NL

set_option maxHeartbeats 4000000
namespace NL
open PySem PySem.Spec PyProof.Rows L2
def top (i : Nat) : Stmt := PySem.Challenge.pw_netloft_k02_tips.main.body.getD i (.Pass ⟨0, 0, 0, 0⟩)
abbrev s_is_tip : Stmt := top 1
abbrev s_tips : Stmt := top 2
abbrev s_knots : Stmt := top 3
abbrev s_renamed : Stmt := top 4
abbrev s_law_stir : Stmt := top 6
abbrev s_law_cell : Stmt := top 7
abbrev s_law_cells : Stmt := top 8
abbrev s_law_dye : Stmt := top 9
abbrev s_law_book : Stmt := top 10
abbrev s_law_number : Stmt := top 11
abbrev s_law_is_tip : Stmt := top 12
abbrev s_law_tips : Stmt := top 13
abbrev s_law_mirror : Stmt := top 14
abbrev s_law_anew : Stmt := top 15
abbrev s_law_add_cord : Stmt := top 16
abbrev s_law_tie : Stmt := top 17
abbrev s_law_add_knot : Stmt := top 18
abbrev s_law_add_splice : Stmt := top 19
abbrev s_law_close : Stmt := top 20
abbrev s_law_loft : Stmt := top 21
abbrev s_law_whole : Stmt := top 22
abbrev s_law_hang : Stmt := top 23
abbrev s_law_words : Stmt := top 24
abbrev s_law_renamed : Stmt := top 25
abbrev s_law : Stmt := top 26
section
variable {P : Program} {w : World} {K : PySem.W.Frag} {mg : Str → Option Value} {base : Heap}
local macro_rules | `(tactic| wtm_at "heap") => `(tactic| first | assumption | ((with_reducible apply upd_at); rfl) | ((with_reducible apply upd_old); (focus assumption); wtm_at "heap") | exact same_app (by assumption) (by wtm_at "heap") | fail "no")
local macro_rules | `(tactic| wtm_at "same") => `(tactic| first | with_reducible exact Same.refl _ | assumption | ((with_reducible apply same_upd); (focus assumption); wtm_at "same") | exact same_snoc (by assumption) (by wtm_at "same") | fail "no")
local macro_rules | `(tactic| wtm_at "hang") => `(tactic| first | assumption | ((with_reducible apply hang_upd); (focus assumption); wtm_at "hang") | exact hang_app (by assumption) (by wtm_at "hang") | exact HangAt.tip (by wtm_at "heap") | exact HangAt.knot (by wtm_at "heap") (by wtm_at "hang") (by wtm_at "hang") | fail "no")
local macro_rules | `(tactic| wtm_at "cond") => `(tactic| first | omega | decide | fail "no")
local macro_rules | `(tactic| wtm_at "at") => `(tactic| first | rfl | assumption | fail "no")
local macro_rules | `(tactic| wtm_at "step") => `(tactic| first
  | refine ⟨_, rfl, ?_⟩
  | refine ⟨_, _, rfl, rfl, ?_⟩
  | refine ⟨_, _, _, _, rfl, rfl, SqT.of (by wtm_at "heap"), (by wtm_at "at"), ?_⟩
  | refine ⟨_, _, _, _, rfl, rfl, SqL.of (by wtm_at "heap"), (by wtm_at "at"), ?_⟩
  | refine ⟨_, _, rfl, (by wtm_at "hang"), (by wtm_at "cond"), (by wtm_at "cond"), ?_⟩
  | refine ⟨_, _, rfl, (by wtm_at "hang"), (by wtm_at "cond"), ?_⟩
  | refine ⟨_, _, rfl, (by wtm_at "hang"), ?_⟩
  | refine ⟨_, _, _, _, rfl, (by wtm_at "hang"), (by wtm_at "cond"), (by wtm_at "heap"), (by assumption), ?_⟩
  | refine ⟨rfl, ?_⟩
  | refine ⟨(Nat.le_of_ble_eq_true rfl), fun _ _ => ?_⟩
  | refine iteT ?_
  | refine iteF ?_
  | intro _
  | fail "no")
local macro_rules | `(tactic| wtm_at "steps") => `(tactic| repeat wtm_at "step")
theorem sc_is_tip : FnScope ["hang"] ["hang"] (defScope s_is_tip) := ⟨rfl, rfl, rfl, by decide +kernel, rfl, by decide +kernel, by decide +kernel⟩
theorem fn_is_tip (D : Def K mg "is_tip" s_is_tip) : Fn P w K mg base 1 "is_tip" ["hang"] spIsTip := by
  have SC := sc_is_tip
  refine D.fn SC (fun _ _ _ _ _ _ us hl => match us, hl with | [_], _ => rfl) (fun vs H Q E h => by obtain ⟨v, h, rfl, _⟩ := h; rfl) (fun f cdv A outer s H vs Q E hr h => ?_)
  obtain ⟨v, h, rfl, hh, q⟩ := h
  refine ⟨_, (pss_one (ps_ret (pe_cmpR op_in_seq (pe_ix ix_tup (pv 0) pe_int (fun _ _ => rfl)) (pe_tup (pa_cons pe_str (pa_cons pe_str pa_nil))) (by with_unfolding_all rfl)))), ?_⟩
  obtain ⟨a, y, z, rfl, e⟩ := hh.tup
  refine ⟨_, rfl, a, _, _, _, rfl, rfl, SqT.of e, rfl, (by show 2 ≤ sizeLine; decide), fun p hp => ?_⟩
  refine ⟨p, _, rfl, .inr (SqT.of upd_same), rfl, rfl, ?_⟩
  have := Hang.isTip_in h
  rw [this] at q
  exact q _ (same_new hp _)

theorem sc_tips : FnScope ["hang"] ["hang"] (defScope s_tips) := ⟨rfl, rfl, rfl, by decide +kernel, rfl, by decide +kernel, by decide +kernel⟩
theorem fn_tips (D : Def K mg "tips" s_tips) (F_is_tip : Fn P w K mg base 1 "is_tip" ["hang"] spIsTip) : ∀ n, Fn P w K mg base (n + 1) "tips" ["hang"] (spTips n)
  | 0 => D.no (fun _ _ _ _ _ _ us hl => match us, hl with | [_], _ => rfl) fun vs H Q E h => by obtain ⟨v, h, _, _, h1, _⟩ := h; omega
  | n + 1 => by
    have F_tips := fn_tips D F_is_tip n
    have SC := sc_tips
    refine D.fn SC (fun _ _ _ _ _ _ us hl => match us, hl with | [_], _ => rfl) (fun vs H Q E h => by obtain ⟨v, h, rfl, _⟩ := h; rfl) (fun f cdv A outer s H vs Q E hr h => ?_)
    obtain ⟨v, h, rfl, hh, hn, hz, q⟩ := h
    refine ⟨_, (pss_cons (ps_if (pt_val (pe_fn F_is_tip hr rfl (pa_cons (pv 0) pa_nil))) (pss_one (ps_ret (pe_lst (pa_cons (pv 0) pa_nil)))) pss_nil)
      (pss_one (ps_ret (pe_op op_cat (pe_fn F_tips hr rfl (pa_cons (pe_ix ix_tup (pv 0) pe_int (fun _ _ => rfl)) pa_nil)) (pe_fn F_tips hr rfl (pa_cons (pe_ix ix_tup (pv 0) pe_int (fun _ _ => rfl)) pa_nil)))))), ?_⟩
    refine ⟨_, rfl, v, h, rfl, hh, fun H1 g1 => ⟨_, rfl, ?_⟩⟩
    cases hh with
    | @tip a b d k e =>
      refine iteT ⟨_, rfl, (by show 1 ≤ sizeLine; decide), fun p hp => ?_⟩
      exact q p _ _ (g1.trans (same_new hp _)) (g1.free hp) upd_same (.cons ((HangAt.tip e).same (g1.trans (same_new hp _))) .nil)
    | @knot a f vl vr l r e hl hr' =>
      have hd : max l.depth r.depth + 1 < n + 1 := hn
      have hs : l.size + r.size ≤ 4194304 := hz
      refine iteF ⟨_, rfl, a, _, _, _, rfl, rfl, SqT.of (g1 _ _ e), rfl, vl, l, rfl, hl.same g1, by omega, by omega, fun p us H2 g2 n2 e2 t2 => ?_⟩
      refine ⟨_, rfl, a, _, _, _, rfl, rfl, SqT.of (g2 _ _ (g1 _ _ e)), rfl, vr, r, rfl, hr'.same (g1.trans g2), by omega, by omega, fun p3 us3 H3 g3 n3 e3 t3 => ?_⟩
      have z2 : us.length = l.size := by rw [t2.length, Hang.tips_length]
      have z3 : us3.length = r.size := by rw [t3.length, Hang.tips_length]
      refine ⟨p, p3, us, us3, rfl, rfl, g3 _ _ e2, e3, by rw [z2, z3]; exact Nat.le_trans hs (by decide), fun p4 h4 => ?_⟩
      refine q p4 _ _ (g1.trans (g2.trans (g3.trans (same_new h4 _)))) (g1.free (g2.free (g3.free h4))) upd_same ?_
      exact Paired.app (t2.mono (.of (g3.trans (same_new h4 _)))) (t3.mono (.of (same_new h4 _)))

theorem sc_knots : FnScope ["hang", "left", "right", "fast", "loose"] ["hang"] (defScope s_knots) := ⟨rfl, rfl, rfl, by decide +kernel, rfl, by decide +kernel, by decide +kernel⟩
theorem fn_knots (D : Def K mg "knots" s_knots) (F_is_tip : Fn P w K mg base 1 "is_tip" ["hang"] spIsTip) : ∀ n, Fn P w K mg base (n + 1) "knots" ["hang"] (spKnots n)
  | 0 => D.no (fun _ _ _ _ _ _ us hl => match us, hl with | [_], _ => rfl) fun vs H Q E h => by obtain ⟨v, h, _, _, h1, _⟩ := h; omega
  | n + 1 => by
    have F_knots := fn_knots D F_is_tip n
    have SC := sc_knots
    refine D.fn SC (fun _ _ _ _ _ _ us hl => match us, hl with | [_], _ => rfl) (fun vs H Q E h => by obtain ⟨v, h, rfl, _⟩ := h; rfl) (fun f cdv A outer s H vs Q E hr h => ?_)
    obtain ⟨v, h, rfl, hh, hn, q⟩ := h
    refine ⟨_, (pss_cons (ps_if (pt_val (pe_fn F_is_tip hr rfl (pa_cons (pv 0) pa_nil))) (pss_one (ps_ret (pe_tup (pa_cons pe_int (pa_cons pe_int pa_nil))))) pss_nil)
      (pss_cons (ps_set (i := 1) SC.nd rfl (Or.inl rfl) (pe_fn F_knots hr rfl (pa_cons (pe_ix ix_tup (pv 0) pe_int (fun _ _ => rfl)) pa_nil)))
      (pss_cons (ps_set (i := 2) SC.nd rfl (Or.inl rfl) (pe_fn F_knots hr rfl (pa_cons (pe_ix ix_tup (pv 0) pe_int (fun _ _ => rfl)) pa_nil)))
      (pss_cons (ps_set (i := 3) SC.nd rfl (Or.inl rfl) (pe_op op_add (pe_ix ix_tup (pv 1) pe_int (fun _ _ => rfl)) (pe_ix ix_tup (pv 2) pe_int (fun _ _ => rfl))))
      (pss_cons (ps_set (i := 4) SC.nd rfl (Or.inl rfl) (pe_op op_add (pe_ix ix_tup (pv 1) pe_int (fun _ _ => rfl)) (pe_ix ix_tup (pv 2) pe_int (fun _ _ => rfl))))
      (pss_cons (ps_if (pt_cmpR op_eq (pe_ix ix_tup (pv 0) pe_int (fun _ _ => rfl)) pe_str (nomark _)) (pss_one (ps_ret (pe_tup (pa_cons (pe_op op_add (pv 3) pe_int) (pa_cons (pv 4) pa_nil))))) pss_nil)
      (pss_one (ps_ret (pe_tup (pa_cons (pv 3) (pa_cons (pe_op op_add (pv 4) pe_int) pa_nil))))))))))), ?_⟩
    have hh0 := hh
    cases hh with
    | @tip a b d k e =>
      wtm_at "steps"
      exact q _ _ (by wtm_at "same") (by wtm_at "heap")
    | @knot a f vl vr l r e hl hr' =>
      have hd : max l.depth r.depth + 1 < n + 1 := hn
      cases f with
      | true =>
        wtm_at "steps"
        refine q _ _ (by wtm_at "same") ?_
        rw [upd_same]
        simp only [Hang.fasts, Hang.looses]
        congr 5 <;> omega
      | false =>
        wtm_at "steps"
        refine q _ _ (by wtm_at "same") ?_
        rw [upd_same]
        simp only [Hang.fasts, Hang.looses]
        congr 5 <;> omega

theorem sc_renamed : FnScope ["hang", "names"] ["hang", "names"] (defScope s_renamed) := ⟨rfl, rfl, rfl, by decide +kernel, rfl, by decide +kernel, by decide +kernel⟩
theorem fn_renamed (D : Def K mg "renamed" s_renamed) (F_is_tip : Fn P w K mg base 1 "is_tip" ["hang"] spIsTip) : ∀ n, Fn P w K mg base (n + 1) "renamed" ["hang", "names"] (spRenamed n)
  | 0 => D.no (fun _ _ _ _ _ _ us hl => match us, hl with | [_, _], _ => rfl) fun vs H Q E h => by obtain ⟨v, h, d, kvs, _, _, h1, _⟩ := h; omega
  | n + 1 => by
    have F_renamed := fn_renamed D F_is_tip n
    have SC := sc_renamed
    refine D.fn SC (fun _ _ _ _ _ _ us hl => match us, hl with | [_, _], _ => rfl) (fun vs H Q E h => by obtain ⟨v, h, d, kvs, rfl, _⟩ := h; rfl) (fun f cdv A outer s H vs Q E hr h => ?_)
    obtain ⟨v, h, dd, kvs, rfl, hh, hn, hD, hi, q⟩ := h
    refine ⟨_, (pss_cons (ps_if (pt_val (pe_fn F_is_tip hr rfl (pa_cons (pv 0) pa_nil))) (pss_one (ps_ret (pe_tup (pa_cons (pe_ix ix_tup (pv 0) pe_int (fun _ _ => rfl)) (pa_cons (pe_ix ix_tup (pv 0) pe_int (fun _ _ => rfl)) (pa_cons (pe_dget2 (hu_of hr) (pv 1) (pe_ix ix_tup (pv 0) pe_int (fun _ _ => rfl)) (pe_ix ix_tup (pv 0) pe_int (fun _ _ => rfl)) ⟨rfl, rfl, rfl, rfl⟩) pa_nil)))))) pss_nil)
      (pss_one (ps_ret (pe_tup (pa_cons (pe_ix ix_tup (pv 0) pe_int (fun _ _ => rfl)) (pa_cons (pe_fn F_renamed hr rfl (pa_cons (pe_ix ix_tup (pv 0) pe_int (fun _ _ => rfl)) (pa_cons (pv 1) pa_nil))) (pa_cons (pe_fn F_renamed hr rfl (pa_cons (pe_ix ix_tup (pv 0) pe_int (fun _ _ => rfl)) (pa_cons (pv 1) pa_nil))) pa_nil))))))), ?_⟩
    have hh0 := hh
    cases hh with
    | @tip a b d k e =>
      refine ⟨_, rfl, _, _, rfl, hh0, fun H1 g1 => ⟨_, rfl, iteT ?_⟩⟩
      have hD1 := g1 _ _ hD
      wtm_at "steps"
      refine ⟨.inl ⟨kvs, .inl hD1⟩, ?_⟩
      wtm_at "steps"
      refine ⟨_, DGet.k (k := Sum.inl k) hD1, ?_⟩
      have ex : (valV kvs (Sum.inl k)).getD (.int k) = .int (intAt kvs k) := by
        unfold intAt
        cases e : valV kvs (Sum.inl k) with
        | none => rfl
        | some v => obtain ⟨i, rfl⟩ := hi.get e; rfl
      rw [ex]
      wtm_at "steps"
      exact q _ _ (by wtm_at "same") (by wtm_at "hang")
    | @knot a f vl vr l r e hl hr' =>
      have hd : max l.depth r.depth + 1 < n + 1 := hn
      wtm_at "steps"
      exact q _ _ (by wtm_at "same") (by wtm_at "hang")

theorem sc_law_stir : FnScope ["cell", "found", "factor", "mixed"] ["cell"] (defScope s_law_stir) := ⟨rfl, rfl, rfl, by decide +kernel, rfl, by decide +kernel, by decide +kernel⟩
theorem fn_law_stir (D : Def K mg "_law_stir" s_law_stir) : Fn P w K mg base 1 "_law_stir" ["cell"] spStir := by
  have SC := sc_law_stir
  refine D.fn SC (fun _ _ _ _ _ _ us hl => match us, hl with | [_], _ => rfl) (fun vs H Q E h => by obtain ⟨c, rfl, _⟩ := h; rfl) (fun f cdv A outer s H vs Q E hr h => ?_)
  obtain ⟨c, rfl, q⟩ := h
  refine ⟨_, (pss_cons (ps_set (i := 1) SC.nd rfl (Or.inl rfl) pe_int)
      (pss_cons (ps_for PassesOwn.never rfl (pi_list (pe_lst (pa_cons pe_int (pa_cons pe_int (pa_cons pe_int (pa_cons pe_int pa_nil)))))) (pg_name (i := 2) SC.nd rfl (Or.inl rfl))
      (pss_cons (ps_set (i := 3) SC.nd rfl (Or.inl rfl) (pe_op op_mod (pe_op op_mul (pe_op op_mod (pe_op op_add (pe_op op_mul (pv 0) (pv 2)) pe_int) pe_int) pe_int) pe_int))
      (pss_one (ps_set (i := 1) SC.nd rfl (Or.inl rfl) (pe_op op_add (pe_op op_mul (pv 1) (pe_op op_pow pe_int pe_int)) (pe_op op_fdiv (pv 3) pe_int))))))
      (pss_one (ps_ret (pv 1))))), ?_⟩
  refine ⟨(by show 4 ≤ sizeLine; decide), fun p hp => ⟨p, rfl, ⟨_, SqL.of upd_same⟩, ?_⟩⟩
  refine for_list (K := K) (a := p) (xs := factors.map V.int) (fun i σ H' => Same H H' ∧ H' p = some (.lst (factors.map V.int)) ∧ ∃ f m, σ = [some (.int c), some (.int ((factors.take i).foldl (stirStep c) 0)), f, m])
    ⟨same_new hp _, upd_same, none, none, rfl⟩ (fun i σ H' _ h => SqL.of h.2.1) ?_ ?_
  · rintro i x σ H' hi ⟨g, hl, f, m, rfl⟩
    obtain ⟨z, hz, rfl⟩ : ∃ z, factors[i]? = some z ∧ x = .int z := by
      rw [List.getElem?_map] at hi
      cases e : factors[i]? with
      | none => rw [e] at hi; cases hi
      | some z => rw [e] at hi; exact ⟨z, rfl, (Option.some.inj hi).symm⟩
    have hb : -(2 ^ 64) < z ∧ z < 2 ^ 64 := by
      have hm := List.mem_of_getElem? hz
      unfold factors at hm
      simp at hm
      omega
    refine ⟨_, rfl, _, rfl, _, _, rfl, rfl, .inr hb, _, _, rfl, rfl, _, _, rfl, rfl, (by show (0 : Int) < 2147483647; decide), _, _, rfl, rfl, .inr ⟨by decide, by decide⟩, _, _, rfl, rfl, (by show (0 : Int) < 2147483399; decide), ?_⟩
    refine ⟨_, rfl, _, _, rfl, rfl, ⟨by decide, by decide, by decide⟩, _, _, rfl, rfl, .inr ⟨by decide, by decide⟩, _, rfl, _, _, rfl, rfl, ⟨by decide, by decide⟩, _, _, rfl, rfl, ?_⟩
    refine ⟨g, hl, some (.int z), some (.int ((c * z + 7919) % 2147483647 * 40692 % 2147483399)), ?_⟩
    rw [List.take_add_one, hz, List.foldl_append]
    rfl
  · rintro σ H' ⟨g, hl, f, m, rfl⟩
    exact ⟨_, rfl, q H' g⟩

theorem sc_law_cell : FnScope ["script", "k"] ["script", "k"] (defScope s_law_cell) := ⟨rfl, rfl, rfl, by decide +kernel, rfl, by decide +kernel, by decide +kernel⟩
theorem fn_law_cell (D : Def K mg "_law_cell" s_law_cell) (B : Bl mg) (F_law_stir : Fn P w K mg base 1 "_law_stir" ["cell"] spStir) : Fn P w K mg base 2 "_law_cell" ["script", "k"] (spCell K) := by
  have SC := sc_law_cell
  refine D.fn SC (fun _ _ _ _ _ _ us hl => match us, hl with | [_, _], _ => rfl) (fun vs H Q E h => by obtain ⟨a, ns, k, rfl, _⟩ := h; rfl) (fun f cdv A outer s H vs Q E hr h => ?_)
  obtain ⟨a, ns, k, rfl, hS, h0, q⟩ := h
  refine ⟨_, (pss_cons (ps_if (pt_cmpR op_lt (pv 1) (pe_callB call_len_seq rfl B.len PySem.boot_len (pa_cons (pv 0) pa_nil)) (nomark _)) (pss_one (ps_ret (pe_fn F_law_stir hr rfl (pa_cons (pe_ix ix_list (pv 0) (pv 1) (fun _ _ => rfl)) pa_nil)))) pss_nil)
      (pss_one (ps_ret (pe_fn F_law_stir hr rfl (pa_cons pe_int pa_nil))))), ?_⟩
  have hl : (ns.map V.int).length = ns.length := List.length_map _
  refine ⟨_, rfl, _, rfl, a, _, rfl, .inl hS, _, _, rfl, rfl, _, rfl, ?_⟩
  refine ite2 (fun c => ?_) (fun c => ?_)
  · have c' : k < (((ns.map V.int).length : Nat) : Int) := of_decide_eq_true c
    rw [hl] at c'
    have hk : k.toNat < ns.length := by omega
    have q1 : atI (ns.map V.int) ((k.toNat : Nat) : Int) = some (.int ns[k.toNat]) := atI_nat (by rw [List.getElem?_map, List.getElem?_eq_getElem hk] <;> rfl)
    rw [show ((k.toNat : Nat) : Int) = k by omega] at q1
    refine ⟨_, rfl, _, rfl, a, _, _, _, rfl, rfl, hS, q1, _, rfl, fun H' g => ?_⟩
    have e : cellAt ns k = stir ns[k.toNat] := by
      unfold cellAt
      rw [if_pos c', List.getD_eq_getElem?_getD, List.getElem?_eq_getElem hk]
      rfl
    rw [← e]
    exact q H' g
  · have c' : ¬ k < (((ns.map V.int).length : Nat) : Int) := of_decide_eq_false (Bool.eq_false_iff.mpr c)
    rw [hl] at c'
    refine ⟨_, rfl, fun H' g => ?_⟩
    have e : cellAt ns k = stir 0 := by
      unfold cellAt
      rw [if_neg c']
    rw [← e]
    exact q H' g

theorem sc_law_cells : FnScope ["script", "first", "behind"] ["script", "first", "behind"] (defScope s_law_cells) := ⟨rfl, rfl, rfl, by decide +kernel, rfl, by decide +kernel, by decide +kernel⟩
theorem fn_law_cells (D : Def K mg "_law_cells" s_law_cells) (B : Bl mg) (F_law_stir : Fn P w K mg base 1 "_law_stir" ["cell"] spStir) : Fn P w K mg base 2 "_law_cells" ["script", "first", "behind"] (spCells K) := by
  have SC := sc_law_cells
  refine D.fn SC (fun _ _ _ _ _ _ us hl => match us, hl with | [_, _, _], _ => rfl) (fun vs H Q E h => by obtain ⟨a, ns, lo, hi, rfl, _⟩ := h; rfl) (fun f cdv A outer s H vs Q E hr h => ?_)
  obtain ⟨a, ns, lo, hi, rfl, hS, hlen, q⟩ := h
  refine ⟨_, (pss_one (ps_ret (pe_comp rfl (ts := ["cell"]) (fr := []) ⟨rfl, by decide +kernel, by decide +kernel, (by show ∀ y : Str × NameKind, y ∈ _ → _ → List.lookup y.1 (defScope s_law_cells).names = some .cell ∨ List.lookup y.1 (defScope s_law_cells).names = some .free; decide +kernel), trivial⟩ (pi_list (pe_slice sl_list (pv 0) (po_some (pv 1)) (po_some (pv 2)))) (fun _ _ _ _ => (pg_name (i := 0) (show (namesC ["cell"] []).Nodup by decide +kernel) rfl (Or.inl rfl))) (fun _ _ _ _ => pifs_nil) (fun _ _ _ _ => (pe_fn F_law_stir hr rfl (pa_cons (pv 0) pa_nil)))))), ?_⟩
  refine ⟨_, rfl, _, rfl, _, rfl, _, rfl, _, rfl, a, _, rfl, hS, fun p hp => ?_⟩
  rw [cutV_map]
  refine ⟨p, rfl, ⟨_, SqL.of upd_same⟩, fun D hD => ?_⟩
  have np : p ≠ D := ne_of_none upd_same hD
  have g0 : Same H (upd H p (.lst ((cut ns (some lo) (some hi)).map V.int))) := same_new hp _
  refine comp_list (xs := (cut ns (some lo) (some hi)).map V.int) (fun i ys H' => Same H H' ∧ H' p = some (.lst ((cut ns (some lo) (some hi)).map V.int)) ∧ H' D = some (.lst ys) ∧ ys = (((cut ns (some lo) (some hi)).take i).map stir).map V.int)
    ⟨g0.trans (same_new hD _), by rw [upd_ne np]; exact upd_same, upd_same, by simp⟩ (fun i ys H' _ h => ⟨SqL.of h.2.1, h.2.2.1⟩) ?_ ?_
  · rintro i x ys H' hi' ⟨g, h1, h2, h3⟩
    obtain ⟨z, hz, rfl⟩ : ∃ z, (cut ns (some lo) (some hi))[i]? = some z ∧ x = .int z := by
      rw [List.getElem?_map] at hi'
      cases e : (cut ns (some lo) (some hi))[i]? with
      | none => rw [e] at hi'; cases hi'
      | some z => rw [e] at hi'; exact ⟨z, rfl, (Option.some.inj hi').symm⟩
    refine ⟨?_, ⟨rfl, rfl⟩, ?_⟩
    · rw [h3, List.length_map, List.length_map, List.length_take]
      have := cut_length ns (some lo) (some hi)
      exact small1000 (by omega)
    refine ⟨_, rfl, _, rfl, fun H2 g2 => ⟨g2 _ _ h2, (fun b o e => ?_), ?_, upd_same, ?_⟩⟩
    · have nb : b ≠ D := fun z => by subst z; rw [(g0.free hD)] at e; cases e
      rw [upd_ne nb]
      exact g2 b o (g b o e)
    · rw [upd_ne np]
      exact g2 _ _ h1
    · rw [h3, List.take_add_one, hz, List.map_append, List.map_append]
      rfl
  · rintro ys H' ⟨g, h1, h2, h3⟩
    rw [List.length_map, List.take_of_length_le (Nat.le_refl _)] at h3
    exact q D H' g (g0.free hD) (by rw [h2, h3]; rfl)

theorem sc_law_dye : FnScope ["cell", "size", "step"] ["cell"] (defScope s_law_dye) := ⟨rfl, rfl, rfl, by decide +kernel, rfl, by decide +kernel, by decide +kernel⟩
theorem letter_ix (z : Int) : atI letters.cps.toList (z % 26) = some (letters.cps.toList.getD (z % 26).toNat 0) := by
  have h1 := Int.emod_nonneg z (show (26 : Int) ≠ 0 by decide)
  have h2 := Int.emod_lt_of_pos z (show (0 : Int) < 26 by decide)
  have hl : letters.cps.toList.length = 26 := by decide +kernel
  have hk : (z % 26).toNat < letters.cps.toList.length := by omega
  have q : atI letters.cps.toList (((z % 26).toNat : Nat) : Int) = some letters.cps.toList[(z % 26).toNat] := atI_nat (List.getElem?_eq_getElem hk)
  rw [show (((z % 26).toNat : Nat) : Int) = z % 26 by omega] at q
  rw [q, List.getD_eq_getElem?_getD, List.getElem?_eq_getElem hk]
  rfl
theorem dyeLs_sum (c : Int) : ((dyeLs c).map (·.length)).sum + (dyeLs c).length * ("" : Str).length ≤ 16777216 := by
  have h3 := dyeSize_le c
  have h4 : ("" : Str).length = 0 := rfl
  rw [dyeLs_sum1, h4]
  omega
theorem fn_law_dye (D : Def K mg "_law_dye" s_law_dye) (B : Bl mg) : Fn P w K mg base 1 "_law_dye" ["cell"] spDye := by
  have SC := sc_law_dye
  refine D.fn SC (fun _ _ _ _ _ _ us hl => match us, hl with | [_], _ => rfl) (fun vs H Q E h => by obtain ⟨c, rfl, _⟩ := h; rfl) (fun f cdv A outer s H vs Q E hr h => ?_)
  obtain ⟨c, rfl, q⟩ := h
  refine ⟨_, (pss_cons (ps_set (i := 1) SC.nd rfl (Or.inl rfl) (pe_op op_add pe_int (pe_op op_mod (pv 0) pe_int)))
      (pss_cons (ps_if (pt_cmpR op_eq (pe_op op_mod (pv 0) pe_int) pe_int (nomark _)) (pss_one (ps_set (i := 1) SC.nd rfl (Or.inl rfl) pe_int)) pss_nil)
      (pss_cons (ps_set (i := 2) SC.nd rfl (Or.inr rfl) (pe_op op_mul pe_int (pe_op op_mod (pe_op op_fdiv (pv 0) pe_int) pe_int)))
      (pss_one (ps_ret (pe_bm PySem.F.plainAttrs_str PySem.F.slot_str_join PySem.F.type_str_join mt_join pe_str (pa_cons (pe_comp rfl (ts := ["k"]) (fr := [("cell", 0), ("step", 2)]) ⟨rfl, by decide +kernel, by decide +kernel, (by show ∀ y : Str × NameKind, y ∈ _ → _ → List.lookup y.1 (defScope s_law_dye).names = some .cell ∨ List.lookup y.1 (defScope s_law_dye).names = some .free; decide +kernel), ⟨⟨rfl, rfl, rfl⟩, ⟨rfl, rfl, rfl⟩, trivial⟩⟩ (pi_range1 rfl B.range (pa_cons (pv 1) pa_nil)) (fun _ _ _ _ => (pg_name (i := 0) (show (namesC ["k"] [("cell", 0), ("step", 2)]).Nodup by decide +kernel) rfl (Or.inl rfl))) (fun _ _ _ _ => pifs_nil) (fun _ _ _ _ => (pe_ix ix_str pe_str (pe_op op_mod (pe_op op_add (pe_op op_fdiv (pv 1) pe_int) (pe_op op_mul (pv 2) (pv 0))) pe_int) (fun _ _ => rfl)))) pa_nil))))))), ?_⟩
  refine ⟨_, rfl, _, _, rfl, rfl, (by show (0 : Int) < 3; decide), _, _, rfl, rfl, ?_⟩
  refine ⟨_, rfl, _, _, rfl, rfl, (by show (0 : Int) < 11; decide), rfl, _, rfl, ?_⟩
  have hz := dyeSize_le c
  have fin : ∀ (z : Int) (D : Addr) (H' : Hp), z = dyeSize c → Same H H' → H' D = some (.lst ((((List.range z.toNat).map fun (k : Nat) => letterAt ((c / 3 + dyeStep c * (k : Int)) % 26))).map V.str)) →
      rJoin K (.str "") [.ref D] H' Q := by
    intro z D H' e g hD
    subst e
    exact ⟨_, D, dyeLs c, rfl, rfl, SqL.of hD, dyeLs_sum c, q H' g⟩
  refine ite2 (fun hc => ?_) (fun hc => ?_)
  · have e : (20 : Int) = dyeSize c := by
      unfold dyeSize
      rw [if_pos (V.int.inj (of_decide_eq_true hc))]
    refine ⟨_, rfl, _, _, rfl, rfl, ⟨by decide, by decide⟩, _, _, rfl, rfl, (by show (0 : Int) < 4; decide), _, _, rfl, rfl, .inl ⟨by decide, by decide⟩, ?_⟩
    refine ⟨rfl, _, rfl, 20, rfl, by decide, by decide, fun D hD => ?_⟩
    refine comp_range (n := (20 : Int).toNat) (fun i ys H' => Same H H' ∧ H' D = some (.lst ys) ∧ ys = ((List.range i).map fun (k : Nat) => letterAt ((c / 3 + dyeStep c * (k : Int)) % 26)).map V.str)
      ⟨same_new hD _, upd_same, rfl⟩ (fun i ys H' _ h => h.2.1) ?_ ?_
    · rintro i ys H' hi ⟨g, h1, h2⟩
      refine ⟨by rw [h2, List.length_map, List.length_map, List.length_range]; exact small1000 (by omega), ⟨rfl, rfl⟩, ?_⟩
      refine ⟨_, rfl, _, _, rfl, rfl, ⟨by decide, by decide⟩, _, rfl, _, rfl, _, _, rfl, rfl, ?_, _, _, rfl, rfl, _, _, rfl, rfl, (by show (0 : Int) < 26; decide), letters, _, _, rfl, rfl, (by decide +kernel), letter_ix _, h1, ?_⟩
      · exact .inr ⟨by omega, by omega⟩
      · refine ⟨fun b o e => ?_, upd_same, ?_⟩
        · rw [upd_ne (ne_of_none e hD)]
          exact g b o e
        · rw [h2, List.range_succ, List.map_append, List.map_append]
          simp only [List.map_cons, List.map_nil, Int.zero_add]
          rfl
    · rintro ys H' ⟨g, h1, h2⟩
      exact fin 20 D H' e g (by rw [h1, h2])
  · have e : 1 + c % 3 = dyeSize c := by
      unfold dyeSize
      rw [if_neg (fun z => hc (decide_eq_true (congrArg V.int z)))]
    refine ⟨_, rfl, _, _, rfl, rfl, ⟨by decide, by decide⟩, _, _, rfl, rfl, (by show (0 : Int) < 4; decide), _, _, rfl, rfl, .inl ⟨by decide, by decide⟩, ?_⟩
    refine ⟨rfl, _, rfl, 1 + c % 3, rfl, by omega, by omega, fun D hD => ?_⟩
    refine comp_range (n := (1 + c % 3).toNat) (fun i ys H' => Same H H' ∧ H' D = some (.lst ys) ∧ ys = ((List.range i).map fun (k : Nat) => letterAt ((c / 3 + dyeStep c * (k : Int)) % 26)).map V.str)
      ⟨same_new hD _, upd_same, rfl⟩ (fun i ys H' _ h => h.2.1) ?_ ?_
    · rintro i ys H' hi ⟨g, h1, h2⟩
      refine ⟨by rw [h2, List.length_map, List.length_map, List.length_range]; exact small1000 (by omega), ⟨rfl, rfl⟩, ?_⟩
      refine ⟨_, rfl, _, _, rfl, rfl, ⟨by decide, by decide⟩, _, rfl, _, rfl, _, _, rfl, rfl, ?_, _, _, rfl, rfl, _, _, rfl, rfl, (by show (0 : Int) < 26; decide), letters, _, _, rfl, rfl, (by decide +kernel), letter_ix _, h1, ?_⟩
      · exact .inr ⟨by omega, by omega⟩
      · refine ⟨fun b o e => ?_, upd_same, ?_⟩
        · rw [upd_ne (ne_of_none e hD)]
          exact g b o e
        · rw [h2, List.range_succ, List.map_append, List.map_append]
          simp only [List.map_cons, List.map_nil, Int.zero_add]
          rfl
    · rintro ys H' ⟨g, h1, h2⟩
      exact fin _ D H' e g (by rw [h1, h2])

theorem sc_law_book : FnScope ["cell", "start"] ["cell"] (defScope s_law_book) := ⟨rfl, rfl, rfl, by decide +kernel, rfl, by decide +kernel, by decide +kernel⟩
theorem fn_law_book (D : Def K mg "_law_book" s_law_book) : Fn P w K mg base 1 "_law_book" ["cell"] spBook := by
  have SC := sc_law_book
  refine D.fn SC (fun _ _ _ _ _ _ us hl => match us, hl with | [_], _ => rfl) (fun vs H Q E h => by obtain ⟨c, rfl, _⟩ := h; rfl) (fun f cdv A outer s H vs Q E hr h => ?_)
  obtain ⟨c, rfl, q⟩ := h
  refine ⟨_, (pss_cons (ps_set (i := 1) SC.nd rfl (Or.inl rfl) (pe_op op_mod (pe_op op_fdiv (pv 0) pe_int) (pe_ix ix_list (pe_lst (pa_cons pe_int (pa_cons pe_int (pa_cons (pe_op op_pow pe_int pe_int) (pa_cons (pe_op op_pow pe_int pe_int) pa_nil))))) (pe_op op_mod (pv 0) pe_int) (fun _ _ => rfl))))
      (pss_one (ps_ret (pe_lst (pa_cons (pv 1) (pa_cons (pe_ix ix_list (pe_lst (pa_cons pe_int (pa_cons pe_int (pa_cons pe_int (pa_cons (pe_op op_add (pe_op op_pow pe_int pe_int) pe_int) pa_nil))))) (pe_op op_mod (pe_op op_fdiv (pv 0) pe_int) pe_int) (fun _ _ => rfl)) (pa_cons pe_int pa_nil))))))), ?_⟩
  refine ⟨_, rfl, _, _, rfl, rfl, ⟨by decide, by decide⟩, ?_⟩
  refine ⟨_, _, rfl, rfl, ⟨by decide, by decide, by decide⟩, _, _, rfl, rfl, ⟨by decide, by decide, by decide⟩, (by show 4 ≤ sizeLine; decide), fun p hp => ?_⟩
  have e4 : ∀ (a b c d : Int) (z : Int), atI [V.int a, .int b, .int c, .int d] (z % 4) = some (.int (([a, b, c, d] : List Int).getD (z % 4).toNat 0)) := by
    intro a b c d z
    rcases mod4 z with h | h | h | h <;> rw [h] <;> rfl
  refine ⟨_, rfl, _, _, rfl, rfl, (by show (0 : Int) < 4; decide), p, _, _, _, rfl, rfl, SqL.of upd_same, e4 _ _ _ _ _, _, _, rfl, rfl, ?_, ?_⟩
  · show (0 : Int) < ([10, 1000, 10 ^ (12 : Int).toNat, 10 ^ (29 : Int).toNat] : List Int).getD (c % 4).toNat 0
    rcases mod4 c with h | h | h | h <;> rw [h] <;> decide
  refine ⟨_, rfl, _, _, rfl, rfl, ⟨by decide, by decide, by decide⟩, _, _, rfl, rfl, (by show 4 ≤ sizeLine; decide), fun p2 hp2 => ?_⟩
  refine ⟨_, rfl, _, _, rfl, rfl, ⟨by decide, by decide⟩, _, _, rfl, rfl, (by show (0 : Int) < 4; decide), p2, _, _, _, rfl, rfl, SqL.of upd_same, e4 _ _ _ _ _, (by show 3 ≤ sizeLine; decide), fun p3 hp3 => ?_⟩
  exact q p3 _ ((same_new hp _).trans ((same_new hp2 _).trans (same_new hp3 _))) (Same.free ((same_new hp _).trans (same_new hp2 _)) hp3) upd_same

theorem sc_law_number : FnScope ["book", "at"] ["book"] (defScope s_law_number) := ⟨rfl, rfl, rfl, by decide +kernel, rfl, by decide +kernel, by decide +kernel⟩
theorem fn_law_number (D : Def K mg "_law_number" s_law_number) : Fn P w K mg base 1 "_law_number" ["book"] spNumber := by
  have SC := sc_law_number
  refine D.fn SC (fun _ _ _ _ _ _ us hl => match us, hl with | [_], _ => rfl) (fun vs H Q E h => by obtain ⟨b, s, st, c, rfl, _⟩ := h; rfl) (fun f cdv A outer s H vs Q E hr h => ?_)
  obtain ⟨b, s, st, c, rfl, ⟨hb, h1, h2, h3, h4⟩, q⟩ := h
  refine ⟨_, (pss_cons (ps_set (i := 1) SC.nd rfl (Or.inl rfl) (pe_ix ix_list (pv 0) pe_int (fun _ _ => rfl)))
      (pss_cons (ps_asg (pe_op op_add (pv 1) pe_int) (pg_sub (pv 0) pe_int set_list))
      (pss_one (ps_ret (pe_op op_add (pe_ix ix_list (pv 0) pe_int (fun _ _ => rfl)) (pe_op op_mul (pe_ix ix_list (pv 0) pe_int (fun _ _ => rfl)) (pe_op op_add (pe_op op_mod (pe_op op_mul (pv 1) pe_int) pe_int) (pe_op op_mul pe_int (pe_op op_fdiv (pv 1) pe_int))))))))), ?_⟩
  -- at = book[2]; book[2] = at + 1
  refine ⟨_, rfl, b, _, _, .int c, rfl, rfl, SqL.of hb, rfl, ?_⟩
  refine ⟨_, rfl, _, _, rfl, rfl, _, rfl, b, _, _, 2, rfl, rfl, hb, rfl, ?_⟩
  refine ⟨_, rfl, b, _, _, .int s, rfl, rfl, SqL.of upd_same, rfl, _, rfl, b, _, _, .int st, rfl, rfl, SqL.of upd_same, rfl, ?_⟩
  refine ⟨_, rfl, _, _, rfl, rfl, .inr ⟨by decide, by decide⟩, _, _, rfl, rfl, (by show (0 : Int) < 64; decide), _, rfl, _, _, rfl, rfl, ⟨by decide, by decide⟩, _, _, rfl, rfl, .inl ⟨by decide, by decide⟩, _, _, rfl, rfl, ?_⟩
  exact ⟨_, _, rfl, rfl, .inl ⟨by omega, by omega⟩, _, _, rfl, rfl, q⟩

theorem sc_law_is_tip : FnScope ["hang"] ["hang"] (defScope s_law_is_tip) := ⟨rfl, rfl, rfl, by decide +kernel, rfl, by decide +kernel, by decide +kernel⟩
theorem fn_law_is_tip (D : Def K mg "_law_is_tip" s_law_is_tip) : Fn P w K mg base 1 "_law_is_tip" ["hang"] spIsTip := by
  have SC := sc_law_is_tip
  refine D.fn SC (fun _ _ _ _ _ _ us hl => match us, hl with | [_], _ => rfl) (fun vs H Q E h => by obtain ⟨v, h, rfl, _⟩ := h; rfl) (fun f cdv A outer s H vs Q E hr h => ?_)
  obtain ⟨v, h, rfl, hh, q⟩ := h
  refine ⟨_, (pss_one (ps_ret (pe_or (pe_cmpR op_eq (pe_ix ix_tup (pv 0) pe_int (fun _ _ => rfl)) pe_str (nomark _)) (pe_one (pe_cmpR op_eq (pe_ix ix_tup (pv 0) pe_int (fun _ _ => rfl)) pe_str (nomark _)))))), ?_⟩
  obtain ⟨a, y, z, rfl, e⟩ := hh.tup
  refine ⟨_, rfl, a, _, _, _, rfl, rfl, SqT.of e, rfl, rfl, _, rfl, ?_⟩
  refine ite2 (fun c => ?_) (fun c => ?_)
  · have c' : h.word = "light" := V.str.inj (of_decide_eq_true c)
    have : h.isTip = true := Hang.isTip_light c'
    rw [this] at q
    exact q H (Same.refl H)
  · have c' : ¬ h.word = "light" := fun z => c (decide_eq_true (congrArg V.str z))
    refine ⟨_, rfl, a, _, _, _, rfl, rfl, SqT.of e, rfl, rfl, ?_⟩
    have := Hang.isTip_dark c'
    rw [this] at q
    exact q H (Same.refl H)

theorem sc_law_tips : FnScope ["hang"] ["hang"] (defScope s_law_tips) := ⟨rfl, rfl, rfl, by decide +kernel, rfl, by decide +kernel, by decide +kernel⟩
theorem fn_law_tips (D : Def K mg "_law_tips" s_law_tips) (F_law_is_tip : Fn P w K mg base 1 "_law_is_tip" ["hang"] spIsTip) : ∀ n, Fn P w K mg base (n + 1) "_law_tips" ["hang"] (spTips n)
  | 0 => D.no (fun _ _ _ _ _ _ us hl => match us, hl with | [_], _ => rfl) fun vs H Q E h => by obtain ⟨v, h, _, _, h1, _⟩ := h; omega
  | n + 1 => by
    have F_law_tips := fn_law_tips D F_law_is_tip n
    have SC := sc_law_tips
    refine D.fn SC (fun _ _ _ _ _ _ us hl => match us, hl with | [_], _ => rfl) (fun vs H Q E h => by obtain ⟨v, h, rfl, _⟩ := h; rfl) (fun f cdv A outer s H vs Q E hr h => ?_)
    obtain ⟨v, h, rfl, hh, hn, hz, q⟩ := h
    refine ⟨_, (pss_cons (ps_if (pt_val (pe_fn F_law_is_tip hr rfl (pa_cons (pv 0) pa_nil))) (pss_one (ps_ret (pe_lst (pa_cons (pv 0) pa_nil)))) pss_nil)
      (pss_one (ps_ret (pe_op op_cat (pe_fn F_law_tips hr rfl (pa_cons (pe_ix ix_tup (pv 0) pe_int (fun _ _ => rfl)) pa_nil)) (pe_fn F_law_tips hr rfl (pa_cons (pe_ix ix_tup (pv 0) pe_int (fun _ _ => rfl)) pa_nil)))))), ?_⟩
    refine ⟨_, rfl, v, h, rfl, hh, fun H1 g1 => ⟨_, rfl, ?_⟩⟩
    cases hh with
    | @tip a b d k e =>
      refine iteT ⟨_, rfl, (by show 1 ≤ sizeLine; decide), fun p hp => ?_⟩
      exact q p _ _ (g1.trans (same_new hp _)) (g1.free hp) upd_same (.cons ((HangAt.tip e).same (g1.trans (same_new hp _))) .nil)
    | @knot a f vl vr l r e hl hr' =>
      have hd : max l.depth r.depth + 1 < n + 1 := hn
      have hs : l.size + r.size ≤ 4194304 := hz
      refine iteF ⟨_, rfl, a, _, _, _, rfl, rfl, SqT.of (g1 _ _ e), rfl, vl, l, rfl, hl.same g1, by omega, by omega, fun p us H2 g2 n2 e2 t2 => ?_⟩
      refine ⟨_, rfl, a, _, _, _, rfl, rfl, SqT.of (g2 _ _ (g1 _ _ e)), rfl, vr, r, rfl, hr'.same (g1.trans g2), by omega, by omega, fun p3 us3 H3 g3 n3 e3 t3 => ?_⟩
      have z2 : us.length = l.size := by rw [t2.length, Hang.tips_length]
      have z3 : us3.length = r.size := by rw [t3.length, Hang.tips_length]
      refine ⟨p, p3, us, us3, rfl, rfl, g3 _ _ e2, e3, by rw [z2, z3]; exact Nat.le_trans hs (by decide), fun p4 h4 => ?_⟩
      refine q p4 _ _ (g1.trans (g2.trans (g3.trans (same_new h4 _)))) (g1.free (g2.free (g3.free h4))) upd_same ?_
      exact Paired.app (t2.mono (.of (g3.trans (same_new h4 _)))) (t3.mono (.of (same_new h4 _)))

theorem sc_law_mirror : FnScope ["hang", "word"] ["hang"] (defScope s_law_mirror) := ⟨rfl, rfl, rfl, by decide +kernel, rfl, by decide +kernel, by decide +kernel⟩
theorem fn_law_mirror (D : Def K mg "_law_mirror" s_law_mirror) (F_law_is_tip : Fn P w K mg base 1 "_law_is_tip" ["hang"] spIsTip) : ∀ n, Fn P w K mg base (n + 1) "_law_mirror" ["hang"] (spMap Hang.mir n)
  | 0 => D.no (fun _ _ _ _ _ _ us hl => match us, hl with | [_], _ => rfl) fun vs H Q E h => by obtain ⟨v, h, _, _, h1, _⟩ := h; omega
  | n + 1 => by
    have F_law_mirror := fn_law_mirror D F_law_is_tip n
    have SC := sc_law_mirror
    refine D.fn SC (fun _ _ _ _ _ _ us hl => match us, hl with | [_], _ => rfl) (fun vs H Q E h => by obtain ⟨v, h, rfl, _⟩ := h; rfl) (fun f cdv A outer s H vs Q E hr h => ?_)
    obtain ⟨v, h, rfl, hh, hn, q⟩ := h
    refine ⟨_, (pss_cons (ps_set (i := 1) SC.nd rfl (Or.inl rfl) (pe_dget (hu_of hr) (pe_disp (pps_cons pe_str pe_str (pps_cons pe_str pe_str (pps_cons pe_str pe_str (pps_cons pe_str pe_str pps_nil)))) rfl rfl (List.cons_ne_nil _ _) (by show 4 ≤ 15; decide)) (pe_ix ix_tup (pv 0) pe_int (fun _ _ => rfl)) (fun _ _ => rfl)))
      (pss_cons (ps_if (pt_val (pe_fn F_law_is_tip hr rfl (pa_cons (pv 0) pa_nil))) (pss_one (ps_ret (pe_tup (pa_cons (pv 1) (pa_cons (pe_ix ix_tup (pv 0) pe_int (fun _ _ => rfl)) (pa_cons (pe_ix ix_tup (pv 0) pe_int (fun _ _ => rfl)) pa_nil)))))) pss_nil)
      (pss_one (ps_ret (pe_tup (pa_cons (pv 1) (pa_cons (pe_fn F_law_mirror hr rfl (pa_cons (pe_ix ix_tup (pv 0) pe_int (fun _ _ => rfl)) pa_nil)) (pa_cons (pe_fn F_law_mirror hr rfl (pa_cons (pe_ix ix_tup (pv 0) pe_int (fun _ _ => rfl)) pa_nil)) pa_nil)))))))), ?_⟩
    obtain ⟨a0, y0, z0, e0, t0⟩ := hh.tup
    subst e0
    intro p hp
    refine ⟨upd_same, mirD, rfl, by decide, ?_⟩
    generalize hH1 : upd (upd H p (.dK [])) p (.dK (mergeK [] mirD)) = H1
    have g1 : Same H H1 := by rw [← hH1]; exact same_two hp _ _
    have d1 : H1 p = some (.dK (mergeK [] mirD)) := by rw [← hH1]; exact upd_same
    refine ⟨_, rfl, a0, _, _, _, rfl, rfl, SqT.of (g1 _ _ t0), rfl, p, .str h.mir.word, rfl, ?_, ?_⟩
    · rw [← mirD_get h]
      exact DGet.k (k := Sum.inr h.word) d1
    refine ⟨_, rfl, _, h, rfl, hh.same g1, fun H2 g2 => ⟨_, rfl, ?_⟩⟩
    have g12 : Same H H2 := g1.trans g2
    cases hh with
    | @tip a b d k e =>
      refine iteT ⟨_, rfl, _, rfl, a0, _, _, _, rfl, rfl, SqT.of (g12 _ _ e), rfl, _, rfl, a0, _, _, _, rfl, rfl, SqT.of (g12 _ _ e), rfl, (by show 3 ≤ sizeLine; decide), fun r h3 => ?_⟩
      exact q _ _ (g12.trans (same_new h3 _)) (.tip upd_same)
    | @knot a f vl vr l r e hl hr' =>
      have hd : max l.depth r.depth + 1 < n + 1 := hn
      refine iteF ⟨_, rfl, _, rfl, a0, _, _, _, rfl, rfl, SqT.of (g12 _ _ e), rfl, vl, l, rfl, hl.same g12, by omega, fun x H3 g3 e3 => ?_⟩
      refine ⟨_, rfl, a0, _, _, _, rfl, rfl, SqT.of (g3 _ _ (g12 _ _ e)), rfl, vr, r, rfl, hr'.same (g12.trans g3), by omega, fun y H4 g4 e4 => ?_⟩
      refine ⟨(by show 3 ≤ sizeLine; decide), fun r5 h5 => ?_⟩
      exact q _ _ (g12.trans (g3.trans (g4.trans (same_new h5 _)))) (.knot upd_same (e3.same (g4.trans (same_new h5 _))) (e4.same (same_new h5 _)))

theorem sc_law_anew : FnScope ["hang", "book", "left"] ["hang", "book"] (defScope s_law_anew) := ⟨rfl, rfl, rfl, by decide +kernel, rfl, by decide +kernel, by decide +kernel⟩
theorem fn_law_anew (D : Def K mg "_law_anew" s_law_anew) (F_law_is_tip : Fn P w K mg base 1 "_law_is_tip" ["hang"] spIsTip) (F_law_number : Fn P w K mg base 1 "_law_number" ["book"] spNumber) : ∀ n, Fn P w K mg base (n + 1) "_law_anew" ["hang", "book"] (spAnew n)
  | 0 => D.no (fun _ _ _ _ _ _ us hl => match us, hl with | [_, _], _ => rfl) fun vs H Q E h => by obtain ⟨v, h, b, s, st, c, _, _, h1, _⟩ := h; omega
  | n + 1 => by
    have F_law_anew := fn_law_anew D F_law_is_tip F_law_number n
    have SC := sc_law_anew
    refine D.fn SC (fun _ _ _ _ _ _ us hl => match us, hl with | [_, _], _ => rfl) (fun vs H Q E h => by obtain ⟨v, h, b, s, st, c, rfl, _⟩ := h; rfl) (fun f cdv A outer s0 H vs Q E hr h => ?_)
    obtain ⟨v, h, b, s, st, c, rfl, hh, hn, hb, q⟩ := h
    refine ⟨_, (pss_cons (ps_if (pt_val (pe_fn F_law_is_tip hr rfl (pa_cons (pv 0) pa_nil))) (pss_one (ps_ret (pe_tup (pa_cons (pe_ix ix_tup (pv 0) pe_int (fun _ _ => rfl)) (pa_cons (pe_ix ix_tup (pv 0) pe_int (fun _ _ => rfl)) (pa_cons (pe_fn F_law_number hr rfl (pa_cons (pv 1) pa_nil)) pa_nil)))))) pss_nil)
      (pss_cons (ps_set (i := 2) SC.nd rfl (Or.inl rfl) (pe_fn F_law_anew hr rfl (pa_cons (pe_ix ix_tup (pv 0) pe_int (fun _ _ => rfl)) (pa_cons (pv 1) pa_nil))))
      (pss_one (ps_ret (pe_tup (pa_cons (pe_ix ix_tup (pv 0) pe_int (fun _ _ => rfl)) (pa_cons (pv 2) (pa_cons (pe_fn F_law_anew hr rfl (pa_cons (pe_ix ix_tup (pv 0) pe_int (fun _ _ => rfl)) (pa_cons (pv 1) pa_nil))) pa_nil)))))))), ?_⟩
    refine ⟨_, rfl, _, h, rfl, hh, fun H1 g1 => ⟨_, rfl, ?_⟩⟩
    have b1 : BookAt H1 b s st c := ⟨g1 _ _ hb.1, hb.2⟩
    cases hh with
    | @tip a lt d k e =>
      refine iteT ⟨_, rfl, a, _, _, _, rfl, rfl, SqT.of (g1 _ _ e), rfl, _, rfl, a, _, _, _, rfl, rfl, SqT.of (g1 _ _ e), rfl, _, rfl, b, s, st, c, rfl, b1, ?_⟩
      refine ⟨(by show 3 ≤ sizeLine; decide), fun r h3 => ?_⟩
      have nb : r ≠ b := fun z => by rw [z, upd_same] at h3; cases h3
      refine q _ _ (fun x o ex nx => ?_) ⟨by rw [upd_ne nb.symm]; exact upd_same, hb.2.1, hb.2.2.1, hb.2.2.2.1, by have := hb.2.2.2.2; show 0 ≤ c + 1; omega⟩ (.tip upd_same)
      have nxb : x ≠ b := fun z => nx (by simp [z])
      have ex1 : upd H1 b (.lst [.int s, .int st, .int (c + 1)]) x = some o := by rw [upd_ne nxb]; exact g1 _ _ ex
      rw [upd_ne (ne_of_none ex1 h3)]
      exact ex1
    | @knot a f vl vr l r e hl hr' =>
      have hd : max l.depth r.depth + 1 < n + 1 := hn
      refine iteF ⟨_, rfl, a, _, _, _, rfl, rfl, SqT.of (g1 _ _ e), rfl, _, rfl, vl, l, b, s, st, c, rfl, hl.same g1, by omega, b1, fun x H2 k2 b2 e2 => ?_⟩
      have na : ∀ {H' : Hp} {z : Addr} {xs : List V}, H' z = some (.tup xs) → BookAt H' b s st c → z ∉ [b] := fun {H' z xs} h1 h2 h3 => by
        have : z = b := by simpa using h3
        rw [this, h2.1] at h1
        cases h1
      have t2 : TupK H1 H2 := fun z xs hz => k2 z _ hz (na hz b1)
      refine ⟨_, rfl, a, _, _, _, rfl, rfl, SqT.of (t2 _ _ (g1 _ _ e)), rfl, _, rfl, _, rfl, a, _, _, _, rfl, rfl, SqT.of (t2 _ _ (g1 _ _ e)), rfl, _, rfl, vr, r, b, s, st, _, rfl, (hr'.same g1).mono t2, by omega, b2, fun y H3 k3 b3 e3 => ?_⟩
      have t3 : TupK H2 H3 := fun z xs hz => k3 z _ hz fun h3 => by
        have : z = b := by simpa using h3
        rw [this, b2.1] at hz
        cases hz
      refine ⟨(by show 3 ≤ sizeLine; decide), fun r5 h5 => ?_⟩
      refine q _ _ (((Keep.of g1).trans k2).trans (k3.trans (Keep.of (same_new h5 _)))) ⟨same_new h5 _ _ _ b3.1, b3.2⟩ (.knot upd_same ((e2.mono t3).same (same_new h5 _)) (e3.same (same_new h5 _)))

theorem sc_law_add_cord : FnScope ["loft", "cell", "number", "dye", "pair"] ["loft", "cell"] (defScope s_law_add_cord) := ⟨rfl, rfl, rfl, by decide +kernel, rfl, by decide +kernel, by decide +kernel⟩
theorem fn_law_add_cord (D : Def K mg "_law_add_cord" s_law_add_cord) (F_law_number : Fn P w K mg base 1 "_law_number" ["book"] spNumber) (F_law_dye : Fn P w K mg base 1 "_law_dye" ["cell"] spDye) : Fn P w K mg base 2 "_law_add_cord" ["loft", "cell"] spAddCord := by
  have SC := sc_law_add_cord
  refine D.fn SC (fun _ _ _ _ _ _ us hl => match us, hl with | [_, _], _ => rfl) (fun vs H Q E h => by obtain ⟨H0, L, R, M, S, B, d, cell, rfl, _⟩ := h; rfl) (fun f cdv A outer s0 H vs Q E hr h => ?_)
  obtain ⟨H0, L, R, M, S, B, d, cell, rfl, ⟨vr, vs, x, hRs, hSs, hb⟩, hz1, hz2, q⟩ := h
  refine ⟨_, (pss_cons (ps_set (i := 2) SC.nd rfl (Or.inl rfl) (pe_fn F_law_number hr rfl (pa_cons (pe_ix ix_list (pv 0) pe_int (fun _ _ => rfl)) pa_nil)))
      (pss_cons (ps_set (i := 3) SC.nd rfl (Or.inl rfl) (pe_fn F_law_dye hr rfl (pa_cons (pe_op op_fdiv (pv 1) pe_int) pa_nil)))
      (pss_cons (ps_set (i := 4) SC.nd rfl (Or.inl rfl) (pe_lst (pa_cons (pe_tup (pa_cons pe_str (pa_cons (pv 3) (pa_cons (pv 2) pa_nil)))) (pa_cons (pe_tup (pa_cons pe_str (pa_cons (pv 3) (pa_cons (pv 2) pa_nil)))) pa_nil))))
      (pss_cons (ps_if (pt_cmpR op_eq (pe_op op_mod (pe_op op_fdiv (pv 1) pe_int) pe_int) pe_int (nomark _)) (pss_one (ps_set (i := 4) SC.nd rfl (Or.inl rfl) (pe_lst (pa_cons (pe_ix ix_list (pv 4) pe_int (fun _ _ => rfl)) (pa_cons (pe_ix ix_list (pv 4) pe_int (fun _ _ => rfl)) pa_nil))))) pss_nil)
      (pss_cons (ps_expr (pe_bm PySem.F.plainAttrs_list PySem.F.slot_list_extend PySem.F.type_list_extend mt_extend (pe_ix ix_list (pv 0) pe_int (fun _ _ => rfl)) (pa_cons (pv 4) pa_nil)))
      (pss_one (ps_expr (pe_bm PySem.F.plainAttrs_list PySem.F.slot_list_extend PySem.F.type_list_extend mt_extend (pe_ix ix_list (pv 0) pe_int (fun _ _ => rfl)) (pa_cons (pe_lst (pa_cons (pv 2) (pa_cons (pv 2) pa_nil))) pa_nil))))))))), ?_⟩
  have sz1 : vr.length = d.rack.length := hRs.length
  -- number = _law_number(loft[3])
  refine ⟨_, rfl, L, _, _, .ref B, rfl, rfl, SqL.of x.l, rfl, B, d.s, d.st, d.c, rfl, ⟨x.b, hb⟩, ?_⟩
  have x1 := x.setB [.int d.s, .int d.st, .int (d.c + 1)]
  have t1 : TupK H _ := TupK.set x.b (.lst [.int d.s, .int d.st, .int (d.c + 1)])
  generalize upd H B (.lst [.int d.s, .int d.st, .int (d.c + 1)]) = H1 at x1 t1
  -- dye = _law_dye(cell // 7)
  refine ⟨_, rfl, _, _, rfl, rfl, ⟨by decide, by decide⟩, _, rfl, fun H2 g2 => ?_⟩
  have x2 := x1.grow g2
  -- pair
  refine ⟨_, rfl, _, rfl, (by show 3 ≤ sizeLine; decide), fun p1 hp1 => ⟨_, rfl, _, rfl, (by show 3 ≤ sizeLine; decide), fun p2 hp2 => ⟨(by show 2 ≤ sizeLine; decide), fun p3 hp3 => ?_⟩⟩⟩
  have g3 := (same_new hp1 (.tup [.str "light", .str (dyeOf (cell / 7)), .int (numOf d.s d.st d.c)])).trans ((same_new hp2 (.tup [.str "dark", .str (dyeOf (cell / 7)), .int (numOf d.s d.st d.c)])).trans (same_new hp3 (.lst [.ref p1, .ref p2])))
  have h1 := (same_new hp2 (.tup [.str "dark", .str (dyeOf (cell / 7)), .int (numOf d.s d.st d.c)])).trans (same_new hp3 (.lst [.ref p1, .ref p2])) p1 _ upd_same
  have h2 := same_new hp3 (.lst [.ref p1, .ref p2]) p2 _ upd_same
  have h3 : upd (upd (upd H2 p1 (.tup [.str "light", .str (dyeOf (cell / 7)), .int (numOf d.s d.st d.c)])) p2 (.tup [.str "dark", .str (dyeOf (cell / 7)), .int (numOf d.s d.st d.c)])) p3 (.lst [.ref p1, .ref p2]) p3 = _ := upd_same
  generalize upd (upd (upd H2 p1 (.tup [.str "light", .str (dyeOf (cell / 7)), .int (numOf d.s d.st d.c)])) p2 (.tup [.str "dark", .str (dyeOf (cell / 7)), .int (numOf d.s d.st d.c)])) p3 (.lst [.ref p1, .ref p2]) = H3 at g3 h1 h2 h3
  have x3 := x2.grow g3
  have t3 : TupK H H3 := t1.trans ((TupK.of g2).trans (TupK.of g3))
  refine ⟨_, rfl, _, _, rfl, rfl, ⟨by decide, by decide⟩, _, _, rfl, rfl, (by show (0 : Int) < 2; decide), rfl, _, rfl, ?_⟩
  have fin : ∀ (H4 : Hp) (ps : List V) (hs : List Hang), LV H0 H4 L R M S B (vr ++ ps) ((d.marks ++ [numOf d.s d.st d.c, numOf d.s d.st d.c]).map V.int) vs [.int d.s, .int d.st, .int (d.c + 1)] → TupK H H4 → HangsAt H4 ps hs →
      hs = (if cell / 7 % 2 = 1 then [Hang.tip false (dyeOf (cell / 7)) (numOf d.s d.st d.c), .tip true (dyeOf (cell / 7)) (numOf d.s d.st d.c)] else [.tip true (dyeOf (cell / 7)) (numOf d.s d.st d.c), .tip false (dyeOf (cell / 7)) (numOf d.s d.st d.c)]) → Q .non H4 := by
    intro H4 ps hs x4 t4 hps e
    subst e
    exact q H4 ⟨_, vs, x4, Paired.app (hRs.mono t4) hps, hSs.mono t4, hb.1, hb.2.1, hb.2.2.1, by have := hb.2.2.2; show 0 ≤ d.c + 1; omega⟩ t4
  have em : (d.marks ++ [numOf d.s d.st d.c, numOf d.s d.st d.c]).map V.int = d.marks.map V.int ++ [.int (numOf d.s d.st d.c), .int (numOf d.s d.st d.c)] := by rw [List.map_append]; rfl
  refine ite2 (fun c => ?_) (fun c => ?_)
  · have c' : cell / 7 % 2 = 1 := V.int.inj (of_decide_eq_true c)
    refine ⟨_, rfl, p3, _, _, .ref p2, rfl, rfl, SqL.of h3, rfl, _, rfl, p3, _, _, .ref p1, rfl, rfl, SqL.of h3, rfl, (by show 2 ≤ sizeLine; decide), fun p4 hp4 => ?_⟩
    have g4 : Same H3 _ := same_new hp4 (.lst [.ref p2, .ref p1])
    have x4 := x3.grow g4
    have e4 : upd H3 p4 (.lst [.ref p2, .ref p1]) p4 = _ := upd_same
    generalize upd H3 p4 (.lst [.ref p2, .ref p1]) = H4 at g4 x4 e4
    refine ⟨_, rfl, L, _, _, .ref R, rfl, rfl, SqL.of x4.l, rfl, .inl ⟨rfl, _, SqL.of x4.r⟩, _, rfl, R, p4, vr, _, rfl, rfl, x4.r, e4, by rw [sz1]; exact Nat.le_trans (by show d.rack.length + 2 ≤ 1002; omega) (by decide), ?_⟩
    have x5 := x4.setR (vr ++ [.ref p2, .ref p1])
    have t5 : TupK H4 _ := TupK.set x4.r (.lst (vr ++ [.ref p2, .ref p1]))
    generalize upd H4 R (.lst (vr ++ [.ref p2, .ref p1])) = H5 at x5 t5
    refine ⟨_, rfl, L, _, _, .ref M, rfl, rfl, SqL.of x5.l, rfl, .inl ⟨rfl, _, SqL.of x5.m⟩, _, rfl, _, rfl, (by show 2 ≤ sizeLine; decide), fun p5 hp5 => ?_⟩
    have g6 : Same H5 _ := same_new hp5 (.lst [.int (numOf d.s d.st d.c), .int (numOf d.s d.st d.c)])
    have x6 := x5.grow g6
    refine ⟨M, p5, _, _, rfl, rfl, x6.m, upd_same, by rw [List.length_map]; exact Nat.le_trans (by show d.marks.length + 2 ≤ 1002; omega) (by decide), ?_⟩
    have t7 := (t5.trans (TupK.of g6)).trans (TupK.set x6.m (.lst (d.marks.map V.int ++ [.int (numOf d.s d.st d.c), .int (numOf d.s d.st d.c)])))
    refine fin _ [.ref p2, .ref p1] _ (em ▸ x6.setM _) (t3.trans ((TupK.of g4).trans t7)) (.cons ((HangAt.tip (b := false) (g4 _ _ h2)).mono t7) (.cons ((HangAt.tip (b := true) (g4 _ _ h1)).mono t7) .nil)) (by rw [if_pos c'])
  · have c' : ¬ cell / 7 % 2 = 1 := fun z => c (decide_eq_true (congrArg V.int z))
    refine ⟨_, rfl, L, _, _, .ref R, rfl, rfl, SqL.of x3.l, rfl, .inl ⟨rfl, _, SqL.of x3.r⟩, _, rfl, R, p3, vr, _, rfl, rfl, x3.r, h3, by rw [sz1]; exact Nat.le_trans (by show d.rack.length + 2 ≤ 1002; omega) (by decide), ?_⟩
    have x5 := x3.setR (vr ++ [.ref p1, .ref p2])
    have t5 : TupK H3 _ := TupK.set x3.r (.lst (vr ++ [.ref p1, .ref p2]))
    generalize upd H3 R (.lst (vr ++ [.ref p1, .ref p2])) = H5 at x5 t5
    refine ⟨_, rfl, L, _, _, .ref M, rfl, rfl, SqL.of x5.l, rfl, .inl ⟨rfl, _, SqL.of x5.m⟩, _, rfl, _, rfl, (by show 2 ≤ sizeLine; decide), fun p5 hp5 => ?_⟩
    have g6 : Same H5 _ := same_new hp5 (.lst [.int (numOf d.s d.st d.c), .int (numOf d.s d.st d.c)])
    have x6 := x5.grow g6
    refine ⟨M, p5, _, _, rfl, rfl, x6.m, upd_same, by rw [List.length_map]; exact Nat.le_trans (by show d.marks.length + 2 ≤ 1002; omega) (by decide), ?_⟩
    have t7 := (t5.trans (TupK.of g6)).trans (TupK.set x6.m (.lst (d.marks.map V.int ++ [.int (numOf d.s d.st d.c), .int (numOf d.s d.st d.c)])))
    refine fin _ [.ref p1, .ref p2] _ (em ▸ x6.setM _) (t3.trans t7) (.cons ((HangAt.tip (b := true) h1).mono t7) (.cons ((HangAt.tip (b := false) h2).mono t7) .nil)) (by rw [if_neg c'])

theorem sc_law_tie : FnScope ["loft", "a", "b", "word", "spot", "keep", "one", "other", "hangs", "marks"] ["loft", "a", "b", "word", "spot"] (defScope s_law_tie) := ⟨rfl, rfl, rfl, by decide +kernel, rfl, by decide +kernel, by decide +kernel⟩
theorem fn_law_tie (D : Def K mg "_law_tie" s_law_tie) (B : Bl mg) : Fn P w K mg base 1 "_law_tie" ["loft", "a", "b", "word", "spot"] spTie := by
  have SC := sc_law_tie
  refine D.fn SC (fun _ _ _ _ _ _ us hl => match us, hl with | [_, _, _, _, _], _ => rfl) (fun vs H Q E h => by obtain ⟨H0, L, R, M, S, B, d, a, b, f, spot, rfl, _⟩ := h; rfl) (fun f cdv A outer s0 H vs Q E hr h => ?_)
  obtain ⟨H0, L, R, M, S, B0, d, a, b, ft, spot, rfl, ⟨vr, vs, x, hRs, hSs, hb⟩, hz1, hz2, ha, hb', q⟩ := h
  refine ⟨_, (pss_cons (ps_setComp (i := 5) SC.nd rfl rfl rfl (ts := ["k"]) (fr := [("a", 1), ("b", 2)]) ⟨rfl, by decide +kernel, by decide +kernel, (by show ∀ y : Str × NameKind, y ∈ _ → _ → List.lookup y.1 (defScope s_law_tie).names = some .cell ∨ List.lookup y.1 (defScope s_law_tie).names = some .free; decide +kernel), ⟨⟨rfl, rfl, rfl⟩, ⟨rfl, rfl, rfl⟩, trivial⟩⟩ (pi_range1 rfl B.range (pa_cons (pe_callB call_len_seq rfl B.len PySem.boot_len (pa_cons (pe_ix ix_list (pv 0) pe_int (fun _ _ => rfl)) pa_nil)) pa_nil)) (fun _ _ _ _ => (pg_name (i := 0) (show (namesC ["k"] [("a", 1), ("b", 2)]).Nodup by decide +kernel) rfl (Or.inl rfl))) (fun _ _ _ _ => (pifs_one (PW.pt (pw_and (pt_cmpR op_ne (pv 0) (pv 1) (nomark _)) (pw_and1 (pt_cmpR op_ne (pv 0) (pv 2) (nomark _))))))) (fun _ _ _ _ => (pv 0)))
      (pss_cons (ps_set (i := 6) SC.nd rfl (Or.inr rfl) (pe_ix ix_list (pe_ix ix_list (pv 0) pe_int (fun _ _ => rfl)) (pv 1) (fun _ _ => rfl)))
      (pss_cons (ps_set (i := 7) SC.nd rfl (Or.inr rfl) (pe_ix ix_list (pe_ix ix_list (pv 0) pe_int (fun _ _ => rfl)) (pv 2) (fun _ _ => rfl)))
      (pss_cons (ps_setComp (i := 8) SC.nd rfl rfl rfl (ts := ["k"]) (fr := [("loft", 0)]) ⟨rfl, by decide +kernel, by decide +kernel, (by show ∀ y : Str × NameKind, y ∈ _ → _ → List.lookup y.1 (defScope s_law_tie).names = some .cell ∨ List.lookup y.1 (defScope s_law_tie).names = some .free; decide +kernel), ⟨⟨rfl, rfl, rfl⟩, trivial⟩⟩ (pi_list (pv 5)) (fun _ _ _ _ => (pg_name (i := 0) (show (namesC ["k"] [("loft", 0)]).Nodup by decide +kernel) rfl (Or.inl rfl))) (fun _ _ _ _ => pifs_nil) (fun _ _ _ _ => (pe_ix (ix_listK (K := K) rfl) (pe_ix (ix_listK (K := K) rfl) (pv 1) pe_int (fun _ _ => rfl)) (pv 0) (fun _ _ => rfl))))
      (pss_cons (ps_expr (pe_bm PySem.F.plainAttrs_list PySem.F.slot_list_insert PySem.F.type_list_insert mt_insert (pv 8) (pa_cons (pe_op op_mod (pv 4) (pe_op op_add (pe_callB call_len_seq rfl B.len PySem.boot_len (pa_cons (pv 5) pa_nil)) pe_int)) (pa_cons (pe_tup (pa_cons (pv 3) (pa_cons (pe_ix ix_list (pe_ix ix_list (pv 0) pe_int (fun _ _ => rfl)) (pv 1) (fun _ _ => rfl)) (pa_cons (pe_ix ix_list (pe_ix ix_list (pv 0) pe_int (fun _ _ => rfl)) (pv 2) (fun _ _ => rfl)) pa_nil)))) pa_nil))))
      (pss_cons (ps_setComp (i := 9) SC.nd rfl rfl rfl (ts := ["k"]) (fr := [("loft", 0)]) ⟨rfl, by decide +kernel, by decide +kernel, (by show ∀ y : Str × NameKind, y ∈ _ → _ → List.lookup y.1 (defScope s_law_tie).names = some .cell ∨ List.lookup y.1 (defScope s_law_tie).names = some .free; decide +kernel), ⟨⟨rfl, rfl, rfl⟩, trivial⟩⟩ (pi_list (pv 5)) (fun _ _ _ _ => (pg_name (i := 0) (show (namesC ["k"] [("loft", 0)]).Nodup by decide +kernel) rfl (Or.inl rfl))) (fun _ _ _ _ => pifs_nil) (fun _ _ _ _ => (pe_ix (ix_listK (K := K) rfl) (pe_ix (ix_listK (K := K) rfl) (pv 1) pe_int (fun _ _ => rfl)) (pv 0) (fun _ _ => rfl))))
      (pss_cons (ps_expr (pe_bm PySem.F.plainAttrs_list PySem.F.slot_list_insert PySem.F.type_list_insert mt_insert (pv 9) (pa_cons (pe_op op_mod (pv 4) (pe_op op_add (pe_callB call_len_seq rfl B.len PySem.boot_len (pa_cons (pv 5) pa_nil)) pe_int)) (pa_cons (pv 6) pa_nil))))
      (pss_cons (ps_asg (pv 8) (pg_sub (pv 0) pe_int set_list))
      (pss_one (ps_asg (pe_comp rfl (ts := ["mark"]) (fr := [("one", 6), ("other", 7)]) ⟨rfl, by decide +kernel, by decide +kernel, (by show ∀ y : Str × NameKind, y ∈ _ → _ → List.lookup y.1 (defScope s_law_tie).names = some .cell ∨ List.lookup y.1 (defScope s_law_tie).names = some .free; decide +kernel), ⟨⟨rfl, rfl, rfl⟩, ⟨rfl, rfl, rfl⟩, trivial⟩⟩ (pi_list (pv 9)) (fun _ _ _ _ => (pg_name (i := 0) (show (namesC ["mark"] [("one", 6), ("other", 7)]).Nodup by decide +kernel) rfl (Or.inl rfl))) (fun _ _ _ _ => pifs_nil) (fun _ _ _ _ => (pe_ifExp (pt_cmpR op_eq (pv 0) (pv 2) (nomark _)) (pv 1) (pv 0)))) (pg_sub (pv 0) pe_int set_list))))))))))), ?_⟩
  have sz1 : vr.length = d.rack.length := hRs.length
  -- keep
  refine ⟨_, rfl, L, _, _, .ref R, rfl, rfl, SqL.of x.l, rfl, R, vr, rfl, .inl (SqL.of x.r), (vr.length : Int), rfl, by omega, by omega, fun D1 hD1 => ?_⟩
  refine comp_range (n := ((vr.length : Int)).toNat) (fun i ys H' => Same H H' ∧ H' D1 = some (.lst ys) ∧ ys = (keepIx i a b).map V.int)
    ⟨same_new hD1 _, upd_same, rfl⟩ (fun i ys H' _ h => h.2.1) ?_ ?_
  · rintro i ys H' hi ⟨g, h1, h2⟩
    refine ⟨by rw [h2, List.length_map]; have := keepIx_length i a b; exact small1000 (by omega), ⟨rfl, rfl⟩, ?_⟩
    have ek := keepIx_succ i a b
    refine ⟨_, rfl, _, rfl, rfl, _, rfl, ?_⟩
    have e0 : (0 : Int) + (i : Int) = (i : Int) := Int.zero_add _
    refine ite2 (fun c1 => ?_) (fun c1 => ?_)
    · have c1' : ((i : Nat) : Int) ≠ a := fun z => by rw [decide_eq_true (congrArg V.int (e0.trans z))] at c1; cases c1
      refine ⟨_, rfl, _, rfl, rfl, _, rfl, ?_⟩
      refine ite2 (fun c2 => ?_) (fun c2 => ?_)
      · have c2' : ((i : Nat) : Int) ≠ b := fun z => by rw [decide_eq_true (congrArg V.int (e0.trans z))] at c2; cases c2
        refine ⟨_, rfl, h1, ⟨fun y o e => ?_, upd_same, ?_⟩⟩
        · rw [upd_ne (ne_of_none e hD1)]; exact g y o e
        · rw [ek, decide_eq_true c1', decide_eq_true c2', h2, e0]
          simp
      · have c2' : ((i : Nat) : Int) = b := by
          by_cases z : ((i : Nat) : Int) = b
          · exact z
          · exact absurd (by rw [decide_eq_false (fun y => z (e0 ▸ V.int.inj y))]; rfl) c2
        refine ⟨g, h1, ?_⟩
        rw [ek, h2, c2']
        simp
    · have c1' : ((i : Nat) : Int) = a := by
        by_cases z : ((i : Nat) : Int) = a
        · exact z
        · exact absurd (by rw [decide_eq_false (fun y => z (e0 ▸ V.int.inj y))]; rfl) c1
      refine iteF ⟨g, h1, ?_⟩
      rw [ek, h2, c1']
      simp
  rintro ks H1 ⟨g1, k1, ek⟩
  have en : ((vr.length : Int)).toNat = d.rack.length := by omega
  rw [en] at ek
  subst ek
  have x1 := x.grow g1
  have zk := keepIx_length d.rack.length a b
  -- one, other
  refine ⟨_, rfl, L, _, _, .ref M, rfl, rfl, SqL.of x1.l, rfl, _, rfl, M, _, _, _, rfl, rfl, SqL.of x1.m, atI_int ha.1 (by omega), ?_⟩
  refine ⟨_, rfl, L, _, _, .ref M, rfl, rfl, SqL.of x1.l, rfl, _, rfl, M, _, _, _, rfl, rfl, SqL.of x1.m, atI_int hb'.1 (by omega), ?_⟩
  -- hangs
  refine ⟨_, rfl, D1, rfl, ⟨_, SqL.of k1⟩, fun D2 hD2 => ?_⟩
  refine comp_list (xs := (keepIx d.rack.length a b).map V.int) (fun i ys H' => Same H1 H' ∧ H' D2 = some (.lst ys) ∧ HangsAt H' ys (((keepIx d.rack.length a b).take i).map fun k => d.rack.getD k.toNat default))
    ⟨same_new hD2 _, upd_same, .nil⟩ (fun i ys H' _ h => ⟨SqL.of (h.1 _ _ k1), h.2.1⟩) ?_ ?_
  · rintro i y ys H' hi ⟨g, h1, h2⟩
    have hlen : ys.length ≤ 1000 := by
      rw [h2.length, List.length_map, List.length_take]
      omega
    refine ⟨small1000 hlen, ⟨rfl, rfl⟩, ?_⟩
    obtain ⟨z, hz, rfl⟩ : ∃ z, (keepIx d.rack.length a b)[i]? = some z ∧ y = .int z := by
      rw [List.getElem?_map] at hi
      cases e : (keepIx d.rack.length a b)[i]? with
      | none => rw [e] at hi; cases hi
      | some z => rw [e] at hi; exact ⟨z, rfl, (Option.some.inj hi).symm⟩
    obtain ⟨z0, z1, _⟩ := keepIx_mem (List.mem_of_getElem? hz)
    obtain ⟨v, hv1, hv2⟩ := hang_at hRs z0 z1
    have x' := x1.grow g
    refine ⟨_, rfl, L, _, _, .ref R, rfl, rfl, SqL.of x'.l, rfl, _, rfl, R, _, _, v, rfl, rfl, SqL.of x'.r, hv1, h1, fun y o e => ?_, upd_same, ?_⟩
    · rw [upd_ne (ne_of_none e hD2)]; exact g y o e
    · have t' : TupK H' _ := TupK.set h1 (.lst (ys ++ [v]))
      rw [List.take_add_one, hz, List.map_append]
      exact Paired.app (h2.mono t') (.cons ((hv2.same (g1.trans g)).mono t') .nil)
  rintro hs H2 ⟨g2, k2, hhs⟩
  rw [List.length_map, List.take_of_length_le (Nat.le_refl _)] at hhs
  have x2 := x1.grow g2
  have g12 := g1.trans g2
  obtain ⟨va, ea1, ea2⟩ := hang_at hRs ha.1 ha.2
  obtain ⟨vb, eb1, eb2⟩ := hang_at hRs hb'.1 hb'.2
  have hk2 := g2 _ _ k1
  have nD12 : D1 ≠ D2 := ne_of_none k1 hD2
  have spos : 0 ≤ spot % (((keepIx d.rack.length a b).length : Int) + 1) ∧ spot % (((keepIx d.rack.length a b).length : Int) + 1) < ((keepIx d.rack.length a b).length : Int) + 1 :=
    ⟨Int.emod_nonneg _ (by omega), Int.emod_lt_of_pos _ (by omega)⟩
  have hlk : ((keepIx d.rack.length a b).map V.int).length = (keepIx d.rack.length a b).length := List.length_map _
  -- hangs.insert(..)
  refine ⟨_, rfl, .inl ⟨rfl, _, SqL.of k2⟩, _, rfl, _, rfl, D1, _, rfl, .inl (SqL.of hk2), _, _, rfl, rfl, _, _, rfl, rfl, ?_, ?_⟩
  · show (0 : Int) < (((keepIx d.rack.length a b).map V.int).length : Int) + 1
    omega
  refine ⟨_, rfl, _, rfl, L, _, _, .ref R, rfl, rfl, SqL.of x2.l, rfl, _, rfl, R, _, _, va, rfl, rfl, SqL.of x2.r, ea1, _, rfl, L, _, _, .ref R, rfl, rfl, SqL.of x2.l, rfl, _, rfl, R, _, _, vb, rfl, rfl, SqL.of x2.r, eb1, (by show 3 ≤ sizeLine; decide), fun p3 hp3 => ?_⟩
  have g3 : Same H2 _ := same_new hp3 (.tup [.str (knotW ft), va, vb])
  have ep3 : upd H2 p3 (.tup [.str (knotW ft), va, vb]) p3 = _ := upd_same
  generalize upd H2 p3 (.tup [.str (knotW ft), va, vb]) = H3 at g3 ep3
  have hz3 : hs.length ≤ 1000 := by rw [hhs.length, List.length_map]; omega
  refine ⟨D2, hs, _, _, rfl, rfl, g3 _ _ k2, by rw [hlk]; omega, small1000 hz3, ?_⟩
  rw [hlk]
  have t4 : TupK H3 _ := TupK.set (g3 _ _ k2) (.lst (insL hs (spot % (((keepIx d.rack.length a b).length : Int) + 1)) (.ref p3)))
  have k4 : Keep [D2] H3 _ := Keep.upd (List.mem_singleton.mpr rfl) (.lst (insL hs (spot % (((keepIx d.rack.length a b).length : Int) + 1)) (.ref p3)))
  have e4 : upd H3 D2 (.lst (insL hs (spot % (((keepIx d.rack.length a b).length : Int) + 1)) (.ref p3))) D2 = _ := upd_same
  generalize upd H3 D2 (.lst (insL hs (spot % (((keepIx d.rack.length a b).length : Int) + 1)) (.ref p3))) = H4 at t4 k4 e4
  have fD2 : H D2 = none := g1.free hD2
  have fD1 : H D1 = none := hD1
  -- what stood at H stands at H4
  have g4 : Same H H4 := fun y o e => k4 y o (g3 _ _ (g12 y o e)) (by simp; exact ne_of_none e fD2)
  have x4 := x.grow g4
  have hk4 : H4 D1 = _ := k4 _ _ (g3 _ _ hk2) (by simpa using nD12)
  have hh4 : HangsAt H4 (insL hs (spot % (((keepIx d.rack.length a b).length : Int) + 1)) (.ref p3)) (insL ((keepIx d.rack.length a b).map fun k => d.rack.getD k.toNat default) (spot % (((keepIx d.rack.length a b).length : Int) + 1)) (.knot ft (d.rack.getD a.toNat default) (d.rack.getD b.toNat default))) :=
    Paired.ins (hhs.mono ((TupK.of g3).trans t4)) (.knot (t4 _ _ ep3) (ea2.same g4) (eb2.same g4)) _
  -- marks
  refine ⟨_, rfl, D1, rfl, ⟨_, SqL.of hk4⟩, fun D5 hD5 => ?_⟩
  refine comp_list (xs := (keepIx d.rack.length a b).map V.int) (fun i ys H' => Same H4 H' ∧ H' D5 = some (.lst ys) ∧ ys = (((keepIx d.rack.length a b).take i).map fun k => d.marks.getD k.toNat 0).map V.int)
    ⟨same_new hD5 _, upd_same, rfl⟩ (fun i ys H' _ h => ⟨SqL.of (h.1 _ _ hk4), h.2.1⟩) ?_ ?_
  · rintro i y ys H' hi ⟨g, h1, h2⟩
    have hlen : ys.length ≤ 1000 := by
      rw [h2, List.length_map, List.length_map, List.length_take]
      omega
    refine ⟨small1000 hlen, ⟨rfl, rfl⟩, ?_⟩
    obtain ⟨z, hz, rfl⟩ : ∃ z, (keepIx d.rack.length a b)[i]? = some z ∧ y = .int z := by
      rw [List.getElem?_map] at hi
      cases e : (keepIx d.rack.length a b)[i]? with
      | none => rw [e] at hi; cases hi
      | some z => rw [e] at hi; exact ⟨z, rfl, (Option.some.inj hi).symm⟩
    obtain ⟨z0, z1, _⟩ := keepIx_mem (List.mem_of_getElem? hz)
    have x' := x4.grow g
    refine ⟨_, rfl, L, _, _, .ref M, rfl, rfl, SqL.of x'.l, rfl, _, rfl, M, _, _, _, rfl, rfl, SqL.of x'.m, atI_int z0 (by omega), h1, fun y o e => ?_, upd_same, ?_⟩
    · rw [upd_ne (ne_of_none e hD5)]; exact g y o e
    · rw [h2, List.take_add_one, hz, List.map_append, List.map_append]
      rfl
  rintro ms H5 ⟨g5, k5, ems⟩
  rw [List.length_map, List.take_of_length_le (Nat.le_refl _)] at ems
  subst ems
  have x5 := x4.grow g5
  have hk5 := g5 _ _ hk4
  -- marks.insert(..)
  refine ⟨_, rfl, .inl ⟨rfl, _, SqL.of k5⟩, _, rfl, _, rfl, D1, _, rfl, .inl (SqL.of hk5), _, _, rfl, rfl, _, _, rfl, rfl, ?_, ?_⟩
  · show (0 : Int) < (((keepIx d.rack.length a b).map V.int).length : Int) + 1
    omega
  refine ⟨_, rfl, D5, _, _, _, rfl, rfl, k5, by rw [hlk]; omega, by rw [List.length_map, List.length_map]; exact small1000 (by omega), ?_⟩
  rw [hlk]
  have k6 : Keep [D5] H5 _ := Keep.upd (List.mem_singleton.mpr rfl) (.lst (insL (((keepIx d.rack.length a b).map fun k => d.marks.getD k.toNat 0).map V.int) (spot % (((keepIx d.rack.length a b).length : Int) + 1)) (.int (d.marks.getD a.toNat 0))))
  have t6 : TupK H5 _ := TupK.set k5 (.lst (insL (((keepIx d.rack.length a b).map fun k => d.marks.getD k.toNat 0).map V.int) (spot % (((keepIx d.rack.length a b).length : Int) + 1)) (.int (d.marks.getD a.toNat 0))))
  have e6 : upd H5 D5 (.lst (insL (((keepIx d.rack.length a b).map fun k => d.marks.getD k.toNat 0).map V.int) (spot % (((keepIx d.rack.length a b).length : Int) + 1)) (.int (d.marks.getD a.toNat 0)))) D5 = _ := upd_same
  generalize upd H5 D5 (.lst (insL (((keepIx d.rack.length a b).map fun k => d.marks.getD k.toNat 0).map V.int) (spot % (((keepIx d.rack.length a b).length : Int) + 1)) (.int (d.marks.getD a.toNat 0)))) = H6 at k6 t6 e6
  have fD5 : H D5 = none := g4.free hD5
  have nD25 : D2 ≠ D5 := ne_of_none e4 hD5
  have g6 : Same H H6 := fun y o e => k6 y o (g5 _ _ (g4 y o e)) (by simp; exact ne_of_none e fD5)
  have x6 := x.grow g6
  have eh6 : H6 D2 = _ := k6 _ _ (g5 _ _ e4) (by simpa using nD25)
  -- loft[0] = hangs
  refine ⟨_, rfl, _, rfl, L, _, _, 0, rfl, rfl, x6.l, rfl, ?_⟩
  have nL2 : L ≠ D2 := ne_of_none x.l fD2
  have nL5 : L ≠ D5 := ne_of_none x.l fD5
  have e7L : upd H6 L (.lst ([V.ref R, .ref M, .ref S, .ref B0].set 0 (.ref D2))) L = some (.lst [.ref D2, .ref M, .ref S, .ref B0]) := upd_same
  have t7 : TupK H6 _ := TupK.set x6.l (.lst ([V.ref R, .ref M, .ref S, .ref B0].set 0 (.ref D2)))
  have e75 : upd H6 L (.lst ([V.ref R, .ref M, .ref S, .ref B0].set 0 (.ref D2))) D5 = _ := (upd_ne nL5.symm).trans e6
  have e72 : upd H6 L (.lst ([V.ref R, .ref M, .ref S, .ref B0].set 0 (.ref D2))) D2 = _ := (upd_ne nL2.symm).trans eh6
  have k7 : Keep [L] H6 _ := Keep.upd (List.mem_singleton.mpr rfl) (.lst ([V.ref R, .ref M, .ref S, .ref B0].set 0 (.ref D2)))
  generalize upd H6 L (.lst ([V.ref R, .ref M, .ref S, .ref B0].set 0 (.ref D2))) = H7 at e7L t7 e75 e72 k7
  -- loft[1] = [..]
  have einm : insL (((keepIx d.rack.length a b).map fun k => d.marks.getD k.toNat 0).map V.int) (spot % (((keepIx d.rack.length a b).length : Int) + 1)) (.int (d.marks.getD a.toNat 0)) =
      (insL ((keepIx d.rack.length a b).map fun k => d.marks.getD k.toNat 0) (spot % (((keepIx d.rack.length a b).length : Int) + 1)) (d.marks.getD a.toNat 0)).map V.int := by
    unfold insL
    rw [List.map_append, List.map_cons, List.map_take, List.map_drop, List.length_map]
  rw [einm] at e75
  generalize hmk : insL ((keepIx d.rack.length a b).map fun k => d.marks.getD k.toNat 0) (spot % (((keepIx d.rack.length a b).length : Int) + 1)) (d.marks.getD a.toNat 0) = mk at e75
  have zmk : mk.length ≤ 1001 := by rw [← hmk, insL_length, List.length_map]; omega
  refine ⟨_, rfl, D5, rfl, ⟨_, SqL.of e75⟩, fun D8 hD8 => ?_⟩
  refine comp_list (xs := mk.map V.int) (fun i ys H' => Same H7 H' ∧ H' D8 = some (.lst ys) ∧ ys = ((mk.take i).map fun m => if m = d.marks.getD b.toNat 0 then d.marks.getD a.toNat 0 else m).map V.int)
    ⟨same_new hD8 _, upd_same, rfl⟩ (fun i ys H' _ h => ⟨SqL.of (h.1 _ _ e75), h.2.1⟩) ?_ ?_
  · rintro i y ys H' hi ⟨g, h1, h2⟩
    have hlen : ys.length ≤ 1001 := by
      rw [h2, List.length_map, List.length_map, List.length_take]
      omega
    refine ⟨Nat.lt_of_le_of_lt hlen (by decide), ⟨rfl, rfl⟩, ?_⟩
    obtain ⟨z, hz, rfl⟩ : ∃ z, mk[i]? = some z ∧ y = .int z := by
      rw [List.getElem?_map] at hi
      cases e : mk[i]? with
      | none => rw [e] at hi; cases hi
      | some z => rw [e] at hi; exact ⟨z, rfl, (Option.some.inj hi).symm⟩
    have hg' : ∀ u : V, Same H7 (upd H' D8 (.lst (ys ++ [u]))) := fun u y o e => by rw [upd_ne (ne_of_none e hD8)]; exact g y o e
    refine ⟨_, rfl, _, rfl, rfl, _, rfl, ?_⟩
    refine ite2 (fun c => ?_) (fun c => ?_)
    · have c' : z = d.marks.getD b.toNat 0 := V.int.inj (of_decide_eq_true c)
      refine ⟨_, rfl, h1, hg' _, upd_same, ?_⟩
      rw [h2, List.take_add_one, hz, List.map_append, List.map_append]
      simp [c']
    · have c' : ¬ z = d.marks.getD b.toNat 0 := fun w => c (decide_eq_true (congrArg V.int w))
      refine ⟨_, rfl, h1, hg' _, upd_same, ?_⟩
      rw [h2, List.take_add_one, hz, List.map_append, List.map_append]
      show _ ++ [_] = _ ++ [V.int (if z = d.marks.getD b.toNat 0 then d.marks.getD a.toNat 0 else z)]
      rw [if_neg c']
  rintro ns H8 ⟨g8, k8, ens⟩
  rw [List.length_map, List.take_of_length_le (Nat.le_refl _)] at ens
  refine ⟨_, rfl, L, _, _, 1, rfl, rfl, g8 _ _ e7L, rfl, ?_⟩
  have nL8 : L ≠ D8 := ne_of_none e7L hD8
  have n28 : D2 ≠ D8 := ne_of_none e72 hD8
  have f8 : H0 D8 = none := by
    have : H6 D8 = none := by
      cases e : H6 D8 with
      | none => rfl
      | some o => exact absurd (k7 _ _ e (by simpa using nL8.symm)) (by rw [hD8]; simp)
    exact x6.same.free this
  have k8' : ∀ y o, y ≠ L → H6 y = some o → H8 y = some o := fun y o hy e => g8 _ _ (k7 y o e (by simpa using hy))
  have s8 : Same H0 H8 := fun y o e => k8' y o (ne_of_none e x.new.1) (x6.same y o e)
  have xf : LV H0 (upd H8 L (.lst ([V.ref D2, .ref M, .ref S, .ref B0].set 1 (.ref D8)))) L D2 D8 S B0 (insL hs (spot % (((keepIx d.rack.length a b).length : Int) + 1)) (.ref p3)) ns vs [.int d.s, .int d.st, .int d.c] := by
    obtain ⟨a1, a2, a3, a4, a5⟩ := x.new
    have n2S : D2 ≠ S := (ne_of_none x.s fD2).symm
    have n2B : D2 ≠ B0 := (ne_of_none x.b fD2).symm
    have h6S := x6.s
    have h6B := x6.b
    have n8S : D8 ≠ S := fun w => by rw [w, k7 _ _ h6S (by simpa using x.nd.1.2.2.1.symm)] at hD8; cases hD8
    have n8B : D8 ≠ B0 := fun w => by rw [w, k7 _ _ h6B (by simpa using x.nd.1.2.2.2.symm)] at hD8; cases hD8
    refine ⟨same_at s8 a1 _, ⟨a1, x.same.free fD2, f8, a4, a5⟩, ⟨⟨nL2, nL8, x.nd.1.2.2.1, x.nd.1.2.2.2⟩, ⟨n28, n2S, n2B⟩, ⟨n8S, n8B⟩, x.nd.2.2.2⟩, upd_same, ?_, ?_, ?_, ?_⟩
    · rw [upd_ne nL2.symm]; exact g8 _ _ e72
    · rw [upd_ne nL8.symm]; exact k8
    · rw [upd_ne x.nd.1.2.2.1.symm]; exact k8' _ _ x.nd.1.2.2.1.symm h6S
    · rw [upd_ne x.nd.1.2.2.2.symm]; exact k8' _ _ x.nd.1.2.2.2.symm h6B
  have t8 : TupK H7 H8 := TupK.of g8
  have t9 : TupK H8 _ := TupK.set (g8 _ _ e7L) (.lst ([V.ref D2, .ref M, .ref S, .ref B0].set 1 (.ref D8)))
  have t46 : TupK H4 H6 := (TupK.of g5).trans t6
  have t49 := t46.trans (t7.trans (t8.trans t9))
  have tH : TupK H _ := (TupK.of g4).trans t49
  have e9 : ns = ((d.tie a b ft spot).marks.map V.int) := by rw [ens, ← hmk]; rfl
  rw [e9] at xf
  have lf : LoftK H0 (upd H8 L (.lst ([V.ref D2, .ref M, .ref S, .ref B0].set 1 (.ref D8)))) L D2 D8 S B0 (d.tie a b ft spot) := ⟨_, vs, xf, hh4.mono t49, hSs.mono tH, hb⟩
  exact q D2 D8 _ lf tH

theorem sc_law_add_knot : FnScope ["loft", "cell", "good", "many", "a", "b", "word"] ["loft", "cell", "good"] (defScope s_law_add_knot) := ⟨rfl, rfl, rfl, by decide +kernel, rfl, by decide +kernel, by decide +kernel⟩
theorem fn_law_add_knot (D : Def K mg "_law_add_knot" s_law_add_knot) (B : Bl mg) (F_law_tie : Fn P w K mg base 1 "_law_tie" ["loft", "a", "b", "word", "spot"] spTie) : Fn P w K mg base 2 "_law_add_knot" ["loft", "cell", "good"] spAddKnot := by
  have SC := sc_law_add_knot
  refine D.fn SC (fun _ _ _ _ _ _ us hl => match us, hl with | [_, _, _], _ => rfl) (fun vs H Q E h => by obtain ⟨H0, L, R, M, S, B, d, cell, good, rfl, _⟩ := h; rfl) (fun f cdv A outer s0 H vs Q E hr h => ?_)
  obtain ⟨H0, L, R, M, S, B0, d, cell, good, rfl, lk, hz1, hz2, hpos, q⟩ := h
  obtain ⟨vr, vs, x, hRs, hSs, hb⟩ := id lk
  refine ⟨_, (pss_cons (ps_set (i := 3) SC.nd rfl (Or.inl rfl) (pe_callB call_len_seq rfl B.len PySem.boot_len (pa_cons (pe_ix ix_list (pv 0) pe_int (fun _ _ => rfl)) pa_nil)))
      (pss_cons (ps_set (i := 4) SC.nd rfl (Or.inl rfl) (pe_op op_mod (pe_op op_fdiv (pv 1) pe_int) (pv 3)))
      (pss_cons (ps_set (i := 5) SC.nd rfl (Or.inl rfl) (pe_op op_mod (pe_op op_fdiv (pv 1) pe_int) (pv 3)))
      (pss_cons (ps_if (pt_cmpR op_eq (pv 4) (pv 5) (nomark _)) (pss_one (ps_set (i := 5) SC.nd rfl (Or.inl rfl) (pe_op op_mod (pe_op op_add (pv 4) pe_int) (pv 3)))) pss_nil)
      (pss_cons (ps_set (i := 6) SC.nd rfl (Or.inl rfl) pe_str)
      (pss_cons (ps_if (PW.pt (pw_or (PW.pt (pw_and (pt_val (pv 2)) (pw_and1 (pt_cmpR op_eq (pe_ix ix_list (pe_ix ix_list (pv 0) pe_int (fun _ _ => rfl)) (pv 4) (fun _ _ => rfl)) (pe_ix ix_list (pe_ix ix_list (pv 0) pe_int (fun _ _ => rfl)) (pv 5) (fun _ _ => rfl)) (nomark _))))) (pw_or1 (PW.pt (pw_and (pt_not (pt_val (pv 2))) (pw_and1 (pt_cmpR op_gt (pe_op op_mod (pv 1) pe_int) pe_int (nomark _)))))))) (pss_one (ps_set (i := 6) SC.nd rfl (Or.inl rfl) pe_str)) pss_nil)
      (pss_one (ps_expr (pe_fn F_law_tie hr rfl (pa_cons (pv 0) (pa_cons (pv 4) (pa_cons (pv 5) (pa_cons (pv 6) (pa_cons (pe_op op_fdiv (pv 1) pe_int) pa_nil)))))))))))))), ?_⟩
  have sz1 : vr.length = d.rack.length := hRs.length
  refine ⟨_, rfl, L, _, _, .ref R, rfl, rfl, SqL.of x.l, rfl, R, vr, rfl, .inl (SqL.of x.r), ?_⟩
  rw [sz1]
  refine ⟨_, rfl, _, _, rfl, rfl, ⟨by decide, by decide⟩, _, rfl, _, _, rfl, rfl, (by show (0 : Int) < (d.rack.length : Int); omega), ?_⟩
  refine ⟨_, rfl, _, _, rfl, rfl, ⟨by decide, by decide⟩, _, rfl, _, _, rfl, rfl, (by show (0 : Int) < (d.rack.length : Int); omega), ?_⟩
  have ha : 0 ≤ cell / 7 % (d.rack.length : Int) ∧ cell / 7 % (d.rack.length : Int) < (d.rack.length : Int) := ⟨Int.emod_nonneg _ (by omega), Int.emod_lt_of_pos _ (by omega)⟩
  have hb0 : 0 ≤ cell / 448 % (d.rack.length : Int) ∧ cell / 448 % (d.rack.length : Int) < (d.rack.length : Int) := ⟨Int.emod_nonneg _ (by omega), Int.emod_lt_of_pos _ (by omega)⟩
  have e1 : (d.knotAB cell).1 = cell / 7 % (d.rack.length : Int) := rfl
  have fin : ∀ b, (0 ≤ b ∧ b < (d.rack.length : Int)) → ∀ ft, d.tie (cell / 7 % (d.rack.length : Int)) b ft (cell / 28672) = d.addKnot cell good →
      spTie [.ref L, .int (cell / 7 % (d.rack.length : Int)), .int b, .str (knotW ft), .int (cell / 28672)] H (fun _ H' => Q .non H') E0 := fun b hb ft e =>
    ⟨H0, L, R, M, S, B0, d, _, b, ft, _, rfl, lk, hz1, hz2, ha, hb, fun R' M' H' l' t' => q R' M' H' (e ▸ l') t'⟩
  refine ⟨_, rfl, _, rfl, rfl, _, rfl, ?_⟩
  refine ite2 (fun cab => ?_) (fun cab => ?_)
  · have cab' : cell / 7 % (d.rack.length : Int) = cell / 448 % (d.rack.length : Int) := V.int.inj (of_decide_eq_true cab)
    refine ⟨_, rfl, _, _, rfl, rfl, _, rfl, _, _, rfl, rfl, (by show (0 : Int) < (d.rack.length : Int); omega), ?_⟩
    have hb1 : 0 ≤ (cell / 7 % (d.rack.length : Int) + 1) % (d.rack.length : Int) ∧ (cell / 7 % (d.rack.length : Int) + 1) % (d.rack.length : Int) < (d.rack.length : Int) := ⟨Int.emod_nonneg _ (by omega), Int.emod_lt_of_pos _ (by omega)⟩
    have e2 : (d.knotAB cell).2 = (cell / 7 % (d.rack.length : Int) + 1) % (d.rack.length : Int) := if_pos cab'
    refine ⟨_, rfl, _, rfl, ?_⟩
    cases good with
    | true =>
      refine iteT ⟨_, rfl, L, _, _, .ref M, rfl, rfl, SqL.of x.l, rfl, _, rfl, M, _, _, _, rfl, rfl, SqL.of x.m, atI_int ha.1 (by omega), _, rfl, L, _, _, .ref M, rfl, rfl, SqL.of x.l, rfl, _, rfl, M, _, _, _, rfl, rfl, SqL.of x.m, atI_int hb1.1 (by omega), rfl, _, rfl, ?_⟩
      refine ite2 (fun c => ?_) (fun c => ?_)
      · have c' : d.marks.getD (cell / 7 % (d.rack.length : Int)).toNat 0 = d.marks.getD ((cell / 7 % (d.rack.length : Int) + 1) % (d.rack.length : Int)).toNat 0 := V.int.inj (of_decide_eq_true c)
        refine iteT ?_
        refine ⟨_, rfl, _, rfl, _, rfl, _, rfl, _, rfl, _, _, rfl, rfl, ⟨by decide, by decide⟩, fin _ hb1 false ?_⟩
        unfold LoftD.addKnot
        rw [e1, e2]; dsimp only; rw [decide_eq_true c']
        rfl
      · have c' : ¬ d.marks.getD (cell / 7 % (d.rack.length : Int)).toNat 0 = d.marks.getD ((cell / 7 % (d.rack.length : Int) + 1) % (d.rack.length : Int)).toNat 0 := fun z => c (decide_eq_true (congrArg V.int z))
        refine ⟨_, rfl, _, rfl, iteF (iteF ?_)⟩
        refine ⟨_, rfl, _, rfl, _, rfl, _, rfl, _, rfl, _, _, rfl, rfl, ⟨by decide, by decide⟩, fin _ hb1 true ?_⟩
        unfold LoftD.addKnot
        rw [e1, e2]; dsimp only; rw [decide_eq_false c']
        rfl
    | false =>
      refine iteF (iteF ⟨_, rfl, _, rfl, iteT ⟨_, rfl, _, _, rfl, rfl, (by show (0 : Int) < 7; decide), _, _, rfl, rfl, _, rfl, ?_⟩⟩)
      refine ite2 (fun c => ?_) (fun c => ?_)
      · have c' : (3 : Int) < cell % 7 := of_decide_eq_true c
        refine ⟨_, rfl, _, rfl, _, rfl, _, rfl, _, rfl, _, _, rfl, rfl, ⟨by decide, by decide⟩, fin _ hb1 false ?_⟩
        unfold LoftD.addKnot
        rw [e1, e2]; dsimp only; rw [decide_eq_true (show cell % 7 > 3 from c')]
        rfl
      · have c' : ¬ (3 : Int) < cell % 7 := of_decide_eq_false (Bool.eq_false_iff.mpr c)
        refine ⟨_, rfl, _, rfl, _, rfl, _, rfl, _, rfl, _, _, rfl, rfl, ⟨by decide, by decide⟩, fin _ hb1 true ?_⟩
        unfold LoftD.addKnot
        rw [e1, e2]; dsimp only; rw [decide_eq_false (show ¬ cell % 7 > 3 from c')]
        rfl
  · have cab' : ¬ cell / 7 % (d.rack.length : Int) = cell / 448 % (d.rack.length : Int) := fun z => cab (decide_eq_true (congrArg V.int z))
    have hb1 := hb0
    have e2 : (d.knotAB cell).2 = cell / 448 % (d.rack.length : Int) := if_neg cab'
    refine ⟨_, rfl, _, rfl, ?_⟩
    cases good with
    | true =>
      refine iteT ⟨_, rfl, L, _, _, .ref M, rfl, rfl, SqL.of x.l, rfl, _, rfl, M, _, _, _, rfl, rfl, SqL.of x.m, atI_int ha.1 (by omega), _, rfl, L, _, _, .ref M, rfl, rfl, SqL.of x.l, rfl, _, rfl, M, _, _, _, rfl, rfl, SqL.of x.m, atI_int hb1.1 (by omega), rfl, _, rfl, ?_⟩
      refine ite2 (fun c => ?_) (fun c => ?_)
      · have c' : d.marks.getD (cell / 7 % (d.rack.length : Int)).toNat 0 = d.marks.getD (cell / 448 % (d.rack.length : Int)).toNat 0 := V.int.inj (of_decide_eq_true c)
        refine iteT ?_
        refine ⟨_, rfl, _, rfl, _, rfl, _, rfl, _, rfl, _, _, rfl, rfl, ⟨by decide, by decide⟩, fin _ hb1 false ?_⟩
        unfold LoftD.addKnot
        rw [e1, e2]; dsimp only; rw [decide_eq_true c']
        rfl
      · have c' : ¬ d.marks.getD (cell / 7 % (d.rack.length : Int)).toNat 0 = d.marks.getD (cell / 448 % (d.rack.length : Int)).toNat 0 := fun z => c (decide_eq_true (congrArg V.int z))
        refine ⟨_, rfl, _, rfl, iteF (iteF ?_)⟩
        refine ⟨_, rfl, _, rfl, _, rfl, _, rfl, _, rfl, _, _, rfl, rfl, ⟨by decide, by decide⟩, fin _ hb1 true ?_⟩
        unfold LoftD.addKnot
        rw [e1, e2]; dsimp only; rw [decide_eq_false c']
        rfl
    | false =>
      refine iteF (iteF ⟨_, rfl, _, rfl, iteT ⟨_, rfl, _, _, rfl, rfl, (by show (0 : Int) < 7; decide), _, _, rfl, rfl, _, rfl, ?_⟩⟩)
      refine ite2 (fun c => ?_) (fun c => ?_)
      · have c' : (3 : Int) < cell % 7 := of_decide_eq_true c
        refine ⟨_, rfl, _, rfl, _, rfl, _, rfl, _, rfl, _, _, rfl, rfl, ⟨by decide, by decide⟩, fin _ hb1 false ?_⟩
        unfold LoftD.addKnot
        rw [e1, e2]; dsimp only; rw [decide_eq_true (show cell % 7 > 3 from c')]
        rfl
      · have c' : ¬ (3 : Int) < cell % 7 := of_decide_eq_false (Bool.eq_false_iff.mpr c)
        refine ⟨_, rfl, _, rfl, _, rfl, _, rfl, _, rfl, _, _, rfl, rfl, ⟨by decide, by decide⟩, fin _ hb1 true ?_⟩
        unfold LoftD.addKnot
        rw [e1, e2]; dsimp only; rw [decide_eq_false (show ¬ cell % 7 > 3 from c')]
        rfl

theorem sc_law_add_splice : FnScope ["loft", "cell", "good", "a", "hang", "far", "pair"] ["loft", "cell", "good"] (defScope s_law_add_splice) := ⟨rfl, rfl, rfl, by decide +kernel, rfl, by decide +kernel, by decide +kernel⟩
theorem fn_law_add_splice (D : Def K mg "_law_add_splice" s_law_add_splice) (B : Bl mg) (F_law_anew : ∀ n, Fn P w K mg base (n + 1) "_law_anew" ["hang", "book"] (spAnew n)) (F_law_mirror : ∀ n, Fn P w K mg base (n + 1) "_law_mirror" ["hang"] (spMap Hang.mir n)) (n : Nat) :
    Fn P w K mg base (n + 2) "_law_add_splice" ["loft", "cell", "good"] (spAddSplice n) := by
  have SC := sc_law_add_splice
  have F_law_anew := F_law_anew n
  have F_law_mirror := F_law_mirror n
  refine D.fn SC (fun _ _ _ _ _ _ us hl => match us, hl with | [_, _, _], _ => rfl) (fun vs H Q E h => by obtain ⟨H0, L, R, M, S, B, d, cell, good, rfl, _⟩ := h; rfl) (fun f cdv A outer s0 H vs Q E hr h => ?_)
  obtain ⟨H0, L, R, M, S, B0, d, cell, good, rfl, ⟨vr, vs, x, hRs, hSs, hb⟩, hz1, hz2, hz3, hpos, hdep, q⟩ := h
  refine ⟨_, (pss_cons (ps_set (i := 3) SC.nd rfl (Or.inl rfl) (pe_op op_mod (pe_op op_fdiv (pv 1) pe_int) (pe_callB call_len_seq rfl B.len PySem.boot_len (pa_cons (pe_ix ix_list (pv 0) pe_int (fun _ _ => rfl)) pa_nil))))
      (pss_cons (ps_set (i := 4) SC.nd rfl (Or.inl rfl) (pe_ix ix_list (pe_ix ix_list (pv 0) pe_int (fun _ _ => rfl)) (pv 3) (fun _ _ => rfl)))
      (pss_cons (ps_set (i := 5) SC.nd rfl (Or.inl rfl) (pe_fn F_law_anew hr rfl (pa_cons (pv 4) (pa_cons (pe_ix ix_list (pv 0) pe_int (fun _ _ => rfl)) pa_nil))))
      (pss_cons (ps_set (i := 6) SC.nd rfl (Or.inl rfl) (pe_tup (pa_cons (pv 4) (pa_cons (pe_fn F_law_mirror hr rfl (pa_cons (pv 5) pa_nil)) pa_nil))))
      (pss_cons (ps_if (pt_cmpR op_eq (pe_op op_mod (pe_op op_fdiv (pv 1) pe_int) pe_int) pe_int (nomark _)) (pss_one (ps_set (i := 6) SC.nd rfl (Or.inl rfl) (pe_tup (pa_cons (pe_ix ix_tup (pv 6) pe_int (fun _ _ => rfl)) (pa_cons (pe_ix ix_tup (pv 6) pe_int (fun _ _ => rfl)) pa_nil))))) pss_nil)
      (pss_cons (ps_expr (pe_bm PySem.F.plainAttrs_list PySem.F.slot_list_insert PySem.F.type_list_insert mt_insert (pe_ix ix_list (pv 0) pe_int (fun _ _ => rfl)) (pa_cons (pe_op op_mod (pe_op op_fdiv (pv 1) pe_int) (pe_op op_add (pe_callB call_len_seq rfl B.len PySem.boot_len (pa_cons (pe_ix ix_list (pv 0) pe_int (fun _ _ => rfl)) pa_nil)) pe_int)) (pa_cons (pv 6) pa_nil))))
      (pss_cons (ps_asg (pv 5) (pg_sub (pe_ix ix_list (pv 0) pe_int (fun _ _ => rfl)) (pv 3) set_list))
      (pss_one (ps_if (PW.pt (pw_and (pt_cmpR op_eq (pe_op op_mod (pe_op op_fdiv (pv 1) pe_int) pe_int) pe_int (nomark _)) (pw_and1 (PW.pt (pw_or (pt_cmpR op_eq (pe_ix ix_tup (pv 5) pe_int (fun _ _ => rfl)) pe_str (nomark _)) (pw_or1 (PW.pt (pw_and (pt_cmpR op_eq (pe_ix ix_tup (pv 5) pe_int (fun _ _ => rfl)) pe_str (nomark _)) (pw_and1 (pt_not (pt_val (pv 2)))))))))))) (pss_cons (ps_asg (pe_ix ix_tup (pv 5) pe_int (fun _ _ => rfl)) (pg_sub (pe_ix ix_list (pv 0) pe_int (fun _ _ => rfl)) (pv 3) set_list))
      (pss_cons (ps_expr (pe_bm PySem.F.plainAttrs_list PySem.F.slot_list_insert PySem.F.type_list_insert mt_insert (pe_ix ix_list (pv 0) pe_int (fun _ _ => rfl)) (pa_cons (pe_op op_add (pv 3) pe_int) (pa_cons (pe_ix ix_tup (pv 5) pe_int (fun _ _ => rfl)) pa_nil))))
      (pss_one (ps_expr (pe_bm PySem.F.plainAttrs_list PySem.F.slot_list_insert PySem.F.type_list_insert mt_insert (pe_ix ix_list (pv 0) pe_int (fun _ _ => rfl)) (pa_cons (pe_op op_add (pv 3) pe_int) (pa_cons (pe_ix ix_list (pe_ix ix_list (pv 0) pe_int (fun _ _ => rfl)) (pv 3) (fun _ _ => rfl)) pa_nil))))))) pss_nil))))))))), ?_⟩
  have sz1 : vr.length = d.rack.length := hRs.length
  have sz2 : vs.length = d.spl.length := hSs.length
  have ha : 0 ≤ cell / 7 % (d.rack.length : Int) ∧ cell / 7 % (d.rack.length : Int) < (d.rack.length : Int) := ⟨Int.emod_nonneg _ (by omega), Int.emod_lt_of_pos _ (by omega)⟩
  -- a, hang
  refine ⟨_, rfl, _, _, rfl, rfl, ⟨by decide, by decide⟩, _, rfl, L, _, _, .ref R, rfl, rfl, SqL.of x.l, rfl, R, vr, rfl, .inl (SqL.of x.r), _, _, rfl, rfl, (by show (0 : Int) < (vr.length : Int); omega), ?_⟩
  rw [sz1]
  obtain ⟨v, hv1, hv2⟩ := hang_at hRs ha.1 ha.2
  refine ⟨_, rfl, L, _, _, .ref R, rfl, rfl, SqL.of x.l, rfl, _, rfl, R, _, _, v, rfl, rfl, SqL.of x.r, hv1, ?_⟩
  generalize hang0 : d.rack.getD (cell / 7 % (d.rack.length : Int)).toNat default = hang at hv2
  have hd : hang.depth < n := by rw [← hang0]; exact getD_ok hdep (by omega)
  -- far
  refine ⟨_, rfl, _, rfl, L, _, _, .ref B0, rfl, rfl, SqL.of x.l, rfl, v, hang, B0, d.s, d.st, d.c, rfl, hv2, hd, ⟨x.b, hb⟩, fun rv H1 k1 b1 ef => ?_⟩
  have x1 := x.book k1 b1.1
  have t1 : TupK H H1 := BookAt.keep1 k1 ⟨x.b, hb⟩
  have hfd : (anew d.s d.st hang d.c).1.depth < n := by rw [anew_depth]; exact hd
  have hc1 : 0 ≤ (anew d.s d.st hang d.c).2 := b1.2.2.2.2
  generalize hfar0 : anew d.s d.st hang d.c = farc at b1 ef x1 hfd hc1
  obtain ⟨far, c1⟩ := farc
  have hc1 : 0 ≤ c1 := hc1
  -- pair
  refine ⟨_, rfl, _, rfl, rv, far, rfl, ef, hfd, fun mv H2 g2 em => ⟨(by show 2 ≤ sizeLine; decide), fun p2 hp2 => ?_⟩⟩
  have x2 := x1.grow g2
  have g3 : Same H2 _ := same_new hp2 (.tup [v, mv])
  have e3 : upd H2 p2 (.tup [v, mv]) p2 = _ := upd_same
  generalize upd H2 p2 (.tup [v, mv]) = H2' at g3 e3
  have x2' := x2.grow g3
  have tf2 : TupK H1 H2' := TupK.of (g2.trans g3)
  have t02 := t1.trans tf2
  refine ⟨_, rfl, _, _, rfl, rfl, ⟨by decide, by decide⟩, _, _, rfl, rfl, (by show (0 : Int) < 2; decide), rfl, _, rfl, ?_⟩
  refine ite2 (fun c3 => ?_) (fun c3 => ?_)
  · have c3' : cell / 448 % 2 = 1 := V.int.inj (of_decide_eq_true c3)
    refine ⟨_, rfl, p2, _, _, _, rfl, rfl, SqT.of e3, rfl, _, rfl, p2, _, _, _, rfl, rfl, SqT.of e3, rfl, (by show 2 ≤ sizeLine; decide), fun pp hp3 => ?_⟩
    have g4 : Same H2' _ := same_new hp3 (.tup [mv, v])
    have e4 : upd H2' pp (.tup [mv, v]) pp = _ := upd_same
    generalize upd H2' pp (.tup [mv, v]) = H3 at g4 e4
    have x3 := x2'.grow g4
    have tf3 : TupK H1 H3 := tf2.trans (TupK.of g4)
    have t03 : TupK H H3 := t02.trans (TupK.of g4)
    have hpp : PairAt H3 (.ref pp) (if cell / 448 % 2 = 1 then (far.mir, hang) else (hang, far.mir)) := by rw [if_pos c3']; exact .mk e4 (em.same (g3.trans g4)) (hv2.mono t03)
    generalize hPP : (if cell / 448 % 2 = 1 then (far.mir, hang) else (hang, far.mir)) = PP at hpp
    -- loft[2].insert(..)
    refine ⟨_, rfl, L, _, _, .ref S, rfl, rfl, SqL.of x3.l, rfl, .inl ⟨rfl, _, SqL.of x3.s⟩, _, rfl, _, _, rfl, rfl, ⟨by decide, by decide⟩, _, rfl, L, _, _, .ref S, rfl, rfl, SqL.of x3.l, rfl, S, vs, rfl, .inl (SqL.of x3.s), _, _, rfl, rfl, _, _, rfl, rfl, (by show (0 : Int) < (vs.length : Int) + 1; omega), ?_⟩
    rw [sz2]
    have ip : 0 ≤ cell / 1792 % ((d.spl.length : Int) + 1) ∧ cell / 1792 % ((d.spl.length : Int) + 1) < (d.spl.length : Int) + 1 := ⟨Int.emod_nonneg _ (by omega), Int.emod_lt_of_pos _ (by omega)⟩
    refine ⟨_, rfl, S, vs, _, _, rfl, rfl, x3.s, by omega, by rw [sz2]; exact small1000 (by omega), ?_⟩
    have x4 := x3.setS (insL vs (cell / 1792 % ((d.spl.length : Int) + 1)) (.ref pp))
    have t4 : TupK H3 _ := TupK.set x3.s (.lst (insL vs (cell / 1792 % ((d.spl.length : Int) + 1)) (.ref pp)))
    generalize upd H3 S (.lst (insL vs (cell / 1792 % ((d.spl.length : Int) + 1)) (.ref pp))) = H4 at x4 t4
    -- loft[0][a] = far
    have hixa : ixN vr.length (cell / 7 % (d.rack.length : Int)) = some (cell / 7 % (d.rack.length : Int)).toNat := by
      unfold ixN
      rw [if_pos ha.1, if_pos (by omega)]
    have hixb : ixN (vr.set (cell / 7 % (d.rack.length : Int)).toNat rv).length (cell / 7 % (d.rack.length : Int)) = some (cell / 7 % (d.rack.length : Int)).toNat := by
      rw [List.length_set]
      exact hixa
    refine ⟨_, rfl, _, rfl, L, _, _, .ref R, rfl, rfl, SqL.of x4.l, rfl, _, rfl, R, vr, _, _, rfl, rfl, x4.r, hixa, ?_⟩
    have x5 := x4.setR (vr.set (cell / 7 % (d.rack.length : Int)).toNat rv)
    have t5 : TupK H4 _ := TupK.set x4.r (.lst (vr.set (cell / 7 % (d.rack.length : Int)).toNat rv))
    generalize upd H4 R (.lst (vr.set (cell / 7 % (d.rack.length : Int)).toNat rv)) = H5 at x5 t5
    have t35 := t4.trans t5
    have t05 := t03.trans t35
    have ef5 := (ef.mono tf3).mono t35
    -- without the parts
    have finA : ∀ good', (d.addSplice cell good' = { d with rack := d.rack.set (cell / 7 % (d.rack.length : Int)).toNat far, spl := insL d.spl (cell / 1792 % ((d.spl.length : Int) + 1)) PP, c := c1 }) →
        LoftK H0 H5 L R M S B0 (d.addSplice cell good') := by
      intro good' e
      exact e ▸ ⟨_, _, x5, Paired.set' ef5 _ (hRs.mono t05), Paired.ins (hSs.mono t05) (hpp.mono t35) _, hb.1, hb.2.1, hb.2.2.1, hc1⟩
    refine ⟨_, rfl, _, _, rfl, rfl, ⟨by decide, by decide⟩, _, _, rfl, rfl, (by show (0 : Int) < 2; decide), rfl, _, rfl, ?_⟩
    refine ite2 (fun c6 => ?_) (fun c6 => ?_)
    · have c6' : cell / 896 % 2 = 1 := V.int.inj (of_decide_eq_true c6)
      cases ef5 with
      | @tip fa fb fd fk fe =>
        -- a tip: neither word
        have w1 : decide (V.str (tipW fb) = V.str "loose") = false := by cases fb <;> decide +kernel
        have w2 : decide (V.str (tipW fb) = V.str "fast") = false := by cases fb <;> decide +kernel
        refine ⟨_, rfl, fa, _, _, _, rfl, rfl, SqT.of fe, rfl, rfl, _, rfl, ?_⟩
        rw [w1]
        refine iteF ⟨_, rfl, fa, _, _, _, rfl, rfl, SqT.of fe, rfl, rfl, _, rfl, ?_⟩
        rw [w2]
        refine iteF (iteF (q H5 (finA good ?_) t05))
        unfold LoftD.addSplice
        simp only [hang0, hfar0, hPP]
      | @knot fa ff fvl fvr fl fr fe hfl hfr =>
        cases ff with
        | false =>
          refine ⟨_, rfl, fa, _, _, _, rfl, rfl, SqT.of fe, rfl, rfl, _, rfl, ?_⟩
          rw [show decide (V.str (knotW false) = V.str "loose") = true by decide +kernel]
          refine iteT (iteT ?_)
          refine ⟨_, rfl, fa, _, _, _, rfl, rfl, SqT.of fe, rfl, _, rfl, L, _, _, .ref R, rfl, rfl, SqL.of x5.l, rfl, _, rfl, R, _, _, _, rfl, rfl, x5.r, hixb, ?_⟩
          have x6 := x5.setR ((vr.set (cell / 7 % (d.rack.length : Int)).toNat (.ref fa)).set (cell / 7 % (d.rack.length : Int)).toNat fvl)
          have t6 : TupK H5 _ := TupK.set x5.r (.lst ((vr.set (cell / 7 % (d.rack.length : Int)).toNat (.ref fa)).set (cell / 7 % (d.rack.length : Int)).toNat fvl))
          generalize upd H5 R (.lst ((vr.set (cell / 7 % (d.rack.length : Int)).toNat (.ref fa)).set (cell / 7 % (d.rack.length : Int)).toNat fvl)) = H6 at x6 t6
          rw [List.set_set] at x6
          refine ⟨_, rfl, L, _, _, .ref R, rfl, rfl, SqL.of x6.l, rfl, .inl ⟨rfl, _, SqL.of x6.r⟩, _, rfl, _, _, rfl, rfl, _, rfl, fa, _, _, _, rfl, rfl, SqT.of (t6 _ _ fe), rfl, R, _, _, _, rfl, rfl, x6.r, by omega, by rw [List.length_set, sz1]; exact small1000 (by omega), ?_⟩
          have x7 := x6.setR (insL (vr.set (cell / 7 % (d.rack.length : Int)).toNat fvl) (cell / 7 % (d.rack.length : Int) + 1) fvr)
          have t7 : TupK H6 _ := TupK.set x6.r (.lst (insL (vr.set (cell / 7 % (d.rack.length : Int)).toNat fvl) (cell / 7 % (d.rack.length : Int) + 1) fvr))
          generalize upd H6 R (.lst (insL (vr.set (cell / 7 % (d.rack.length : Int)).toNat fvl) (cell / 7 % (d.rack.length : Int) + 1) fvr)) = H7 at x7 t7
          refine ⟨_, rfl, L, _, _, .ref M, rfl, rfl, SqL.of x7.l, rfl, .inl ⟨rfl, _, SqL.of x7.m⟩, _, rfl, _, _, rfl, rfl, _, rfl, L, _, _, .ref M, rfl, rfl, SqL.of x7.l, rfl, _, rfl, M, _, _, _, rfl, rfl, SqL.of x7.m, atI_int ha.1 (by omega), M, _, _, _, rfl, rfl, x7.m, by omega, by rw [List.length_map]; exact small1000 (by omega), ?_⟩
          have em : insL (d.marks.map V.int) (cell / 7 % (d.rack.length : Int) + 1) (.int (d.marks.getD (cell / 7 % (d.rack.length : Int)).toNat 0)) = (insL d.marks (cell / 7 % (d.rack.length : Int) + 1) (d.marks.getD (cell / 7 % (d.rack.length : Int)).toNat 0)).map V.int := by
            unfold insL
            rw [List.map_append, List.map_cons, List.map_take, List.map_drop, List.length_map]
          have x8 := x7.setM (insL (d.marks.map V.int) (cell / 7 % (d.rack.length : Int) + 1) (.int (d.marks.getD (cell / 7 % (d.rack.length : Int)).toNat 0)))
          have t8 : TupK H7 _ := TupK.set x7.m (.lst (insL (d.marks.map V.int) (cell / 7 % (d.rack.length : Int) + 1) (.int (d.marks.getD (cell / 7 % (d.rack.length : Int)).toNat 0))))
          generalize upd H7 M (.lst (insL (d.marks.map V.int) (cell / 7 % (d.rack.length : Int) + 1) (.int (d.marks.getD (cell / 7 % (d.rack.length : Int)).toNat 0)))) = H8 at x8 t8
          rw [em] at x8
          have t58 := t6.trans (t7.trans t8)
          have t08 := t05.trans t58
          have e8 : d.addSplice cell good = { d with rack := insL (d.rack.set (cell / 7 % (d.rack.length : Int)).toNat fl) (cell / 7 % (d.rack.length : Int) + 1) fr, marks := insL d.marks (cell / 7 % (d.rack.length : Int) + 1) (d.marks.getD (cell / 7 % (d.rack.length : Int)).toNat 0), spl := insL d.spl (cell / 1792 % ((d.spl.length : Int) + 1)) PP, c := c1 } := by
            unfold LoftD.addSplice
            simp only [hang0, hfar0, hPP]
            rw [if_pos ⟨c6', .inl trivial⟩]
          exact q H8 (e8 ▸ ⟨_, _, x8, Paired.ins (Paired.set' (hfl.mono t58) _ (hRs.mono t08)) (hfr.mono t58) _, Paired.ins (hSs.mono t08) ((hpp.mono t35).mono t58) _, hb.1, hb.2.1, hb.2.2.1, hc1⟩) t08
        | true =>
          refine ⟨_, rfl, fa, _, _, _, rfl, rfl, SqT.of fe, rfl, rfl, _, rfl, ?_⟩
          rw [show decide (V.str (knotW true) = V.str "loose") = false by decide +kernel]
          refine iteF ⟨_, rfl, fa, _, _, _, rfl, rfl, SqT.of fe, rfl, rfl, _, rfl, ?_⟩
          rw [show decide (V.str (knotW true) = V.str "fast") = true by decide +kernel]
          refine iteT ⟨_, rfl, _, rfl, ?_⟩
          cases good with
          | false =>
            refine iteT ?_
            refine ⟨_, rfl, fa, _, _, _, rfl, rfl, SqT.of fe, rfl, _, rfl, L, _, _, .ref R, rfl, rfl, SqL.of x5.l, rfl, _, rfl, R, _, _, _, rfl, rfl, x5.r, hixb, ?_⟩
            have x6 := x5.setR ((vr.set (cell / 7 % (d.rack.length : Int)).toNat (.ref fa)).set (cell / 7 % (d.rack.length : Int)).toNat fvl)
            have t6 : TupK H5 _ := TupK.set x5.r (.lst ((vr.set (cell / 7 % (d.rack.length : Int)).toNat (.ref fa)).set (cell / 7 % (d.rack.length : Int)).toNat fvl))
            generalize upd H5 R (.lst ((vr.set (cell / 7 % (d.rack.length : Int)).toNat (.ref fa)).set (cell / 7 % (d.rack.length : Int)).toNat fvl)) = H6 at x6 t6
            rw [List.set_set] at x6
            refine ⟨_, rfl, L, _, _, .ref R, rfl, rfl, SqL.of x6.l, rfl, .inl ⟨rfl, _, SqL.of x6.r⟩, _, rfl, _, _, rfl, rfl, _, rfl, fa, _, _, _, rfl, rfl, SqT.of (t6 _ _ fe), rfl, R, _, _, _, rfl, rfl, x6.r, by omega, by rw [List.length_set, sz1]; exact small1000 (by omega), ?_⟩
            have x7 := x6.setR (insL (vr.set (cell / 7 % (d.rack.length : Int)).toNat fvl) (cell / 7 % (d.rack.length : Int) + 1) fvr)
            have t7 : TupK H6 _ := TupK.set x6.r (.lst (insL (vr.set (cell / 7 % (d.rack.length : Int)).toNat fvl) (cell / 7 % (d.rack.length : Int) + 1) fvr))
            generalize upd H6 R (.lst (insL (vr.set (cell / 7 % (d.rack.length : Int)).toNat fvl) (cell / 7 % (d.rack.length : Int) + 1) fvr)) = H7 at x7 t7
            refine ⟨_, rfl, L, _, _, .ref M, rfl, rfl, SqL.of x7.l, rfl, .inl ⟨rfl, _, SqL.of x7.m⟩, _, rfl, _, _, rfl, rfl, _, rfl, L, _, _, .ref M, rfl, rfl, SqL.of x7.l, rfl, _, rfl, M, _, _, _, rfl, rfl, SqL.of x7.m, atI_int ha.1 (by omega), M, _, _, _, rfl, rfl, x7.m, by omega, by rw [List.length_map]; exact small1000 (by omega), ?_⟩
            have em : insL (d.marks.map V.int) (cell / 7 % (d.rack.length : Int) + 1) (.int (d.marks.getD (cell / 7 % (d.rack.length : Int)).toNat 0)) = (insL d.marks (cell / 7 % (d.rack.length : Int) + 1) (d.marks.getD (cell / 7 % (d.rack.length : Int)).toNat 0)).map V.int := by
              unfold insL
              rw [List.map_append, List.map_cons, List.map_take, List.map_drop, List.length_map]
            have x8 := x7.setM (insL (d.marks.map V.int) (cell / 7 % (d.rack.length : Int) + 1) (.int (d.marks.getD (cell / 7 % (d.rack.length : Int)).toNat 0)))
            have t8 : TupK H7 _ := TupK.set x7.m (.lst (insL (d.marks.map V.int) (cell / 7 % (d.rack.length : Int) + 1) (.int (d.marks.getD (cell / 7 % (d.rack.length : Int)).toNat 0))))
            generalize upd H7 M (.lst (insL (d.marks.map V.int) (cell / 7 % (d.rack.length : Int) + 1) (.int (d.marks.getD (cell / 7 % (d.rack.length : Int)).toNat 0)))) = H8 at x8 t8
            rw [em] at x8
            have t58 := t6.trans (t7.trans t8)
            have t08 := t05.trans t58
            have e8 : d.addSplice cell false = { d with rack := insL (d.rack.set (cell / 7 % (d.rack.length : Int)).toNat fl) (cell / 7 % (d.rack.length : Int) + 1) fr, marks := insL d.marks (cell / 7 % (d.rack.length : Int) + 1) (d.marks.getD (cell / 7 % (d.rack.length : Int)).toNat 0), spl := insL d.spl (cell / 1792 % ((d.spl.length : Int) + 1)) PP, c := c1 } := by
              unfold LoftD.addSplice
              simp only [hang0, hfar0, hPP]
              rw [if_pos ⟨c6', .inr trivial⟩]
            exact q H8 (e8 ▸ ⟨_, _, x8, Paired.ins (Paired.set' (hfl.mono t58) _ (hRs.mono t08)) (hfr.mono t58) _, Paired.ins (hSs.mono t08) ((hpp.mono t35).mono t58) _, hb.1, hb.2.1, hb.2.2.1, hc1⟩) t08
          | true =>
            refine iteF (q H5 (finA true ?_) t05)
            unfold LoftD.addSplice
            simp only [hang0, hfar0, hPP]
            rw [if_neg (by simp)]
    · have c6' : ¬ cell / 896 % 2 = 1 := fun z => c6 (decide_eq_true (congrArg V.int z))
      refine iteF (q H5 (finA good ?_) t05)
      unfold LoftD.addSplice
      simp only [hang0, hfar0, hPP]
      cases far with
      | tip => rfl
      | knot ff fl fr => simp only; rw [if_neg (fun z => c6' z.1)]
  · have c3' : ¬ cell / 448 % 2 = 1 := fun z => c3 (decide_eq_true (congrArg V.int z))
    have hpp : PairAt H2' (.ref p2) (if cell / 448 % 2 = 1 then (far.mir, hang) else (hang, far.mir)) := by rw [if_neg c3']; exact .mk e3 (hv2.mono t02) (em.same g3)
    generalize hPP : (if cell / 448 % 2 = 1 then (far.mir, hang) else (hang, far.mir)) = PP at hpp
    have x3 := x2'
    have tf3 := tf2
    have t03 := t02
    -- loft[2].insert(..)
    refine ⟨_, rfl, L, _, _, .ref S, rfl, rfl, SqL.of x3.l, rfl, .inl ⟨rfl, _, SqL.of x3.s⟩, _, rfl, _, _, rfl, rfl, ⟨by decide, by decide⟩, _, rfl, L, _, _, .ref S, rfl, rfl, SqL.of x3.l, rfl, S, vs, rfl, .inl (SqL.of x3.s), _, _, rfl, rfl, _, _, rfl, rfl, (by show (0 : Int) < (vs.length : Int) + 1; omega), ?_⟩
    rw [sz2]
    have ip : 0 ≤ cell / 1792 % ((d.spl.length : Int) + 1) ∧ cell / 1792 % ((d.spl.length : Int) + 1) < (d.spl.length : Int) + 1 := ⟨Int.emod_nonneg _ (by omega), Int.emod_lt_of_pos _ (by omega)⟩
    refine ⟨_, rfl, S, vs, _, _, rfl, rfl, x3.s, by omega, by rw [sz2]; exact small1000 (by omega), ?_⟩
    have x4 := x3.setS (insL vs (cell / 1792 % ((d.spl.length : Int) + 1)) (.ref p2))
    have t4 : TupK H2' _ := TupK.set x3.s (.lst (insL vs (cell / 1792 % ((d.spl.length : Int) + 1)) (.ref p2)))
    generalize upd H2' S (.lst (insL vs (cell / 1792 % ((d.spl.length : Int) + 1)) (.ref p2))) = H4 at x4 t4
    -- loft[0][a] = far
    have hixa : ixN vr.length (cell / 7 % (d.rack.length : Int)) = some (cell / 7 % (d.rack.length : Int)).toNat := by
      unfold ixN
      rw [if_pos ha.1, if_pos (by omega)]
    have hixb : ixN (vr.set (cell / 7 % (d.rack.length : Int)).toNat rv).length (cell / 7 % (d.rack.length : Int)) = some (cell / 7 % (d.rack.length : Int)).toNat := by
      rw [List.length_set]
      exact hixa
    refine ⟨_, rfl, _, rfl, L, _, _, .ref R, rfl, rfl, SqL.of x4.l, rfl, _, rfl, R, vr, _, _, rfl, rfl, x4.r, hixa, ?_⟩
    have x5 := x4.setR (vr.set (cell / 7 % (d.rack.length : Int)).toNat rv)
    have t5 : TupK H4 _ := TupK.set x4.r (.lst (vr.set (cell / 7 % (d.rack.length : Int)).toNat rv))
    generalize upd H4 R (.lst (vr.set (cell / 7 % (d.rack.length : Int)).toNat rv)) = H5 at x5 t5
    have t35 := t4.trans t5
    have t05 := t03.trans t35
    have ef5 := (ef.mono tf3).mono t35
    -- without the parts
    have finA : ∀ good', (d.addSplice cell good' = { d with rack := d.rack.set (cell / 7 % (d.rack.length : Int)).toNat far, spl := insL d.spl (cell / 1792 % ((d.spl.length : Int) + 1)) PP, c := c1 }) →
        LoftK H0 H5 L R M S B0 (d.addSplice cell good') := by
      intro good' e
      exact e ▸ ⟨_, _, x5, Paired.set' ef5 _ (hRs.mono t05), Paired.ins (hSs.mono t05) (hpp.mono t35) _, hb.1, hb.2.1, hb.2.2.1, hc1⟩
    refine ⟨_, rfl, _, _, rfl, rfl, ⟨by decide, by decide⟩, _, _, rfl, rfl, (by show (0 : Int) < 2; decide), rfl, _, rfl, ?_⟩
    refine ite2 (fun c6 => ?_) (fun c6 => ?_)
    · have c6' : cell / 896 % 2 = 1 := V.int.inj (of_decide_eq_true c6)
      cases ef5 with
      | @tip fa fb fd fk fe =>
        -- a tip: neither word
        have w1 : decide (V.str (tipW fb) = V.str "loose") = false := by cases fb <;> decide +kernel
        have w2 : decide (V.str (tipW fb) = V.str "fast") = false := by cases fb <;> decide +kernel
        refine ⟨_, rfl, fa, _, _, _, rfl, rfl, SqT.of fe, rfl, rfl, _, rfl, ?_⟩
        rw [w1]
        refine iteF ⟨_, rfl, fa, _, _, _, rfl, rfl, SqT.of fe, rfl, rfl, _, rfl, ?_⟩
        rw [w2]
        refine iteF (iteF (q H5 (finA good ?_) t05))
        unfold LoftD.addSplice
        simp only [hang0, hfar0, hPP]
      | @knot fa ff fvl fvr fl fr fe hfl hfr =>
        cases ff with
        | false =>
          refine ⟨_, rfl, fa, _, _, _, rfl, rfl, SqT.of fe, rfl, rfl, _, rfl, ?_⟩
          rw [show decide (V.str (knotW false) = V.str "loose") = true by decide +kernel]
          refine iteT (iteT ?_)
          refine ⟨_, rfl, fa, _, _, _, rfl, rfl, SqT.of fe, rfl, _, rfl, L, _, _, .ref R, rfl, rfl, SqL.of x5.l, rfl, _, rfl, R, _, _, _, rfl, rfl, x5.r, hixb, ?_⟩
          have x6 := x5.setR ((vr.set (cell / 7 % (d.rack.length : Int)).toNat (.ref fa)).set (cell / 7 % (d.rack.length : Int)).toNat fvl)
          have t6 : TupK H5 _ := TupK.set x5.r (.lst ((vr.set (cell / 7 % (d.rack.length : Int)).toNat (.ref fa)).set (cell / 7 % (d.rack.length : Int)).toNat fvl))
          generalize upd H5 R (.lst ((vr.set (cell / 7 % (d.rack.length : Int)).toNat (.ref fa)).set (cell / 7 % (d.rack.length : Int)).toNat fvl)) = H6 at x6 t6
          rw [List.set_set] at x6
          refine ⟨_, rfl, L, _, _, .ref R, rfl, rfl, SqL.of x6.l, rfl, .inl ⟨rfl, _, SqL.of x6.r⟩, _, rfl, _, _, rfl, rfl, _, rfl, fa, _, _, _, rfl, rfl, SqT.of (t6 _ _ fe), rfl, R, _, _, _, rfl, rfl, x6.r, by omega, by rw [List.length_set, sz1]; exact small1000 (by omega), ?_⟩
          have x7 := x6.setR (insL (vr.set (cell / 7 % (d.rack.length : Int)).toNat fvl) (cell / 7 % (d.rack.length : Int) + 1) fvr)
          have t7 : TupK H6 _ := TupK.set x6.r (.lst (insL (vr.set (cell / 7 % (d.rack.length : Int)).toNat fvl) (cell / 7 % (d.rack.length : Int) + 1) fvr))
          generalize upd H6 R (.lst (insL (vr.set (cell / 7 % (d.rack.length : Int)).toNat fvl) (cell / 7 % (d.rack.length : Int) + 1) fvr)) = H7 at x7 t7
          refine ⟨_, rfl, L, _, _, .ref M, rfl, rfl, SqL.of x7.l, rfl, .inl ⟨rfl, _, SqL.of x7.m⟩, _, rfl, _, _, rfl, rfl, _, rfl, L, _, _, .ref M, rfl, rfl, SqL.of x7.l, rfl, _, rfl, M, _, _, _, rfl, rfl, SqL.of x7.m, atI_int ha.1 (by omega), M, _, _, _, rfl, rfl, x7.m, by omega, by rw [List.length_map]; exact small1000 (by omega), ?_⟩
          have em : insL (d.marks.map V.int) (cell / 7 % (d.rack.length : Int) + 1) (.int (d.marks.getD (cell / 7 % (d.rack.length : Int)).toNat 0)) = (insL d.marks (cell / 7 % (d.rack.length : Int) + 1) (d.marks.getD (cell / 7 % (d.rack.length : Int)).toNat 0)).map V.int := by
            unfold insL
            rw [List.map_append, List.map_cons, List.map_take, List.map_drop, List.length_map]
          have x8 := x7.setM (insL (d.marks.map V.int) (cell / 7 % (d.rack.length : Int) + 1) (.int (d.marks.getD (cell / 7 % (d.rack.length : Int)).toNat 0)))
          have t8 : TupK H7 _ := TupK.set x7.m (.lst (insL (d.marks.map V.int) (cell / 7 % (d.rack.length : Int) + 1) (.int (d.marks.getD (cell / 7 % (d.rack.length : Int)).toNat 0))))
          generalize upd H7 M (.lst (insL (d.marks.map V.int) (cell / 7 % (d.rack.length : Int) + 1) (.int (d.marks.getD (cell / 7 % (d.rack.length : Int)).toNat 0)))) = H8 at x8 t8
          rw [em] at x8
          have t58 := t6.trans (t7.trans t8)
          have t08 := t05.trans t58
          have e8 : d.addSplice cell good = { d with rack := insL (d.rack.set (cell / 7 % (d.rack.length : Int)).toNat fl) (cell / 7 % (d.rack.length : Int) + 1) fr, marks := insL d.marks (cell / 7 % (d.rack.length : Int) + 1) (d.marks.getD (cell / 7 % (d.rack.length : Int)).toNat 0), spl := insL d.spl (cell / 1792 % ((d.spl.length : Int) + 1)) PP, c := c1 } := by
            unfold LoftD.addSplice
            simp only [hang0, hfar0, hPP]
            rw [if_pos ⟨c6', .inl trivial⟩]
          exact q H8 (e8 ▸ ⟨_, _, x8, Paired.ins (Paired.set' (hfl.mono t58) _ (hRs.mono t08)) (hfr.mono t58) _, Paired.ins (hSs.mono t08) ((hpp.mono t35).mono t58) _, hb.1, hb.2.1, hb.2.2.1, hc1⟩) t08
        | true =>
          refine ⟨_, rfl, fa, _, _, _, rfl, rfl, SqT.of fe, rfl, rfl, _, rfl, ?_⟩
          rw [show decide (V.str (knotW true) = V.str "loose") = false by decide +kernel]
          refine iteF ⟨_, rfl, fa, _, _, _, rfl, rfl, SqT.of fe, rfl, rfl, _, rfl, ?_⟩
          rw [show decide (V.str (knotW true) = V.str "fast") = true by decide +kernel]
          refine iteT ⟨_, rfl, _, rfl, ?_⟩
          cases good with
          | false =>
            refine iteT ?_
            refine ⟨_, rfl, fa, _, _, _, rfl, rfl, SqT.of fe, rfl, _, rfl, L, _, _, .ref R, rfl, rfl, SqL.of x5.l, rfl, _, rfl, R, _, _, _, rfl, rfl, x5.r, hixb, ?_⟩
            have x6 := x5.setR ((vr.set (cell / 7 % (d.rack.length : Int)).toNat (.ref fa)).set (cell / 7 % (d.rack.length : Int)).toNat fvl)
            have t6 : TupK H5 _ := TupK.set x5.r (.lst ((vr.set (cell / 7 % (d.rack.length : Int)).toNat (.ref fa)).set (cell / 7 % (d.rack.length : Int)).toNat fvl))
            generalize upd H5 R (.lst ((vr.set (cell / 7 % (d.rack.length : Int)).toNat (.ref fa)).set (cell / 7 % (d.rack.length : Int)).toNat fvl)) = H6 at x6 t6
            rw [List.set_set] at x6
            refine ⟨_, rfl, L, _, _, .ref R, rfl, rfl, SqL.of x6.l, rfl, .inl ⟨rfl, _, SqL.of x6.r⟩, _, rfl, _, _, rfl, rfl, _, rfl, fa, _, _, _, rfl, rfl, SqT.of (t6 _ _ fe), rfl, R, _, _, _, rfl, rfl, x6.r, by omega, by rw [List.length_set, sz1]; exact small1000 (by omega), ?_⟩
            have x7 := x6.setR (insL (vr.set (cell / 7 % (d.rack.length : Int)).toNat fvl) (cell / 7 % (d.rack.length : Int) + 1) fvr)
            have t7 : TupK H6 _ := TupK.set x6.r (.lst (insL (vr.set (cell / 7 % (d.rack.length : Int)).toNat fvl) (cell / 7 % (d.rack.length : Int) + 1) fvr))
            generalize upd H6 R (.lst (insL (vr.set (cell / 7 % (d.rack.length : Int)).toNat fvl) (cell / 7 % (d.rack.length : Int) + 1) fvr)) = H7 at x7 t7
            refine ⟨_, rfl, L, _, _, .ref M, rfl, rfl, SqL.of x7.l, rfl, .inl ⟨rfl, _, SqL.of x7.m⟩, _, rfl, _, _, rfl, rfl, _, rfl, L, _, _, .ref M, rfl, rfl, SqL.of x7.l, rfl, _, rfl, M, _, _, _, rfl, rfl, SqL.of x7.m, atI_int ha.1 (by omega), M, _, _, _, rfl, rfl, x7.m, by omega, by rw [List.length_map]; exact small1000 (by omega), ?_⟩
            have em : insL (d.marks.map V.int) (cell / 7 % (d.rack.length : Int) + 1) (.int (d.marks.getD (cell / 7 % (d.rack.length : Int)).toNat 0)) = (insL d.marks (cell / 7 % (d.rack.length : Int) + 1) (d.marks.getD (cell / 7 % (d.rack.length : Int)).toNat 0)).map V.int := by
              unfold insL
              rw [List.map_append, List.map_cons, List.map_take, List.map_drop, List.length_map]
            have x8 := x7.setM (insL (d.marks.map V.int) (cell / 7 % (d.rack.length : Int) + 1) (.int (d.marks.getD (cell / 7 % (d.rack.length : Int)).toNat 0)))
            have t8 : TupK H7 _ := TupK.set x7.m (.lst (insL (d.marks.map V.int) (cell / 7 % (d.rack.length : Int) + 1) (.int (d.marks.getD (cell / 7 % (d.rack.length : Int)).toNat 0))))
            generalize upd H7 M (.lst (insL (d.marks.map V.int) (cell / 7 % (d.rack.length : Int) + 1) (.int (d.marks.getD (cell / 7 % (d.rack.length : Int)).toNat 0)))) = H8 at x8 t8
            rw [em] at x8
            have t58 := t6.trans (t7.trans t8)
            have t08 := t05.trans t58
            have e8 : d.addSplice cell false = { d with rack := insL (d.rack.set (cell / 7 % (d.rack.length : Int)).toNat fl) (cell / 7 % (d.rack.length : Int) + 1) fr, marks := insL d.marks (cell / 7 % (d.rack.length : Int) + 1) (d.marks.getD (cell / 7 % (d.rack.length : Int)).toNat 0), spl := insL d.spl (cell / 1792 % ((d.spl.length : Int) + 1)) PP, c := c1 } := by
              unfold LoftD.addSplice
              simp only [hang0, hfar0, hPP]
              rw [if_pos ⟨c6', .inr trivial⟩]
            exact q H8 (e8 ▸ ⟨_, _, x8, Paired.ins (Paired.set' (hfl.mono t58) _ (hRs.mono t08)) (hfr.mono t58) _, Paired.ins (hSs.mono t08) ((hpp.mono t35).mono t58) _, hb.1, hb.2.1, hb.2.2.1, hc1⟩) t08
          | true =>
            refine iteF (q H5 (finA true ?_) t05)
            unfold LoftD.addSplice
            simp only [hang0, hfar0, hPP]
            rw [if_neg (by simp)]
    · have c6' : ¬ cell / 896 % 2 = 1 := fun z => c6 (decide_eq_true (congrArg V.int z))
      refine iteF (q H5 (finA good ?_) t05)
      unfold LoftD.addSplice
      simp only [hang0, hfar0, hPP]
      cases far with
      | tip => rfl
      | knot ff fl fr => simp only; rw [if_neg (fun z => c6' z.1)]

theorem sc_law_loft : FnScope ["script", "first", "most", "good", "loft", "cell"] ["script", "first", "most", "good"] (defScope s_law_loft) := ⟨rfl, rfl, rfl, by decide +kernel, rfl, by decide +kernel, by decide +kernel⟩
theorem loft0_small (c : Int) : (loft0 c).Small 0 := ⟨rfl, Nat.le_refl _, Nat.le_refl _, fun h hm => (List.not_mem_nil hm).elim, fun p hm => (List.not_mem_nil hm).elim⟩
theorem fn_law_loftF (D : Def K mg "_law_loft" s_law_loft) (B : Bl mg) (F_law_cell : Fn P w K mg base 2 "_law_cell" ["script", "k"] (spCell K)) (F_law_cells : Fn P w K mg base 2 "_law_cells" ["script", "first", "behind"] (spCells K)) (F_law_book : Fn P w K mg base 1 "_law_book" ["cell"] spBook)
    (F_law_add_cord : Fn P w K mg base 2 "_law_add_cord" ["loft", "cell"] spAddCord) (F_law_add_knot : Fn P w K mg base 2 "_law_add_knot" ["loft", "cell", "good"] spAddKnot) (F_law_add_splice : ∀ n, Fn P w K mg base (n + 2) "_law_add_splice" ["loft", "cell", "good"] (spAddSplice n))
    (F_law_tips : ∀ n, Fn P w K mg base (n + 1) "_law_tips" ["hang"] (spTips n)) : Fn P w K mg base 31 "_law_loft" ["script", "first", "most", "good"] (spLoftF K) := by
  have SC := sc_law_loft
  have F_law_add_splice := F_law_add_splice 25
  have F_law_tips := F_law_tips 25
  refine D.fn SC (fun _ _ _ _ _ _ us hl => match us, hl with | [_, _, _, _], _ => rfl) (fun vs H Q E h => by obtain ⟨a, ns, first, most, rfl, _⟩ := h; rfl) (fun f cdv A outer s0 H vs Q E hr h => ?_)
  obtain ⟨a, ns, first, most, rfl, hS, hlen, hf, hm, q⟩ := h
  refine ⟨_, (pss_cons (ps_set (i := 4) SC.nd rfl (Or.inl rfl) (pe_lst (pa_cons (pe_lst pa_nil) (pa_cons (pe_lst pa_nil) (pa_cons (pe_lst pa_nil) (pa_cons (pe_fn F_law_book hr rfl (pa_cons (pe_fn F_law_cell hr rfl (pa_cons (pv 0) (pa_cons (pv 1) pa_nil))) pa_nil)) pa_nil))))))
      (pss_cons (ps_for PassesOwn.never rfl (pi_list (pe_fn F_law_cells hr rfl (pa_cons (pv 0) (pa_cons (pe_op op_add (pv 1) pe_int) (pa_cons (pe_op op_add (pe_op op_add (pv 1) pe_int) (pv 2)) pa_nil))))) (pg_name (i := 5) SC.nd rfl (Or.inl rfl))
      (pss_one (ps_if (PW.pt (pw_or (pt_cmpR op_lt (pe_op op_mod (pv 5) pe_int) pe_int (nomark _)) (pw_or1 (pt_cmpR op_lt (pe_callB call_len_seq rfl B.len PySem.boot_len (pa_cons (pe_ix ix_list (pv 4) pe_int (fun _ _ => rfl)) pa_nil)) pe_int (nomark _))))) (pss_one (ps_expr (pe_fn F_law_add_cord hr rfl (pa_cons (pv 4) (pa_cons (pv 5) pa_nil))))) (pss_one (ps_if (PW.pt (pw_and (pt_cmpR op_eq (pe_op op_mod (pv 5) pe_int) pe_int (nomark _)) (pw_and1 (pt_cmpR op_lt (pe_callB call_len_seq rfl B.len PySem.boot_len (pa_cons (pe_fn F_law_tips hr rfl (pa_cons (pe_ix ix_list (pe_ix ix_list (pv 4) pe_int (fun _ _ => rfl)) (pe_op op_mod (pe_op op_fdiv (pv 5) pe_int) (pe_callB call_len_seq rfl B.len PySem.boot_len (pa_cons (pe_ix ix_list (pv 4) pe_int (fun _ _ => rfl)) pa_nil))) (fun _ _ => rfl)) pa_nil)) pa_nil)) pe_int (nomark _))))) (pss_one (ps_expr (pe_fn F_law_add_splice hr rfl (pa_cons (pv 4) (pa_cons (pv 5) (pa_cons (pv 3) pa_nil)))))) (pss_one (ps_expr (pe_fn F_law_add_knot hr rfl (pa_cons (pv 4) (pa_cons (pv 5) (pa_cons (pv 3) pa_nil)))))))))))
      (pss_cons (ps_if (pt_val (pv 3)) (pss_one ps_never) pss_nil)
      (pss_one (ps_ret (pv 4)))))), ?_⟩
  -- loft = [[], [], [], book]
  refine ⟨(by show 0 ≤ sizeLine; decide), fun R hR => ⟨(by show 0 ≤ sizeLine; decide), fun M hM => ⟨(by show 0 ≤ sizeLine; decide), fun S hS' => ?_⟩⟩⟩
  have g1 := (same_new hR (.lst [])).trans ((same_new hM (.lst [])).trans (same_new hS' (.lst [])))
  have eR := ((same_new hM (.lst [])).trans (same_new hS' (.lst []))) R _ upd_same
  have eM := (same_new hS' (.lst [])) M _ upd_same
  have eS : upd (upd (upd H R (.lst [])) M (.lst [])) S (.lst []) S = _ := upd_same
  have nRM : R ≠ M := ne_of_none upd_same hM
  have nRS : R ≠ S := ne_of_none ((same_new hM (.lst [])) R _ upd_same) hS'
  have nMS : M ≠ S := ne_of_none upd_same hS'
  have fM : H M = none := (same_new hR (.lst [])).free hM
  have fS : H S = none := ((same_new hR (.lst [])).trans (same_new hM (.lst []))).free hS'
  generalize upd (upd (upd H R (.lst [])) M (.lst [])) S (.lst []) = H1 at g1 eR eM eS
  refine ⟨_, rfl, _, rfl, a, ns, first, rfl, g1.seq hS, hf, fun H2 g2 => ⟨_, rfl, fun B0 H3 g3 nB eB => ?_⟩⟩
  refine ⟨(by show 4 ≤ sizeLine; decide), fun L hL => ?_⟩
  have g4 : Same H3 _ := same_new hL (.lst [.ref R, .ref M, .ref S, .ref B0])
  have eL : upd H3 L (.lst [.ref R, .ref M, .ref S, .ref B0]) L = _ := upd_same
  generalize upd H3 L (.lst [.ref R, .ref M, .ref S, .ref B0]) = H4 at g4 eL
  have g14 : Same H1 H4 := g2.trans (g3.trans g4)
  have gH4 : Same H H4 := g1.trans g14
  have nB1 : H1 B0 = none := g2.free nB
  have nL1 : H1 L = none := g2.free (g3.free hL)
  have lk0 : LoftK H H4 L R M S B0 (loft0 (cellAt ns first)) := by
    refine ⟨[], [], ⟨gH4, ⟨g1.free nL1, hR, fM, fS, g1.free nB1⟩, ⟨⟨(ne_of_none eR nL1).symm, (ne_of_none eM nL1).symm, (ne_of_none eS nL1).symm, (ne_of_none eB hL).symm⟩, ⟨nRM, nRS, ne_of_none eR nB1⟩, ⟨nMS, ne_of_none eM nB1⟩, ne_of_none eS nB1⟩, eL, g14 _ _ eR, g14 _ _ eM, g14 _ _ eS, g4 _ _ eB⟩, .nil, .nil, bookS_nonneg _, (bookT_pos _).1, (bookT_pos _).2, Int.le_refl 0⟩
  -- for cell in _law_cells(script, first + 1, first + 1 + most)
  refine ⟨_, rfl, _, rfl, _, _, rfl, rfl, _, rfl, _, _, rfl, rfl, _, rfl, _, _, rfl, rfl, a, ns, first + 1, first + 1 + most, rfl, gH4.seq hS, by omega, fun C H5 g5 nC eC => ?_⟩
  refine ⟨C, rfl, ⟨_, SqL.of eC⟩, ?_⟩
  have hcl : ((cellsAt ns (first + 1) (first + 1 + most)).length : Int) ≤ 20 := by
    unfold cellsAt
    rw [List.length_map]
    have := cut_most ns (a := first + 1) (b := first + 1 + most) (by omega) (by omega)
    omega
  generalize hcs : cellsAt ns (first + 1) (first + 1 + most) = cs at eC hcl
  -- what stood ahead, and the list of cells
  have nCH : H C = none := gH4.free nC
  have s0 : Same H (upd H C (.lst (cs.map V.int))) := same_new nCH _
  obtain ⟨vr0, vs0, x0, r0⟩ := lk0
  have nCx : ∀ {y : Addr} {o : HO}, H4 y = some o → y ≠ C := fun e => ne_of_none e nC
  have lk1 : LoftK (upd H C (.lst (cs.map V.int))) H5 L R M S B0 (loft0 (cellAt ns first)) := by
    refine ⟨vr0, vs0, ⟨fun y o e => ?_, ⟨by rw [upd_ne (nCx x0.l)]; exact x0.new.1, by rw [upd_ne (nCx x0.r)]; exact x0.new.2.1, by rw [upd_ne (nCx x0.m)]; exact x0.new.2.2.1, by rw [upd_ne (nCx x0.s)]; exact x0.new.2.2.2.1, by rw [upd_ne (nCx x0.b)]; exact x0.new.2.2.2.2⟩, x0.nd, g5 _ _ x0.l, g5 _ _ x0.r, g5 _ _ x0.m, g5 _ _ x0.s, g5 _ _ x0.b⟩, r0.1.mono (.of g5), r0.2.1.mono (.of g5), r0.2.2⟩
    by_cases hy : y = C
    · subst hy
      rw [upd_same] at e
      cases e
      exact eC
    · rw [upd_ne hy] at e
      exact g5 _ _ (gH4 _ _ e)
  refine for_list (K := K) (a := C) (xs := cs.map V.int)
    (fun i σ H' => i ≤ 20 ∧ (∃ R' M', LoftK (upd H C (.lst (cs.map V.int))) H' L R' M' S B0 ((cs.take i).foldl (LoftD.step false) (loft0 (cellAt ns first)))) ∧ ((cs.take i).foldl (LoftD.step false) (loft0 (cellAt ns first))).Small i ∧
      ∃ v, σ = [some (.ref a), some (.int first), some (.int most), some (.bl false), some (.ref L), v])
    ⟨Nat.zero_le _, ⟨R, M, lk1⟩, loft0_small _, none, rfl⟩ (fun i σ H' _ h => by
      obtain ⟨_, ⟨R', M', vr', vs', x', _⟩, _⟩ := h
      exact SqL.of (x'.same _ _ upd_same)) ?_ ?_
  · rintro i y σ H' hi ⟨hi20, ⟨R', M', lk⟩, sm, v, rfl⟩
    obtain ⟨z, hz, rfl⟩ : ∃ z, cs[i]? = some z ∧ y = .int z := by
      rw [List.getElem?_map] at hi
      cases e : cs[i]? with
      | none => rw [e] at hi; cases hi
      | some z => rw [e] at hi; exact ⟨z, rfl, (Option.some.inj hi).symm⟩
    have hi19 : i + 1 ≤ 20 := by
      have := (List.getElem?_eq_some_iff.mp hz).1
      omega
    have est : (cs.take (i + 1)).foldl (LoftD.step false) (loft0 (cellAt ns first)) = LoftD.step false ((cs.take i).foldl (LoftD.step false) (loft0 (cellAt ns first))) z := by
      rw [List.take_add_one, hz, List.foldl_append]
      rfl
    rw [est]
    generalize (cs.take i).foldl (LoftD.step false) (loft0 (cellAt ns first)) = d at lk sm
    have sm' := sm.step false z
    obtain ⟨vr', vs', x', hr1, hr2, hr3⟩ := id lk
    have sz1 : vr'.length = d.rack.length := hr1.length
    have hrack := sm.rack
    refine ⟨_, rfl, _, _, rfl, rfl, (by show (0 : Int) < 7; decide), _, _, rfl, rfl, _, rfl, ?_⟩
    have cord : (z % 7 < 2 ∨ d.rack.length < 2) → ∀ H2, LoftK (upd H C (.lst (cs.map V.int))) H2 L R' M' S B0 (d.addCord z) → (∃ R' M', LoftK (upd H C (.lst (cs.map V.int))) H2 L R' M' S B0 (LoftD.step false d z)) := fun h H2 l => by
      refine ⟨R', M', ?_⟩
      unfold LoftD.step
      rw [if_pos h]
      exact l
    refine ite2 (fun c1 => ?_) (fun c1 => ?_)
    · have c1' : z % 7 < 2 := of_decide_eq_true c1
      refine iteT ⟨_, rfl, _, rfl, _, L, R', M', S, B0, d, z, rfl, lk, by omega, by rw [sm.len]; omega, fun H2 l2 t2 => ?_⟩
      exact ⟨hi19, cord (.inl c1') H2 l2, sm', _, rfl⟩
    · have c1' : ¬ z % 7 < 2 := of_decide_eq_false (Bool.eq_false_iff.mpr c1)
      refine ⟨_, rfl, L, _, _, .ref R', rfl, rfl, SqL.of x'.l, rfl, R', vr', rfl, .inl (SqL.of x'.r), _, _, rfl, rfl, _, rfl, ?_⟩
      refine ite2 (fun c2 => ?_) (fun c2 => ?_)
      · have c2' : (vr'.length : Int) < 2 := of_decide_eq_true c2
        refine ⟨_, rfl, _, rfl, _, L, R', M', S, B0, d, z, rfl, lk, by omega, by rw [sm.len]; omega, fun H2 l2 t2 => ?_⟩
        exact ⟨hi19, cord (.inr (by omega)) H2 l2, sm', _, rfl⟩
      · have c2' : ¬ (vr'.length : Int) < 2 := of_decide_eq_false (Bool.eq_false_iff.mpr c2)
        have hno : ¬ (z % 7 < 2 ∨ d.rack.length < 2) := by omega
        have knot : ¬ (z % 7 = 6 ∧ (d.rack.getD (z / 7 % (d.rack.length : Int)).toNat default).size < 5) → ∀ R2 M2 H2, LoftK (upd H C (.lst (cs.map V.int))) H2 L R2 M2 S B0 (d.addKnot z false) → (∃ R' M', LoftK (upd H C (.lst (cs.map V.int))) H2 L R' M' S B0 (LoftD.step false d z)) := fun h R2 M2 H2 l => by
          refine ⟨R2, M2, ?_⟩
          unfold LoftD.step
          rw [if_neg hno, if_neg h]
          exact l
        have hdep : ∀ h ∈ d.rack, h.depth < 25 := fun h hm => by have := (sm.each h hm).2; omega
        refine ⟨_, rfl, _, _, rfl, rfl, (by show (0 : Int) < 7; decide), rfl, _, rfl, ?_⟩
        refine ite2 (fun c3 => ?_) (fun c3 => ?_)
        · have c3' : z % 7 = 6 := V.int.inj (of_decide_eq_true c3)
          have ha : 0 ≤ z / 7 % (d.rack.length : Int) ∧ z / 7 % (d.rack.length : Int) < (d.rack.length : Int) := ⟨Int.emod_nonneg _ (by omega), Int.emod_lt_of_pos _ (by omega)⟩
          obtain ⟨hv, hv1, hv2⟩ := hang_at hr1 ha.1 ha.2
          have hok := getD_ok' sm.each (z / 7 % (d.rack.length : Int)).toNat
          have hsz : (d.rack.getD (z / 7 % (d.rack.length : Int)).toNat default).size ≤ 4194304 := Nat.le_trans (Hang.size_le _) (Nat.le_trans (Nat.pow_le_pow_right (by decide) (show _ ≤ 20 by have := hok.2; omega)) (by decide))
          refine ⟨_, rfl, L, _, _, .ref R', rfl, rfl, SqL.of x'.l, rfl, _, rfl, _, _, rfl, rfl, ⟨by decide, by decide⟩, _, rfl, L, _, _, .ref R', rfl, rfl, SqL.of x'.l, rfl, R', vr', rfl, .inl (SqL.of x'.r), _, _, rfl, rfl, (by show (0 : Int) < (vr'.length : Int); omega), R', _, _, hv, rfl, rfl, SqL.of x'.r, by rw [sz1]; exact hv1, hv, _, rfl, hv2, by have := hok.2; omega, hsz, fun r us H2 g2 n2 e2 t2 => ?_⟩
          refine ⟨r, us, rfl, .inl (SqL.of e2), _, _, rfl, rfl, _, rfl, ?_⟩
          have hus : us.length = (d.rack.getD (z / 7 % (d.rack.length : Int)).toNat default).size := by rw [t2.length, Hang.tips_length]
          have lk2 := lk.grow g2
          refine ite2 (fun c4 => ?_) (fun c4 => ?_)
          · have c4' : (us.length : Int) < 5 := of_decide_eq_true c4
            refine ⟨_, rfl, _, rfl, _, rfl, _, L, R', M', S, B0, d, z, false, rfl, lk2, by omega, sm.len, by have := sm.spl; omega, by omega, hdep, fun H3 l3 t3 => ?_⟩
            refine ⟨hi19, ⟨R', M', ?_⟩, sm', _, rfl⟩
            unfold LoftD.step
            rw [if_neg hno, if_pos ⟨c3', by omega⟩]
            exact l3
          · have c4' : ¬ (us.length : Int) < 5 := of_decide_eq_false (Bool.eq_false_iff.mpr c4)
            refine ⟨_, rfl, _, rfl, _, rfl, _, L, R', M', S, B0, d, z, false, rfl, lk2, by omega, sm.len, by omega, fun R2 M2 H3 l3 t3 => ?_⟩
            exact ⟨hi19, knot (fun w => by omega) R2 M2 H3 l3, sm', _, rfl⟩
        · have c3' : ¬ z % 7 = 6 := fun w => c3 (decide_eq_true (congrArg V.int w))
          refine iteF ⟨_, rfl, _, rfl, _, rfl, _, L, R', M', S, B0, d, z, false, rfl, lk, by omega, sm.len, by omega, fun R2 M2 H3 l3 t3 => ?_⟩
          exact ⟨hi19, knot (fun w => c3' w.1) R2 M2 H3 l3, sm', _, rfl⟩
  · rintro σ H' ⟨_, ⟨R', M', lk⟩, sm, v, rfl⟩
    rw [List.length_map, List.take_of_length_le (Nat.le_refl _)] at lk
    refine ⟨_, rfl, _, rfl, iteF ⟨_, rfl, q L R' M' S B0 H' ?_⟩⟩
    unfold loftOf
    rw [hcs]
    exact lk.weak s0

theorem sc_law_whole : FnScope ["found"] ["found"] (defScope s_law_whole) := ⟨rfl, rfl, rfl, by decide +kernel, rfl, by decide +kernel, by decide +kernel⟩
theorem fn_law_whole (D : Def K mg "_law_whole" s_law_whole) (B : Bl mg) : Fn P w K mg base 1 "_law_whole" ["found"] spWhole := by
  have SC := sc_law_whole
  refine D.fn SC (fun _ _ _ _ _ _ us hl => match us, hl with | [_], _ => rfl) (fun vs H Q E h => by obtain ⟨i, rfl, _⟩ := h; rfl) (fun f cdv A outer s H vs Q E hr h => ?_)
  obtain ⟨i, rfl, q⟩ := h
  refine ⟨_, (pss_one (ps_ret (pe_and (pe_callB call_isiT rfl B.isinstance PyProof.Rows.boot_isinstance (pa_cons (pv 0) (pa_cons (pe_bltn (v := .ty "int") rfl B.int PyProof.Rows.boot_int rfl) pa_nil))) (pe_one (pe_not (pe_callB call_isiT rfl B.isinstance PyProof.Rows.boot_isinstance (pa_cons (pv 0) (pa_cons (pe_bltn (v := .ty "bool") rfl B.bool PyProof.Rows.boot_bool rfl) pa_nil)))))))), ?_⟩
  refine ⟨_, rfl, .int i, "int", _, true, rfl, .int i, rfl, _, rfl, iteT ?_⟩
  refine ⟨_, rfl, .int i, "bool", _, false, rfl, .int i, ?_, _, rfl, ?_⟩
  · with_unfolding_all rfl
  · exact q H (Same.refl H)

theorem sc_law_hang : FnScope ["found"] ["found"] (defScope s_law_hang) := ⟨rfl, rfl, rfl, by decide +kernel, rfl, by decide +kernel, by decide +kernel⟩
theorem fn_law_hang (D : Def K mg "_law_hang" s_law_hang) (B : Bl mg) (F_law_whole : Fn P w K mg base 1 "_law_whole" ["found"] spWhole) : ∀ n, Fn P w K mg base (n + 1) "_law_hang" ["found"] (spIsHang n)
  | 0 => D.no (fun _ _ _ _ _ _ us hl => match us, hl with | [_], _ => rfl) fun vs H Q E h => by obtain ⟨v, h, _, _, h1, _⟩ := h; omega
  | n + 1 => by
    have F_law_hang := fn_law_hang D B F_law_whole n
    have SC := sc_law_hang
    refine D.fn SC (fun _ _ _ _ _ _ us hl => match us, hl with | [_], _ => rfl) (fun vs H Q E h => by obtain ⟨v, h, rfl, _⟩ := h; rfl) (fun f cdv A outer s H vs Q E hr h => ?_)
    obtain ⟨v, h, rfl, hh, hn, q⟩ := h
    refine ⟨_, (pss_cons (ps_if (PW.pt (pw_or (pt_not (pt_val (pe_callB call_isiT rfl B.isinstance PyProof.Rows.boot_isinstance (pa_cons (pv 0) (pa_cons (pe_bltn (v := .ty "tuple") rfl B.tuple PyProof.Rows.boot_tuple rfl) pa_nil))))) (pw_or (pt_cmpR op_ne (pe_callB call_len_seq rfl B.len PySem.boot_len (pa_cons (pv 0) pa_nil)) pe_int (nomark _)) (pw_or1 (pt_not (pt_val (pe_callB call_isiT rfl B.isinstance PyProof.Rows.boot_isinstance (pa_cons (pe_ix ix_tup (pv 0) pe_int (fun _ _ => rfl)) (pa_cons (pe_bltn (v := .ty "str") rfl B.str PyProof.Rows.boot_str rfl) pa_nil))))))))) (pss_one (ps_ret pe_bl)) pss_nil)
      (pss_cons (ps_if (PW.pt (pw_or (pt_cmpR op_eq (pe_ix ix_tup (pv 0) pe_int (fun _ _ => rfl)) pe_str (nomark _)) (pw_or1 (pt_cmpR op_eq (pe_ix ix_tup (pv 0) pe_int (fun _ _ => rfl)) pe_str (nomark _))))) (pss_one (ps_ret (pe_and (pe_fn F_law_hang hr rfl (pa_cons (pe_ix ix_tup (pv 0) pe_int (fun _ _ => rfl)) pa_nil)) (pe_one (pe_fn F_law_hang hr rfl (pa_cons (pe_ix ix_tup (pv 0) pe_int (fun _ _ => rfl)) pa_nil)))))) pss_nil)
      (pss_one (ps_ret (pe_and (pe_callB call_isiT rfl B.isinstance PyProof.Rows.boot_isinstance (pa_cons (pe_ix ix_tup (pv 0) pe_int (fun _ _ => rfl)) (pa_cons (pe_bltn (v := .ty "str") rfl B.str PyProof.Rows.boot_str rfl) pa_nil))) (pe_one (pe_fn F_law_whole hr rfl (pa_cons (pe_ix ix_tup (pv 0) pe_int (fun _ _ => rfl)) pa_nil)))))))), ?_⟩
    obtain ⟨a0, y0, z0, e0, t0⟩ := hh.tup
    subst e0
    refine ⟨_, rfl, .ref a0, "tuple", _, true, rfl, .tup t0, rfl, _, rfl, iteF ?_⟩
    refine ⟨_, rfl, a0, _, rfl, .inr (SqT.of t0), rfl, _, rfl, iteF ?_⟩
    refine ⟨_, rfl, a0, _, _, _, rfl, rfl, SqT.of t0, rfl, .str _, "str", _, true, rfl, .str _, rfl, _, rfl, iteF ?_⟩
    refine ⟨_, rfl, a0, _, _, _, rfl, rfl, SqT.of t0, rfl, rfl, _, rfl, ?_⟩
    cases hh with
    | @tip a b d k e =>
      have w1 : decide (V.str (Hang.tip b d k).word = V.str "fast") = false := by show decide (V.str (tipW b) = V.str "fast") = false; cases b <;> decide +kernel
      have w2 : decide (V.str (Hang.tip b d k).word = V.str "loose") = false := by show decide (V.str (tipW b) = V.str "loose") = false; cases b <;> decide +kernel
      rw [w1]
      refine iteF ⟨_, rfl, a0, _, _, _, rfl, rfl, SqT.of t0, rfl, rfl, _, rfl, ?_⟩
      rw [w2]
      refine iteF ⟨_, rfl, a0, _, _, _, rfl, rfl, SqT.of e, rfl, .str _, "str", _, true, rfl, .str _, rfl, _, rfl, iteT ?_⟩
      exact ⟨_, rfl, a0, _, _, _, rfl, rfl, SqT.of e, rfl, k, rfl, fun H' g => q H' g⟩
    | @knot a f vl vr l r e hl hr' =>
      have hd : max l.depth r.depth + 1 < n + 1 := hn
      have two : tAndV (tCall (spIsHang n) [] E0 (tCons (tOp (rIxT K) (tVar 0) (tC (.int 1))) tNil)) (tCall (spIsHang n) [] E0 (tCons (tOp (rIxT K) (tVar 0) (tC (.int 2))) tNil)) [some (.ref a0)] H Q := by
        refine ⟨_, rfl, a0, _, _, _, rfl, rfl, SqT.of e, rfl, vl, l, rfl, hl, by omega, fun H2 g2 => ⟨_, rfl, iteT ?_⟩⟩
        exact ⟨_, rfl, a0, _, _, _, rfl, rfl, SqT.of (g2 _ _ e), rfl, vr, r, rfl, hr'.same g2, by omega, fun H3 g3 => q H3 (g2.trans g3)⟩
      cases f with
      | true =>
        refine iteT (iteT ?_)
        exact two
      | false =>
        have w1 : decide (V.str (Hang.knot false l r).word = V.str "fast") = false := by show decide (V.str (knotW false) = V.str "fast") = false; decide +kernel
        rw [w1]
        refine iteF ⟨_, rfl, a0, _, _, _, rfl, rfl, SqT.of t0, rfl, rfl, _, rfl, ?_⟩
        refine iteT ?_
        exact two

theorem sc_law_words : FnScope ["hang"] ["hang"] (defScope s_law_words) := ⟨rfl, rfl, rfl, by decide +kernel, rfl, by decide +kernel, by decide +kernel⟩
theorem words_length : ∀ h : Hang, h.words.length < h.size
  | .tip .. => Nat.one_pos
  | .knot f l r => by
    have := words_length l
    have := words_length r
    show (knotW f :: l.words ++ r.words).length < l.size + r.size
    rw [List.length_append, List.length_cons]
    omega
theorem fn_law_words (D : Def K mg "_law_words" s_law_words) (F_law_is_tip : Fn P w K mg base 1 "_law_is_tip" ["hang"] spIsTip) : ∀ n, Fn P w K mg base (n + 1) "_law_words" ["hang"] (spWords n)
  | 0 => D.no (fun _ _ _ _ _ _ us hl => match us, hl with | [_], _ => rfl) fun vs H Q E h => by obtain ⟨v, h, _, _, h1, _⟩ := h; omega
  | n + 1 => by
    have F_law_words := fn_law_words D F_law_is_tip n
    have SC := sc_law_words
    refine D.fn SC (fun _ _ _ _ _ _ us hl => match us, hl with | [_], _ => rfl) (fun vs H Q E h => by obtain ⟨v, h, rfl, _⟩ := h; rfl) (fun f cdv A outer s H vs Q E hr h => ?_)
    obtain ⟨v, h, rfl, hh, hn, hz, q⟩ := h
    refine ⟨_, (pss_cons (ps_if (pt_val (pe_fn F_law_is_tip hr rfl (pa_cons (pv 0) pa_nil))) (pss_one (ps_ret (pe_lst pa_nil))) pss_nil)
      (pss_one (ps_ret (pe_op op_cat (pe_op op_cat (pe_lst (pa_cons (pe_ix ix_tup (pv 0) pe_int (fun _ _ => rfl)) pa_nil)) (pe_fn F_law_words hr rfl (pa_cons (pe_ix ix_tup (pv 0) pe_int (fun _ _ => rfl)) pa_nil))) (pe_fn F_law_words hr rfl (pa_cons (pe_ix ix_tup (pv 0) pe_int (fun _ _ => rfl)) pa_nil)))))), ?_⟩
    have hh0 := hh
    cases hh with
    | @tip a b d k e =>
      refine ⟨_, rfl, _, _, rfl, hh0, fun H1 g1 => ⟨_, rfl, iteT ⟨Nat.zero_le _, fun p hp => ?_⟩⟩⟩
      exact q _ _ (by wtm_at "same") (g1.free hp) upd_same
    | @knot a f vl vr l r e hl hr' =>
      have hd : max l.depth r.depth + 1 < n + 1 := hn
      have hs : l.size + r.size ≤ 4194304 := hz
      have w1 := words_length l
      have w2 := words_length r
      have hk : (4194304 : Nat) ≤ sizeLine := by decide
      refine ⟨_, rfl, _, _, rfl, hh0, fun H1 g1 => ⟨_, rfl, iteF ?_⟩⟩
      wtm_at "steps"
      rename_i p1 hp1 r1 H2 g2 n2 e2
      refine ⟨_, _, _, _, rfl, rfl, (by wtm_at "heap"), (by wtm_at "heap"), (by rw [List.length_map]; show 1 + _ ≤ _; omega), fun p3 hp3 => ?_⟩
      wtm_at "steps"
      rename_i r4 H4 g4 n4 e4
      refine ⟨_, _, _, _, rfl, rfl, (by wtm_at "heap"), (by wtm_at "heap"), (by rw [List.length_append, List.length_map, List.length_map]; show 1 + _ + _ ≤ _; omega), fun p5 hp5 => ?_⟩
      refine q _ _ (by wtm_at "same") (g1.free ((same_new hp1 _).free (g2.free ((same_new hp3 _).free (g4.free hp5))))) ?_
      rw [upd_same]
      simp [Hang.words]

theorem sc_law_renamed : FnScope ["hang", "names"] ["hang", "names"] (defScope s_law_renamed) := ⟨rfl, rfl, rfl, by decide +kernel, rfl, by decide +kernel, by decide +kernel⟩
theorem fn_law_renamed (D : Def K mg "_law_renamed" s_law_renamed) (F_law_is_tip : Fn P w K mg base 1 "_law_is_tip" ["hang"] spIsTip) : ∀ n, Fn P w K mg base (n + 1) "_law_renamed" ["hang", "names"] (spRenamed n)
  | 0 => D.no (fun _ _ _ _ _ _ us hl => match us, hl with | [_, _], _ => rfl) fun vs H Q E h => by obtain ⟨v, h, d, kvs, _, _, h1, _⟩ := h; omega
  | n + 1 => by
    have F_law_renamed := fn_law_renamed D F_law_is_tip n
    have SC := sc_law_renamed
    refine D.fn SC (fun _ _ _ _ _ _ us hl => match us, hl with | [_, _], _ => rfl) (fun vs H Q E h => by obtain ⟨v, h, d, kvs, rfl, _⟩ := h; rfl) (fun f cdv A outer s H vs Q E hr h => ?_)
    obtain ⟨v, h, dd, kvs, rfl, hh, hn, hD, hi, q⟩ := h
    refine ⟨_, (pss_cons (ps_if (pt_not (pt_val (pe_fn F_law_is_tip hr rfl (pa_cons (pv 0) pa_nil)))) (pss_one (ps_ret (pe_tup (pa_cons (pe_ix ix_tup (pv 0) pe_int (fun _ _ => rfl)) (pa_cons (pe_fn F_law_renamed hr rfl (pa_cons (pe_ix ix_tup (pv 0) pe_int (fun _ _ => rfl)) (pa_cons (pv 1) pa_nil))) (pa_cons (pe_fn F_law_renamed hr rfl (pa_cons (pe_ix ix_tup (pv 0) pe_int (fun _ _ => rfl)) (pa_cons (pv 1) pa_nil))) pa_nil)))))) pss_nil)
      (pss_cons (ps_if (pt_cmp (pc_din (hu_of hr) (pe_ix ix_tup (pv 0) pe_int (fun _ _ => rfl)) (pv 1))) (pss_one (ps_ret (pe_tup (pa_cons (pe_ix ix_tup (pv 0) pe_int (fun _ _ => rfl)) (pa_cons (pe_ix ix_tup (pv 0) pe_int (fun _ _ => rfl)) (pa_cons (pe_dget (hu_of hr) (pv 1) (pe_ix ix_tup (pv 0) pe_int (fun _ _ => rfl)) (fun _ _ => rfl)) pa_nil)))))) pss_nil)
      (pss_one (ps_ret (pv 0))))), ?_⟩
    have hh0 := hh
    cases hh with
    | @tip a b d k e =>
      refine ⟨_, rfl, _, _, rfl, hh0, fun H1 g1 => ⟨_, rfl, iteF ?_⟩⟩
      have hD1 := g1 _ _ hD
      wtm_at "steps"
      refine ⟨dd, _, rfl, DGet.k (k := Sum.inl k) hD1, _, rfl, ?_⟩
      have ex : ∀ i, valV kvs (Sum.inl k) = some (.int i) → intAt kvs k = i := fun i e => by unfold intAt; rw [e]
      have ex0 : valV kvs (Sum.inl k) = none → intAt kvs k = k := fun e => by unfold intAt; rw [e]
      cases c : valV kvs (Sum.inl k) with
      | none =>
        refine iteF ⟨_, rfl, ?_⟩
        refine q _ _ (by wtm_at "same") ?_
        show HangAt H1 _ (.tip b d (intAt kvs k))
        rw [ex0 c]
        exact hh0.same g1
      | some v =>
        obtain ⟨i, rfl⟩ := hi.get c
        refine iteT ?_
        wtm_at "steps"
        refine ⟨dd, _, rfl, c ▸ DGet.k (k := Sum.inl k) hD1, ?_⟩
        wtm_at "steps"
        refine q _ _ (by wtm_at "same") ?_
        show HangAt _ _ (.tip b d (intAt kvs k))
        rw [ex i c]
        wtm_at "hang"
    | @knot a f vl vr l r e hl hr' =>
      have hd : max l.depth r.depth + 1 < n + 1 := hn
      wtm_at "steps"
      exact q _ _ (by wtm_at "same") (by wtm_at "hang")

theorem sc_law : FnScope ["script", "loft", "hang", "due", "found", "words", "many", "names", "at", "tip", "kept", "answer"] ["script"] (defScope s_law) := ⟨rfl, rfl, rfl, by decide +kernel, rfl, by decide +kernel, by decide +kernel⟩
def spLaw (K : PySem.W.Frag) : Sp := fun vs H Q _ => ∃ (a : Addr) (ns : List Int), vs = [.ref a] ∧ SqL K H a (ns.map V.int) ∧ ns.length ≤ 63 ∧ ∀ H', Q (.bl true) H'
theorem ok_law {f0 : Addr} {fd0 : FuncData} (D : Fun K "law" "law" s_law f0 fd0) (B : Bl mg) (F_law_loft : Fn P w K mg base 31 "_law_loft" ["script", "first", "most", "good"] (spLoftF K)) (F_law_add_cord : Fn P w K mg base 2 "_law_add_cord" ["loft", "cell"] spAddCord)
    (F_law_cell : Fn P w K mg base 2 "_law_cell" ["script", "k"] (spCell K)) (F_law_number : Fn P w K mg base 1 "_law_number" ["book"] spNumber) (F_law_tips : ∀ n, Fn P w K mg base (n + 1) "_law_tips" ["hang"] (spTips n)) (F_tips : ∀ n, Fn P w K mg base (n + 1) "tips" ["hang"] (spTips n))
    (F_law_hang : ∀ n, Fn P w K mg base (n + 1) "_law_hang" ["found"] (spIsHang n)) (F_law_words : ∀ n, Fn P w K mg base (n + 1) "_law_words" ["hang"] (spWords n)) (F_knots : ∀ n, Fn P w K mg base (n + 1) "knots" ["hang"] (spKnots n))
    (F_law_whole : Fn P w K mg base 1 "_law_whole" ["found"] spWhole) (F_renamed : ∀ n, Fn P w K mg base (n + 1) "renamed" ["hang", "names"] (spRenamed n)) (F_law_renamed : ∀ n, Fn P w K mg base (n + 1) "_law_renamed" ["hang", "names"] (spRenamed n)) :
    FnOk P w K mg base CX0 41 f0 fd0 ["script"] (spLaw K) := by
  have F_law_tips := F_law_tips 30
  have F_tips := F_tips 30
  have F_law_hang := F_law_hang 30
  have F_law_words := F_law_words 30
  have F_knots := F_knots 30
  have F_renamed := F_renamed 30
  have F_law_renamed := F_law_renamed 30
  have SC := sc_law
  refine D.ok SC (fun vs H Q E h => by obtain ⟨a, ns, rfl, _⟩ := h; rfl) (fun cdv A outer s H vs Q E hr h => ?_)
  obtain ⟨a, ns, rfl, hS, h63, q⟩ := h
  refine ⟨_, (pss_cons (ps_set (i := 1) SC.nd rfl (Or.inl rfl) (pe_fn F_law_loft hr rfl (pa_cons (pv 0) (pa_cons pe_int (pa_cons pe_int (pa_cons pe_bl pa_nil))))))
      (pss_cons (ps_if (pt_cmpR (op_eqD hr) (pe_ix ix_list (pv 1) pe_int (fun _ _ => rfl)) (pe_lst pa_nil) (nomark _)) (pss_one (ps_expr (pe_fn F_law_add_cord hr rfl (pa_cons (pv 1) (pa_cons (pe_fn F_law_cell hr rfl (pa_cons (pv 0) (pa_cons pe_int pa_nil))) pa_nil))))) pss_nil)
      (pss_cons (ps_set (i := 2) SC.nd rfl (Or.inl rfl) (pe_ix ix_list (pe_ix ix_list (pv 1) pe_int (fun _ _ => rfl)) (pe_op op_mod (pe_fn F_law_cell hr rfl (pa_cons (pv 0) (pa_cons pe_int pa_nil))) (pe_callB call_len_seq rfl B.len PySem.boot_len (pa_cons (pe_ix ix_list (pv 1) pe_int (fun _ _ => rfl)) pa_nil))) (fun _ _ => rfl)))
      (pss_cons (ps_set (i := 3) SC.nd rfl (Or.inl rfl) (pe_fn F_law_tips hr rfl (pa_cons (pv 2) pa_nil)))
      (pss_cons (ps_set (i := 4) SC.nd rfl (Or.inl rfl) (pe_fn F_tips hr rfl (pa_cons (pv 2) pa_nil)))
      (pss_cons (ps_if (PW.pt (pw_or (pt_not (pt_val (pe_callB call_isiT rfl B.isinstance PyProof.Rows.boot_isinstance (pa_cons (pv 4) (pa_cons (pe_bltn (v := .ty "list") rfl B.list PyProof.Rows.boot_list rfl) pa_nil))))) (pw_or (pt_cmpR (op_neD hr) (pv 4) (pv 3) (nomark _)) (pw_or1 (pt_not (pt_val (pe_callB (call_all rfl) rfl B.all PyProof.Rows.boot_all (pa_cons (pe_comp rfl (ts := ["tip"]) (fr := []) ⟨rfl, by decide +kernel, by decide +kernel, (by show ∀ y : Str × NameKind, y ∈ _ → _ → List.lookup y.1 (defScope s_law).names = some .cell ∨ List.lookup y.1 (defScope s_law).names = some .free; decide +kernel), trivial⟩ (pi_list (pv 4)) (fun _ _ _ _ => (pg_name (i := 0) (show (namesC ["tip"] []).Nodup by decide +kernel) rfl (Or.inl rfl))) (fun _ _ _ _ => pifs_nil) (fun _ _ _ _ => (pe_fn F_law_hang hr rfl (pa_cons (pv 0) pa_nil)))) pa_nil)))))))) (pss_one (ps_ret pe_bl)) pss_nil)
      (pss_cons (ps_set (i := 5) SC.nd rfl (Or.inl rfl) (pe_fn F_law_words hr rfl (pa_cons (pv 2) pa_nil)))
      (pss_cons (ps_set (i := 6) SC.nd rfl (Or.inl rfl) (pe_fn F_knots hr rfl (pa_cons (pv 2) pa_nil)))
      (pss_cons (ps_if (PW.pt (pw_or (pt_not (pt_val (pe_callB call_isiT rfl B.isinstance PyProof.Rows.boot_isinstance (pa_cons (pv 6) (pa_cons (pe_bltn (v := .ty "tuple") rfl B.tuple PyProof.Rows.boot_tuple rfl) pa_nil))))) (pw_or (pt_cmpR op_ne (pe_callB call_len_seq rfl B.len PySem.boot_len (pa_cons (pv 6) pa_nil)) pe_int (nomark _)) (pw_or (pt_not (pt_val (pe_fn F_law_whole hr rfl (pa_cons (pe_ix ix_tup (pv 6) pe_int (fun _ _ => rfl)) pa_nil)))) (pw_or1 (pt_not (pt_val (pe_fn F_law_whole hr rfl (pa_cons (pe_ix ix_tup (pv 6) pe_int (fun _ _ => rfl)) pa_nil))))))))) (pss_one (ps_ret pe_bl)) pss_nil)
      (pss_cons (ps_if (pt_cmpR (op_neD hr) (pv 6) (pe_tup (pa_cons (pe_bm PySem.F.plainAttrs_list PySem.F.slot_list_count PySem.F.type_list_count mt_count (pv 5) (pa_cons pe_str pa_nil)) (pa_cons (pe_bm PySem.F.plainAttrs_list PySem.F.slot_list_count PySem.F.type_list_count mt_count (pv 5) (pa_cons pe_str pa_nil)) pa_nil))) (nomark _)) (pss_one (ps_ret pe_bl)) pss_nil)
      (pss_cons (ps_set (i := 7) SC.nd rfl (Or.inl rfl) (pe_disp (pps_cons (pe_fn F_law_number hr rfl (pa_cons (pe_ix ix_list (pv 1) pe_int (fun _ _ => rfl)) pa_nil)) pe_int pps_nil) rfl rfl (List.cons_ne_nil _ _) (by show 1 ≤ 15; decide)))
      (pss_cons (ps_for PassesOwn.never rfl (pi_enum rfl B.enumerate (pa_cons (pv 3) pa_nil)) (pg_tup rfl (pgs_cons (pg_name (i := 8) SC.nd rfl (Or.inl rfl)) (pgs_cons (pg_name (i := 9) SC.nd rfl (Or.inl rfl)) pgs_nil)))
      (pss_one (ps_if (pt_cmpR op_eq (pe_op op_mod (pe_op op_fdiv (pe_fn F_law_cell hr rfl (pa_cons (pv 0) (pa_cons pe_int pa_nil))) (pe_op op_add (pv 8) pe_int)) pe_int) pe_int (nomark _)) (pss_one (ps_dput (hu_of hr) (pv 7) (pe_ix ix_tup (pv 9) pe_int (fun _ _ => rfl)) (pe_op op_add (pe_op op_mod (pe_fn F_law_cell hr rfl (pa_cons (pv 0) (pa_cons pe_int pa_nil))) (pe_op op_pow pe_int pe_int)) (pe_op op_mul pe_int (pv 8))) rfl)) pss_nil)))
      (pss_cons (ps_set (i := 10) SC.nd rfl (Or.inl rfl) (pe_callTy call_dictOf rfl B.dict PyProof.Rows.boot_dict (pa_cons (pv 7) pa_nil)))
      (pss_cons (ps_set (i := 11) SC.nd rfl (Or.inl rfl) (pe_fn F_renamed hr rfl (pa_cons (pv 2) (pa_cons (pv 7) pa_nil))))
      (pss_one (ps_ret (pe_and (pe_fn F_law_hang hr rfl (pa_cons (pv 11) pa_nil)) (pe_and (pe_cmpR (op_eqD hr) (pv 11) (pe_fn F_law_renamed hr rfl (pa_cons (pv 2) (pa_cons (pv 10) pa_nil))) (nomark _)) (pe_one (pe_cmpR (op_eqK hr) (pv 7) (pv 10) (nomark _))))))))))))))))))))), ?_⟩
  -- loft = _law_loft(script, 2, 14, False)
  refine ⟨_, rfl, a, ns, 2, 14, rfl, hS, h63, by decide, by decide, fun L R M S B0 H1 lk => ?_⟩
  have sm : (loftOf ns 2 14 false).Small 14 := (loftOf_small ns 2 14 false).mono (by have := cellsAt_length (ns := ns) (a := 2 + 1) (b := 2 + 1 + 14) (by decide) (by decide); omega)
  generalize loftOf ns 2 14 false = d at lk sm
  obtain ⟨vr, vs, x, hRs, hSs, hb⟩ := id lk
  -- if loft[0] == []
  refine ⟨_, rfl, L, _, _, .ref R, rfl, rfl, SqL.of x.l, rfl, (by show 0 ≤ sizeLine; decide), fun p0 hp0 => ?_⟩
  have g0 : Same H1 _ := same_new hp0 (.lst [])
  have ep0 : upd H1 p0 (.lst []) p0 = _ := upd_same
  generalize upd H1 p0 (.lst []) = H2 at g0 ep0
  have lk2 := lk.grow g0
  refine ⟨.list (d.rack.map Hang.data), .list [], .lst (SqL.of (x.grow g0).r) (HangsAt.dats (hRs.mono (.of g0))), .lst (SqL.of ep0) .nil, ⟨lays_ok fun h hm => (sm.each h hm).1, rfl⟩, Nat.le_trans (Nat.min_le_right _ _) (by decide), _, rfl, ?_⟩
  refine ite2 (fun c0 => ?_) (fun c0 => ?_)
  · -- no hang yet: a cord
    have hr0 : d.rack = [] := by
      cases e : d.rack with
      | nil => rfl
      | cons g r => rw [e] at c0; cases c0
    refine ⟨_, rfl, _, rfl, a, ns, 0, rfl, (x.grow g0).same.seq hS, by decide, fun H2' g2' => ?_⟩
    refine ⟨H, L, R, M, S, B0, d, cellAt ns 0, rfl, lk2.grow g2', by rw [hr0]; decide, by rw [sm.len, hr0]; decide, fun H2c lkc tc => ?_⟩
    have smc : (d.addCord (cellAt ns 0)).Small 15 := sm.addCord _
    have hpos : 0 < (d.addCord (cellAt ns 0)).rack.length := by
      show 0 < (d.rack ++ _).length
      rw [List.length_append]
      split <;> simp
    generalize d.addCord (cellAt ns 0) = dc at lkc smc hpos
    obtain ⟨vrc, vsc, xc, hRsc, hSsc, hbc⟩ := id lkc
    have szc : vrc.length = dc.rack.length := hRsc.length
    -- hang
    refine ⟨_, rfl, L, _, _, .ref R, rfl, rfl, SqL.of xc.l, rfl, _, rfl, a, ns, 0, rfl, xc.same.seq hS, by decide, fun H3 g3 => ?_⟩
    have x3 := xc.grow g3
    refine ⟨_, rfl, L, _, _, .ref R, rfl, rfl, SqL.of x3.l, rfl, R, vrc, rfl, .inl (SqL.of x3.r), _, _, rfl, rfl, (by show (0 : Int) < (vrc.length : Int); omega), ?_⟩
    have ha : 0 ≤ cellAt ns 0 % (vrc.length : Int) ∧ cellAt ns 0 % (vrc.length : Int) < (dc.rack.length : Int) := ⟨Int.emod_nonneg _ (by omega), by have := Int.emod_lt_of_pos (cellAt ns 0) (show (0 : Int) < (vrc.length : Int) by omega); omega⟩
    obtain ⟨hv, hv1, hv2⟩ := hang_at hRsc ha.1 ha.2
    have hok := getD_ok' smc.each (cellAt ns 0 % (vrc.length : Int)).toNat
    generalize dc.rack.getD (cellAt ns 0 % (vrc.length : Int)).toNat default = h at hv2 hok
    refine ⟨R, _, _, hv, rfl, rfl, SqL.of x3.r, hv1, ?_⟩
    have hh3 := hv2.same g3
    have hd : h.depth ≤ 15 := hok.2
    have hz : h.size ≤ 32768 := Nat.le_trans (Hang.size_le _) (Nat.le_trans (Nat.pow_le_pow_right (by decide) hd) (by decide))
    have htl : h.tips.length = h.size := Hang.tips_length h
    have tdep : ∀ t ∈ h.tips, t.depth ≤ 0 := fun t ht => by obtain ⟨b, y, k, rfl, _⟩ := tips_ok h hok.1 t ht; exact Nat.le_refl _
    have tok : ∀ t ∈ h.tips, t.ok := fun t ht => by obtain ⟨b, y, k, rfl, e⟩ := tips_ok h hok.1 t ht; exact e
    -- due, found
    refine ⟨_, rfl, hv, h, rfl, hh3, by omega, by omega, fun rd ud H4 g4 n4 e4 t4 => ?_⟩
    refine ⟨_, rfl, hv, h, rfl, hh3.same g4, by omega, by omega, fun rf uf H5 g5 n5 e5 t5 => ?_⟩
    have hlu : uf.length = h.size := by rw [t5.length, htl]
    have e45 := g5 _ _ e4
    -- the first test
    refine ⟨_, rfl, .ref rf, "list", _, true, rfl, .lst e5, rfl, _, rfl, iteF ?_⟩
    refine ⟨_, rfl, _, rfl, .list (h.tips.map Hang.data), .list (h.tips.map Hang.data), .lst (SqL.of e5) (HangsAt.dats t5), .lst (SqL.of e45) (HangsAt.dats (t4.mono (.of g5))), ⟨lays_ok tok, lays_ok tok⟩, ?_, _, rfl, ?_⟩
    · have := depth_data_list h.tips 0 tdep
      omega
    refine ite2 (fun c => ?_) (fun c => ?_)
    · exfalso
      rw [if_pos rfl, show PyData.eqv (.list (h.tips.map Hang.data)) (.list (h.tips.map Hang.data)) = true from eqvAll_data _] at c
      cases c
    refine ⟨_, rfl, rf, rfl, ⟨_, SqL.of e5⟩, fun D6 hD6 => ?_⟩
    refine comp_list (xs := uf) (fun i ys H' => Same H5 H' ∧ H' D6 = some (.lst ys) ∧ ys = (List.replicate i true).map V.bl) ⟨same_new hD6 _, upd_same, rfl⟩ (fun i ys H' _ hp => ⟨SqL.of (hp.1 _ _ e5), hp.2.1⟩) ?_ ?_
    · rintro i y ys H' hi ⟨g, h1, h2⟩
      obtain ⟨t, ht, hty⟩ := Paired.getL t5 hi
      have hil : i < uf.length := (List.getElem?_eq_some_iff.mp hi).1
      have hlen : ys.length = i := by rw [h2, List.length_map, List.length_replicate]
      refine ⟨Nat.lt_of_le_of_lt (show ys.length ≤ 32768 by omega) (by decide), ⟨rfl, rfl⟩, ?_⟩
      refine ⟨_, rfl, y, t, rfl, hty.same g, Nat.lt_of_le_of_lt (tdep t (List.mem_of_getElem? ht)) (by decide), fun H6 g6 => ⟨g6 _ _ h1, ?_, upd_same, ?_⟩⟩
      · exact fun b o e => by rw [upd_ne (ne_of_none e hD6)]; exact g6 b o (g b o e)
      · rw [h2, List.replicate_succ', List.map_append]
        rfl
    rintro ys H6 ⟨g6, e6, hy⟩
    refine ⟨D6, List.replicate uf.length true, rfl, by rw [hy] at e6; exact SqL.of e6, _, rfl, ?_⟩
    rw [show (List.replicate uf.length true).all id = true by rw [List.all_replicate]; simp]
    refine iteF ?_
    -- words, many
    have g36 : Same H3 H6 := g4.trans (g5.trans g6)
    refine ⟨_, rfl, hv, h, rfl, hh3.same g36, by omega, by omega, fun rw_ H7 g7 n7 e7 => ?_⟩
    refine ⟨_, rfl, hv, h, rfl, hh3.same (g36.trans g7), by omega, fun rm H8 g8 e8 => ?_⟩
    have g38 : Same H3 H8 := g36.trans (g7.trans g8)
    have e78 := g8 _ _ e7
    -- the second test
    refine ⟨_, rfl, .ref rm, "tuple", _, true, rfl, .tup e8, rfl, _, rfl, iteF ?_⟩
    refine ⟨_, rfl, rm, _, rfl, .inr (SqT.of e8), rfl, _, rfl, iteF ?_⟩
    refine ⟨_, rfl, rm, _, _, _, rfl, rfl, SqT.of e8, rfl, _, rfl, fun H9 g9 => ⟨_, rfl, iteF ?_⟩⟩
    have e89 := g9 _ _ e8
    refine ⟨_, rfl, rm, _, _, _, rfl, rfl, SqT.of e89, rfl, _, rfl, fun H10 g10 => ⟨_, rfl, iteF ?_⟩⟩
    have e810 := g10 _ _ e89
    have e710 := g10 _ _ (g9 _ _ e78)
    -- the third
    refine ⟨_, rfl, _, rfl, .inl ⟨rfl, _, SqL.of e710⟩, rw_, h.words, "fast", rfl, rfl, SqL.of e710, _, rfl, .inl ⟨rfl, _, SqL.of e710⟩, rw_, h.words, "loose", rfl, rfl, SqL.of e710, (by show 2 ≤ sizeLine; decide), fun p11 h11 => ?_⟩
    rw [count_fast, count_loose]
    have g11 := same_new h11 (.tup [.int (h.fasts : Int), .int (h.looses : Int)])
    have e11 : upd H10 p11 (.tup [.int (h.fasts : Int), .int (h.looses : Int)]) p11 = _ := upd_same
    generalize upd H10 p11 (.tup [.int (h.fasts : Int), .int (h.looses : Int)]) = H11 at g11 e11
    refine ⟨.tuple [.int h.fasts, .int h.looses], .tuple [.int h.fasts, .int h.looses], .tup (SqT.of (g11 _ _ e810)) (.cons (.int _) (.cons (.int _) .nil)), .tup (SqT.of e11) (.cons (.int _) (.cons (.int _) .nil)), ⟨rfl, rfl⟩, (by show 1 ≤ 190; decide), _, rfl, ?_⟩
    refine ite2 (fun c2 => ?_) (fun c2 => ?_)
    · exfalso
      rw [if_pos rfl, show PyData.eqv (.tuple [.int h.fasts, .int h.looses]) (.tuple [.int h.fasts, .int h.looses]) = (((h.fasts : Int) == (h.fasts : Int)) && (((h.looses : Int) == (h.looses : Int)) && true)) from rfl] at c2
      simp at c2
    have g3b : Same H3 H11 := g38.trans (g9.trans (g10.trans g11))
    have x11 := x3.grow g3b
    have e4b : H11 rd = _ := (g5.trans (g6.trans (g7.trans (g8.trans (g9.trans (g10.trans g11)))))) _ _ e4
    have t4b : HangsAt H11 ud h.tips := t4.mono (.of (g5.trans (g6.trans (g7.trans (g8.trans (g9.trans (g10.trans g11)))))))
    -- names
    refine fun pn hpn => ?_
    have x12 := x11.grow (same_new hpn (.dK []))
    refine ⟨_, rfl, L, _, _, .ref B0, rfl, rfl, SqL.of x12.l, rfl, B0, _, _, _, rfl, ⟨x12.b, hbc⟩, ?_⟩
    have npB : pn ≠ B0 := fun z => by rw [z, x11.b] at hpn; cases hpn
    have npR : pn ≠ rd := fun z => by rw [z, e4b] at hpn; cases hpn
    have nBd : B0 ≠ rd := fun z => by
      have y := x3.b
      rw [z] at y
      rw [n4] at y
      cases y
    refine ⟨by rw [upd_ne npB]; exact upd_same, [(.inl _, .int 7)], rfl, (by show 1 ≤ 15; decide), ?_⟩
    have ePn : ∀ (Ha : Hp) (o : HO), upd Ha pn o pn = some o := fun _ _ => upd_same
    have kT : TupK H11 (upd (upd (upd H11 pn (.dK [])) B0 (.lst [.int dc.s, .int dc.st, .int (dc.c + 1)])) pn (.dK (mergeK [] [(.inl (numOf dc.s dc.st dc.c), .int 7)]))) := fun b xs e => by
      rw [upd_ne (ne_of_none e hpn), upd_ne (fun z => by rw [z, x11.b] at e; cases e), upd_ne (ne_of_none e hpn)]
      exact e
    have kS : Same H (upd (upd (upd H11 pn (.dK [])) B0 (.lst [.int dc.s, .int dc.st, .int (dc.c + 1)])) pn (.dK (mergeK [] [(.inl (numOf dc.s dc.st dc.c), .int 7)]))) :=
      same_at (same_at (same_at x11.same (x11.same.free hpn) _) x11.new.2.2.2.2 _) (x11.same.free hpn) _
    have kD : upd (upd (upd H11 pn (.dK [])) B0 (.lst [.int dc.s, .int dc.st, .int (dc.c + 1)])) pn (.dK (mergeK [] [(.inl (numOf dc.s dc.st dc.c), .int 7)])) rd = some (.lst ud) := by
      rw [upd_ne npR.symm, upd_ne nBd.symm, upd_ne npR.symm]
      exact e4b
    have kN := ePn (upd (upd H11 pn (.dK [])) B0 (.lst [.int dc.s, .int dc.st, .int (dc.c + 1)])) (.dK (mergeK [] [(.inl (numOf dc.s dc.st dc.c), .int 7)]))
    have kI : intD (mergeK [] [(.inl (numOf dc.s dc.st dc.c), .int 7)]) := fun kv hk => by
      rw [List.mem_singleton.mp hk]
      exact ⟨7, rfl⟩
    have kL : (mergeK [] [(.inl (numOf dc.s dc.st dc.c), .int 7)]).length ≤ 1 := Nat.le_refl _
    generalize upd (upd (upd H11 pn (.dK [])) B0 (.lst [.int dc.s, .int dc.st, .int (dc.c + 1)])) pn (.dK (mergeK [] [(.inl (numOf dc.s dc.st dc.c), .int 7)])) = H12 at kT kS kD kN
    generalize mergeK [] [(Sum.inl (numOf dc.s dc.st dc.c), V.int 7)] = kv0 at kN kI kL
    have hn0 : H pn = none := x11.same.free hpn
    -- the loop
    refine ⟨_, rfl, rd, rfl, ⟨_, SqL.of kD⟩, ?_⟩
    refine for_enum (K := K) (a := rd) (xs := ud) (fun i σ H' => ∃ kvs v1 v2, σ = [some (.ref a), some (.ref L), some hv, some (.ref rd), some (.ref rf), some (.ref rw_), some (.ref rm), some (.ref pn), v1, v2, none, none] ∧ Same H H' ∧ TupK H12 H' ∧ H' rd = some (.lst ud) ∧ H' pn = some (.dK kvs) ∧ intD kvs ∧ kvs.length ≤ i + 1)
      ⟨kv0, none, none, rfl, kS, .refl _, kD, kN, kI, kL⟩ (fun i σ H' _ hp => by obtain ⟨kvs, v1, v2, _, _, _, e, _⟩ := hp; exact SqL.of e) ?_ ?_
    · rintro i y σ H' hi ⟨kvs, v1, v2, rfl, s1, k1, e1, e2, hI, hl⟩ p hp
      obtain ⟨t, ht, hty⟩ := Paired.getL t4b hi
      have hil : i < ud.length := (List.getElem?_eq_some_iff.mp hi).1
      have hlud : ud.length = h.size := by rw [t4b.length, htl]
      obtain ⟨tb, td, tn, rfl, _⟩ := tips_ok h hok.1 t (List.mem_of_getElem? ht)
      have hty' := (hty.mono kT).mono k1
      refine ⟨p, _, rfl, SqT.of upd_same, rfl, _, _, rfl, _, _, rfl, rfl, ?_⟩
      have gp := same_new hp (.tup [.int (i : Int), y])
      have s2 := s1.trans gp
      have k2 := k1.trans (TupK.of gp)
      have e12 := gp _ _ e1
      have e22 := gp _ _ e2
      have hty2 := hty'.same gp
      generalize upd H' p (.tup [.int (i : Int), y]) = H'' at s2 k2 e12 e22 hty2 gp
      refine ⟨_, rfl, a, ns, 1, rfl, s2.seq hS, by decide, fun H3' g3' => ⟨_, rfl, _, _, rfl, rfl, _, _, rfl, rfl, ⟨by show (0 : Int) < (i : Int) + 1; omega, by show (i : Int) + 1 < 1073741824; omega⟩, _, _, rfl, rfl, (by show (0 : Int) < 2; decide), rfl, _, rfl, ?_⟩⟩
      have s3 := s2.trans g3'
      have k3 := k2.trans (TupK.of g3')
      have e13 := g3' _ _ e12
      have e23 := g3' _ _ e22
      have hty3 := hty2.same g3'
      refine ite2 (fun ce => ?_) (fun ce => ?_)
      · refine ⟨_, rfl, a, ns, 1, rfl, s3.seq hS, by decide, fun H4' g4' => ⟨_, _, rfl, rfl, ⟨by decide, by decide, by decide⟩, _, _, rfl, rfl, (by show (0 : Int) < 10 ^ (12 : Int).toNat; decide), _, rfl, _, _, rfl, rfl, .inl ⟨by decide, by decide⟩, _, _, rfl, rfl, _, rfl, _, rfl, ?_⟩⟩
        have e14 := g4' _ _ e13
        have e24 := g4' _ _ e23
        have hty4 := hty3.same g4'
        cases hty4 with
        | @tip ta _ _ _ te =>
        refine ⟨ta, _, _, _, rfl, rfl, SqT.of te, rfl, pn, _, rfl, DPut.k (k := Sum.inl tn) e24 (Nat.lt_of_le_of_lt (show kvs.length ≤ 32769 by omega) (by decide)), ?_⟩
        refine ⟨_, _, _, rfl, same_at (s3.trans g4') hn0 _, (k3.trans (TupK.of g4')).trans (fun b xs e => by rw [upd_ne (fun z => by rw [z, e24] at e; cases e)]; exact e), by rw [upd_ne npR.symm]; exact e14, upd_same, hI.put _ _, ?_⟩
        exact Nat.le_trans (putK_length _ _ _) (by omega)
      · exact ⟨kvs, _, _, rfl, s3, k3, e13, e23, hI, by omega⟩
    rintro σ H13 ⟨kvs, v1, v2, rfl, s13, k13, e1, e2, hI, hl⟩
    have hh13 : HangAt H13 hv h := ((hh3.same g3b).mono kT).mono k13
    -- kept
    refine ⟨_, rfl, pn, kvs, rfl, .inl e2, fun pk hpk => ?_⟩
    have gk := same_new hpk (.dK kvs)
    have ek : upd H13 pk (.dK kvs) pk = _ := upd_same
    generalize upd H13 pk (.dK kvs) = H14 at gk ek
    have e214 := gk _ _ e2
    -- answer
    refine ⟨_, rfl, _, rfl, hv, h, pn, kvs, rfl, hh13.same gk, by omega, e214, hI, fun av H15 g15 ea => ?_⟩
    have rdp := Hang.ren_depth (intAt kvs) h
    have rok := Hang.ren_ok (intAt kvs) h hok.1
    refine ⟨_, rfl, av, _, rfl, ea, by omega, fun H16 g16 => ⟨_, rfl, iteT ?_⟩⟩
    refine ⟨_, rfl, _, rfl, _, rfl, hv, h, pk, kvs, rfl, (hh13.same gk).same (g15.trans g16), by omega, (g15.trans g16) _ _ ek, hI, fun av2 H17 g17 ea2 => ?_⟩
    refine ⟨_, _, (ea.same (g16.trans g17)).dat, ea2.dat, ⟨Hang.data_lay _ rok, Hang.data_lay _ rok⟩, by rw [Hang.data_depth]; omega, _, rfl, ?_⟩
    rw [if_neg Bool.false_ne_true, (Hang.data_eqv _ _).mpr rfl]
    refine iteT ?_
    have g1417 := g15.trans (g16.trans g17)
    refine ⟨_, rfl, _, rfl, pn, pk, kvs, rfl, rfl, .inl (g1417 _ _ e214), .inl (g1417 _ _ ek), hI, q H17⟩
  · have hpos : 0 < d.rack.length := by
      cases e : d.rack with
      | nil => rw [e] at c0; exact absurd rfl c0
      | cons g r => exact Nat.succ_pos _
    have sm2 := sm.mono (show 14 ≤ 15 by decide)
    obtain ⟨vr2, vs2, x2, hRs2, hSs2, hb2⟩ := id lk2
    have sz2 : vr2.length = d.rack.length := hRs2.length
    -- hang
    refine ⟨_, rfl, L, _, _, .ref R, rfl, rfl, SqL.of x2.l, rfl, _, rfl, a, ns, 0, rfl, x2.same.seq hS, by decide, fun H3 g3 => ?_⟩
    have x3 := x2.grow g3
    refine ⟨_, rfl, L, _, _, .ref R, rfl, rfl, SqL.of x3.l, rfl, R, vr2, rfl, .inl (SqL.of x3.r), _, _, rfl, rfl, (by show (0 : Int) < (vr2.length : Int); omega), ?_⟩
    have ha : 0 ≤ cellAt ns 0 % (vr2.length : Int) ∧ cellAt ns 0 % (vr2.length : Int) < (d.rack.length : Int) := ⟨Int.emod_nonneg _ (by omega), by have := Int.emod_lt_of_pos (cellAt ns 0) (show (0 : Int) < (vr2.length : Int) by omega); omega⟩
    obtain ⟨hv, hv1, hv2⟩ := hang_at hRs2 ha.1 ha.2
    have hok := getD_ok' sm2.each (cellAt ns 0 % (vr2.length : Int)).toNat
    generalize d.rack.getD (cellAt ns 0 % (vr2.length : Int)).toNat default = h at hv2 hok
    refine ⟨R, _, _, hv, rfl, rfl, SqL.of x3.r, hv1, ?_⟩
    have hh3 := hv2.same g3
    have hd : h.depth ≤ 15 := hok.2
    have hz : h.size ≤ 32768 := Nat.le_trans (Hang.size_le _) (Nat.le_trans (Nat.pow_le_pow_right (by decide) hd) (by decide))
    have htl : h.tips.length = h.size := Hang.tips_length h
    have tdep : ∀ t ∈ h.tips, t.depth ≤ 0 := fun t ht => by obtain ⟨b, y, k, rfl, _⟩ := tips_ok h hok.1 t ht; exact Nat.le_refl _
    have tok : ∀ t ∈ h.tips, t.ok := fun t ht => by obtain ⟨b, y, k, rfl, e⟩ := tips_ok h hok.1 t ht; exact e
    -- due, found
    refine ⟨_, rfl, hv, h, rfl, hh3, by omega, by omega, fun rd ud H4 g4 n4 e4 t4 => ?_⟩
    refine ⟨_, rfl, hv, h, rfl, hh3.same g4, by omega, by omega, fun rf uf H5 g5 n5 e5 t5 => ?_⟩
    have hlu : uf.length = h.size := by rw [t5.length, htl]
    have e45 := g5 _ _ e4
    -- the first test
    refine ⟨_, rfl, .ref rf, "list", _, true, rfl, .lst e5, rfl, _, rfl, iteF ?_⟩
    refine ⟨_, rfl, _, rfl, .list (h.tips.map Hang.data), .list (h.tips.map Hang.data), .lst (SqL.of e5) (HangsAt.dats t5), .lst (SqL.of e45) (HangsAt.dats (t4.mono (.of g5))), ⟨lays_ok tok, lays_ok tok⟩, ?_, _, rfl, ?_⟩
    · have := depth_data_list h.tips 0 tdep
      omega
    refine ite2 (fun c => ?_) (fun c => ?_)
    · exfalso
      rw [if_pos rfl, show PyData.eqv (.list (h.tips.map Hang.data)) (.list (h.tips.map Hang.data)) = true from eqvAll_data _] at c
      cases c
    refine ⟨_, rfl, rf, rfl, ⟨_, SqL.of e5⟩, fun D6 hD6 => ?_⟩
    refine comp_list (xs := uf) (fun i ys H' => Same H5 H' ∧ H' D6 = some (.lst ys) ∧ ys = (List.replicate i true).map V.bl) ⟨same_new hD6 _, upd_same, rfl⟩ (fun i ys H' _ hp => ⟨SqL.of (hp.1 _ _ e5), hp.2.1⟩) ?_ ?_
    · rintro i y ys H' hi ⟨g, h1, h2⟩
      obtain ⟨t, ht, hty⟩ := Paired.getL t5 hi
      have hil : i < uf.length := (List.getElem?_eq_some_iff.mp hi).1
      have hlen : ys.length = i := by rw [h2, List.length_map, List.length_replicate]
      refine ⟨Nat.lt_of_le_of_lt (show ys.length ≤ 32768 by omega) (by decide), ⟨rfl, rfl⟩, ?_⟩
      refine ⟨_, rfl, y, t, rfl, hty.same g, Nat.lt_of_le_of_lt (tdep t (List.mem_of_getElem? ht)) (by decide), fun H6 g6 => ⟨g6 _ _ h1, ?_, upd_same, ?_⟩⟩
      · exact fun b o e => by rw [upd_ne (ne_of_none e hD6)]; exact g6 b o (g b o e)
      · rw [h2, List.replicate_succ', List.map_append]
        rfl
    rintro ys H6 ⟨g6, e6, hy⟩
    refine ⟨D6, List.replicate uf.length true, rfl, by rw [hy] at e6; exact SqL.of e6, _, rfl, ?_⟩
    rw [show (List.replicate uf.length true).all id = true by rw [List.all_replicate]; simp]
    refine iteF ?_
    -- words, many
    have g36 : Same H3 H6 := g4.trans (g5.trans g6)
    refine ⟨_, rfl, hv, h, rfl, hh3.same g36, by omega, by omega, fun rw_ H7 g7 n7 e7 => ?_⟩
    refine ⟨_, rfl, hv, h, rfl, hh3.same (g36.trans g7), by omega, fun rm H8 g8 e8 => ?_⟩
    have g38 : Same H3 H8 := g36.trans (g7.trans g8)
    have e78 := g8 _ _ e7
    -- the second test
    refine ⟨_, rfl, .ref rm, "tuple", _, true, rfl, .tup e8, rfl, _, rfl, iteF ?_⟩
    refine ⟨_, rfl, rm, _, rfl, .inr (SqT.of e8), rfl, _, rfl, iteF ?_⟩
    refine ⟨_, rfl, rm, _, _, _, rfl, rfl, SqT.of e8, rfl, _, rfl, fun H9 g9 => ⟨_, rfl, iteF ?_⟩⟩
    have e89 := g9 _ _ e8
    refine ⟨_, rfl, rm, _, _, _, rfl, rfl, SqT.of e89, rfl, _, rfl, fun H10 g10 => ⟨_, rfl, iteF ?_⟩⟩
    have e810 := g10 _ _ e89
    have e710 := g10 _ _ (g9 _ _ e78)
    -- the third
    refine ⟨_, rfl, _, rfl, .inl ⟨rfl, _, SqL.of e710⟩, rw_, h.words, "fast", rfl, rfl, SqL.of e710, _, rfl, .inl ⟨rfl, _, SqL.of e710⟩, rw_, h.words, "loose", rfl, rfl, SqL.of e710, (by show 2 ≤ sizeLine; decide), fun p11 h11 => ?_⟩
    rw [count_fast, count_loose]
    have g11 := same_new h11 (.tup [.int (h.fasts : Int), .int (h.looses : Int)])
    have e11 : upd H10 p11 (.tup [.int (h.fasts : Int), .int (h.looses : Int)]) p11 = _ := upd_same
    generalize upd H10 p11 (.tup [.int (h.fasts : Int), .int (h.looses : Int)]) = H11 at g11 e11
    refine ⟨.tuple [.int h.fasts, .int h.looses], .tuple [.int h.fasts, .int h.looses], .tup (SqT.of (g11 _ _ e810)) (.cons (.int _) (.cons (.int _) .nil)), .tup (SqT.of e11) (.cons (.int _) (.cons (.int _) .nil)), ⟨rfl, rfl⟩, (by show 1 ≤ 190; decide), _, rfl, ?_⟩
    refine ite2 (fun c2 => ?_) (fun c2 => ?_)
    · exfalso
      rw [if_pos rfl, show PyData.eqv (.tuple [.int h.fasts, .int h.looses]) (.tuple [.int h.fasts, .int h.looses]) = (((h.fasts : Int) == (h.fasts : Int)) && (((h.looses : Int) == (h.looses : Int)) && true)) from rfl] at c2
      simp at c2
    have g3b : Same H3 H11 := g38.trans (g9.trans (g10.trans g11))
    have x11 := x3.grow g3b
    have e4b : H11 rd = _ := (g5.trans (g6.trans (g7.trans (g8.trans (g9.trans (g10.trans g11)))))) _ _ e4
    have t4b : HangsAt H11 ud h.tips := t4.mono (.of (g5.trans (g6.trans (g7.trans (g8.trans (g9.trans (g10.trans g11)))))))
    -- names
    refine fun pn hpn => ?_
    have x12 := x11.grow (same_new hpn (.dK []))
    refine ⟨_, rfl, L, _, _, .ref B0, rfl, rfl, SqL.of x12.l, rfl, B0, _, _, _, rfl, ⟨x12.b, hb2⟩, ?_⟩
    have npB : pn ≠ B0 := fun z => by rw [z, x11.b] at hpn; cases hpn
    have npR : pn ≠ rd := fun z => by rw [z, e4b] at hpn; cases hpn
    have nBd : B0 ≠ rd := fun z => by
      have y := x3.b
      rw [z] at y
      rw [n4] at y
      cases y
    refine ⟨by rw [upd_ne npB]; exact upd_same, [(.inl _, .int 7)], rfl, (by show 1 ≤ 15; decide), ?_⟩
    have ePn : ∀ (Ha : Hp) (o : HO), upd Ha pn o pn = some o := fun _ _ => upd_same
    have kT : TupK H11 (upd (upd (upd H11 pn (.dK [])) B0 (.lst [.int d.s, .int d.st, .int (d.c + 1)])) pn (.dK (mergeK [] [(.inl (numOf d.s d.st d.c), .int 7)]))) := fun b xs e => by
      rw [upd_ne (ne_of_none e hpn), upd_ne (fun z => by rw [z, x11.b] at e; cases e), upd_ne (ne_of_none e hpn)]
      exact e
    have kS : Same H (upd (upd (upd H11 pn (.dK [])) B0 (.lst [.int d.s, .int d.st, .int (d.c + 1)])) pn (.dK (mergeK [] [(.inl (numOf d.s d.st d.c), .int 7)]))) :=
      same_at (same_at (same_at x11.same (x11.same.free hpn) _) x11.new.2.2.2.2 _) (x11.same.free hpn) _
    have kD : upd (upd (upd H11 pn (.dK [])) B0 (.lst [.int d.s, .int d.st, .int (d.c + 1)])) pn (.dK (mergeK [] [(.inl (numOf d.s d.st d.c), .int 7)])) rd = some (.lst ud) := by
      rw [upd_ne npR.symm, upd_ne nBd.symm, upd_ne npR.symm]
      exact e4b
    have kN := ePn (upd (upd H11 pn (.dK [])) B0 (.lst [.int d.s, .int d.st, .int (d.c + 1)])) (.dK (mergeK [] [(.inl (numOf d.s d.st d.c), .int 7)]))
    have kI : intD (mergeK [] [(.inl (numOf d.s d.st d.c), .int 7)]) := fun kv hk => by
      rw [List.mem_singleton.mp hk]
      exact ⟨7, rfl⟩
    have kL : (mergeK [] [(.inl (numOf d.s d.st d.c), .int 7)]).length ≤ 1 := Nat.le_refl _
    generalize upd (upd (upd H11 pn (.dK [])) B0 (.lst [.int d.s, .int d.st, .int (d.c + 1)])) pn (.dK (mergeK [] [(.inl (numOf d.s d.st d.c), .int 7)])) = H12 at kT kS kD kN
    generalize mergeK [] [(Sum.inl (numOf d.s d.st d.c), V.int 7)] = kv0 at kN kI kL
    have hn0 : H pn = none := x11.same.free hpn
    -- the loop
    refine ⟨_, rfl, rd, rfl, ⟨_, SqL.of kD⟩, ?_⟩
    refine for_enum (K := K) (a := rd) (xs := ud) (fun i σ H' => ∃ kvs v1 v2, σ = [some (.ref a), some (.ref L), some hv, some (.ref rd), some (.ref rf), some (.ref rw_), some (.ref rm), some (.ref pn), v1, v2, none, none] ∧ Same H H' ∧ TupK H12 H' ∧ H' rd = some (.lst ud) ∧ H' pn = some (.dK kvs) ∧ intD kvs ∧ kvs.length ≤ i + 1)
      ⟨kv0, none, none, rfl, kS, .refl _, kD, kN, kI, kL⟩ (fun i σ H' _ hp => by obtain ⟨kvs, v1, v2, _, _, _, e, _⟩ := hp; exact SqL.of e) ?_ ?_
    · rintro i y σ H' hi ⟨kvs, v1, v2, rfl, s1, k1, e1, e2, hI, hl⟩ p hp
      obtain ⟨t, ht, hty⟩ := Paired.getL t4b hi
      have hil : i < ud.length := (List.getElem?_eq_some_iff.mp hi).1
      have hlud : ud.length = h.size := by rw [t4b.length, htl]
      obtain ⟨tb, td, tn, rfl, _⟩ := tips_ok h hok.1 t (List.mem_of_getElem? ht)
      have hty' := (hty.mono kT).mono k1
      refine ⟨p, _, rfl, SqT.of upd_same, rfl, _, _, rfl, _, _, rfl, rfl, ?_⟩
      have gp := same_new hp (.tup [.int (i : Int), y])
      have s2 := s1.trans gp
      have k2 := k1.trans (TupK.of gp)
      have e12 := gp _ _ e1
      have e22 := gp _ _ e2
      have hty2 := hty'.same gp
      generalize upd H' p (.tup [.int (i : Int), y]) = H'' at s2 k2 e12 e22 hty2 gp
      refine ⟨_, rfl, a, ns, 1, rfl, s2.seq hS, by decide, fun H3' g3' => ⟨_, rfl, _, _, rfl, rfl, _, _, rfl, rfl, ⟨by show (0 : Int) < (i : Int) + 1; omega, by show (i : Int) + 1 < 1073741824; omega⟩, _, _, rfl, rfl, (by show (0 : Int) < 2; decide), rfl, _, rfl, ?_⟩⟩
      have s3 := s2.trans g3'
      have k3 := k2.trans (TupK.of g3')
      have e13 := g3' _ _ e12
      have e23 := g3' _ _ e22
      have hty3 := hty2.same g3'
      refine ite2 (fun ce => ?_) (fun ce => ?_)
      · refine ⟨_, rfl, a, ns, 1, rfl, s3.seq hS, by decide, fun H4' g4' => ⟨_, _, rfl, rfl, ⟨by decide, by decide, by decide⟩, _, _, rfl, rfl, (by show (0 : Int) < 10 ^ (12 : Int).toNat; decide), _, rfl, _, _, rfl, rfl, .inl ⟨by decide, by decide⟩, _, _, rfl, rfl, _, rfl, _, rfl, ?_⟩⟩
        have e14 := g4' _ _ e13
        have e24 := g4' _ _ e23
        have hty4 := hty3.same g4'
        cases hty4 with
        | @tip ta _ _ _ te =>
        refine ⟨ta, _, _, _, rfl, rfl, SqT.of te, rfl, pn, _, rfl, DPut.k (k := Sum.inl tn) e24 (Nat.lt_of_le_of_lt (show kvs.length ≤ 32769 by omega) (by decide)), ?_⟩
        refine ⟨_, _, _, rfl, same_at (s3.trans g4') hn0 _, (k3.trans (TupK.of g4')).trans (fun b xs e => by rw [upd_ne (fun z => by rw [z, e24] at e; cases e)]; exact e), by rw [upd_ne npR.symm]; exact e14, upd_same, hI.put _ _, ?_⟩
        exact Nat.le_trans (putK_length _ _ _) (by omega)
      · exact ⟨kvs, _, _, rfl, s3, k3, e13, e23, hI, by omega⟩
    rintro σ H13 ⟨kvs, v1, v2, rfl, s13, k13, e1, e2, hI, hl⟩
    have hh13 : HangAt H13 hv h := ((hh3.same g3b).mono kT).mono k13
    -- kept
    refine ⟨_, rfl, pn, kvs, rfl, .inl e2, fun pk hpk => ?_⟩
    have gk := same_new hpk (.dK kvs)
    have ek : upd H13 pk (.dK kvs) pk = _ := upd_same
    generalize upd H13 pk (.dK kvs) = H14 at gk ek
    have e214 := gk _ _ e2
    -- answer
    refine ⟨_, rfl, _, rfl, hv, h, pn, kvs, rfl, hh13.same gk, by omega, e214, hI, fun av H15 g15 ea => ?_⟩
    have rdp := Hang.ren_depth (intAt kvs) h
    have rok := Hang.ren_ok (intAt kvs) h hok.1
    refine ⟨_, rfl, av, _, rfl, ea, by omega, fun H16 g16 => ⟨_, rfl, iteT ?_⟩⟩
    refine ⟨_, rfl, _, rfl, _, rfl, hv, h, pk, kvs, rfl, (hh13.same gk).same (g15.trans g16), by omega, (g15.trans g16) _ _ ek, hI, fun av2 H17 g17 ea2 => ?_⟩
    refine ⟨_, _, (ea.same (g16.trans g17)).dat, ea2.dat, ⟨Hang.data_lay _ rok, Hang.data_lay _ rok⟩, by rw [Hang.data_depth]; omega, _, rfl, ?_⟩
    rw [if_neg Bool.false_ne_true, (Hang.data_eqv _ _).mpr rfl]
    refine iteT ?_
    have g1417 := g15.trans (g16.trans g17)
    refine ⟨_, rfl, _, rfl, pn, pk, kvs, rfl, rfl, .inl (g1417 _ _ e214), .inl (g1417 _ _ ek), hI, q H17⟩

end
theorem all_law {l : PySem.W.OpenLaw} {w : World} {K : PySem.W.Frag} {mg : Str → Option Value} {base : Heap} {fa : Addr} {fd : FuncData} (D_is_tip : Def K mg "is_tip" s_is_tip) (D_tips : Def K mg "tips" s_tips) (D_knots : Def K mg "knots" s_knots) (D_renamed : Def K mg "renamed" s_renamed) (D_law_stir : Def K mg "_law_stir" s_law_stir) (D_law_cell : Def K mg "_law_cell" s_law_cell) (D_law_cells : Def K mg "_law_cells" s_law_cells) (D_law_dye : Def K mg "_law_dye" s_law_dye) (D_law_book : Def K mg "_law_book" s_law_book) (D_law_number : Def K mg "_law_number" s_law_number) (D_law_is_tip : Def K mg "_law_is_tip" s_law_is_tip) (D_law_tips : Def K mg "_law_tips" s_law_tips) (D_law_mirror : Def K mg "_law_mirror" s_law_mirror) (D_law_anew : Def K mg "_law_anew" s_law_anew) (D_law_add_cord : Def K mg "_law_add_cord" s_law_add_cord) (D_law_tie : Def K mg "_law_tie" s_law_tie) (D_law_add_knot : Def K mg "_law_add_knot" s_law_add_knot) (D_law_add_splice : Def K mg "_law_add_splice" s_law_add_splice) (D_law_loft : Def K mg "_law_loft" s_law_loft) (D_law_whole : Def K mg "_law_whole" s_law_whole) (D_law_hang : Def K mg "_law_hang" s_law_hang) (D_law_words : Def K mg "_law_words" s_law_words) (D_law_renamed : Def K mg "_law_renamed" s_law_renamed) (B : Bl mg) (F : Fun K "law" "law" s_law fa fd) : FnOk l.prog w K mg base CX0 41 fa fd ["script"] (spLaw K) := by
  have F_is_tip := fn_is_tip (P := l.prog) (w := w) (base := base) D_is_tip
  have F_tips := fn_tips (P := l.prog) (w := w) (base := base) D_tips F_is_tip
  have F_knots := fn_knots (P := l.prog) (w := w) (base := base) D_knots F_is_tip
  have F_renamed := fn_renamed (P := l.prog) (w := w) (base := base) D_renamed F_is_tip
  have F_law_stir := fn_law_stir (P := l.prog) (w := w) (base := base) D_law_stir
  have F_law_cell := fn_law_cell (P := l.prog) (w := w) (base := base) D_law_cell B F_law_stir
  have F_law_cells := fn_law_cells (P := l.prog) (w := w) (base := base) D_law_cells B F_law_stir
  have F_law_dye := fn_law_dye (P := l.prog) (w := w) (base := base) D_law_dye B
  have F_law_book := fn_law_book (P := l.prog) (w := w) (base := base) D_law_book
  have F_law_number := fn_law_number (P := l.prog) (w := w) (base := base) D_law_number
  have F_law_is_tip := fn_law_is_tip (P := l.prog) (w := w) (base := base) D_law_is_tip
  have F_law_tips := fn_law_tips (P := l.prog) (w := w) (base := base) D_law_tips F_law_is_tip
  have F_law_mirror := fn_law_mirror (P := l.prog) (w := w) (base := base) D_law_mirror F_law_is_tip
  have F_law_anew := fn_law_anew (P := l.prog) (w := w) (base := base) D_law_anew F_law_is_tip F_law_number
  have F_law_add_cord := fn_law_add_cord (P := l.prog) (w := w) (base := base) D_law_add_cord F_law_number F_law_dye
  have F_law_tie := fn_law_tie (P := l.prog) (w := w) (base := base) D_law_tie B
  have F_law_add_knot := fn_law_add_knot (P := l.prog) (w := w) (base := base) D_law_add_knot B F_law_tie
  have F_law_add_splice := fn_law_add_splice (P := l.prog) (w := w) (base := base) D_law_add_splice B F_law_anew F_law_mirror
  have F_law_loft := fn_law_loftF (P := l.prog) (w := w) (base := base) D_law_loft B F_law_cell F_law_cells F_law_book F_law_add_cord F_law_add_knot F_law_add_splice F_law_tips
  have F_law_whole := fn_law_whole (P := l.prog) (w := w) (base := base) D_law_whole B
  have F_law_hang := fn_law_hang (P := l.prog) (w := w) (base := base) D_law_hang B F_law_whole
  have F_law_words := fn_law_words (P := l.prog) (w := w) (base := base) D_law_words F_law_is_tip
  have F_law_renamed := fn_law_renamed (P := l.prog) (w := w) (base := base) D_law_renamed F_law_is_tip
  exact ok_law F B F_law_loft F_law_add_cord F_law_cell F_law_number F_law_tips F_tips F_law_hang F_law_words F_knots F_law_whole F_renamed F_law_renamed
theorem walk {l : PySem.W.OpenLaw} {q : Program} {loose : List Str} {XP : (Str → Option Value) → Heap → Prop} {YP : World → Heap → Prop} {d : DefRec} {K : Params → PySem.W.Frag} (hn : l.most = some 63) (hdf : d.params.defaults = [])
    (hY : ∀ (w : World) (h : Heap), YP w h → (K w.params).In h)
    (F : ∀ (w : World) (mg : Str → Option Value) (fa : Addr) (h : Heap), (K w.params).In h → h.Ns mainGlobals mg → mg d.name = some (.ref fa) →
      ∃ fd : FuncData, (∀ (s : Shared) (u : Value), BindsTo s fd ⟨[u], []⟩ [("script", u)]) ∧ ∀ base : Heap, (K w.params).In base → base.Ns mainGlobals mg → FnOk l.prog w (K w.params) mg base CX0 41 fa fd ["script"] (spLaw (K w.params))) :
    PySem.W.WalkO q loose XP YP l.row.toRowW d [] (fun f vs => PySem.call f vs) :=
  L2.walk_of (n := 63) (k := 41) (x := "script") (CX := fun _ => CX0) (sp := fun w => spLaw (K w.params)) hn (by decide) hdf ⟨rfl, by decide, by decide⟩ hY F (fun _ _ a ns hl _ hS => ⟨a, ns, rfl, hS, hl, fun _ => rfl⟩) fun _ _ _ _ _ z => z
end NL
open PySem PySem.W PyProof.Rows
set_option maxRecDepth 100000 in
set_option maxHeartbeats 0 in
theorem PySem.Challenge.cw_netloft_k02_tips_holds : PySem.Challenge.rw_netloft_k02_tips.Holds := by
  w_on; o_law; k_head; (case hw => w_witness2)
  k_fill
  refine NL.walk (l := PySem.Challenge.rw_netloft_k02_tips) rfl rfl (fun w h Y => PySem.W.kIn_of Y) ?F
  case F =>
    intro w mg fa h KX G hmg
    have D_is_tip : NL.Def (L2.KOf KX) mg "is_tip" NL.s_is_tip := by dsimp only [L2.KOf]; refine' NL.Def.top KX G ?a ?l ?c ?k; (case a => k_is); (case l => k_is); (case c => k_is); (case k => k_is)
    have D_tips : NL.Def (L2.KOf KX) mg "tips" NL.s_tips := by dsimp only [L2.KOf]; refine' NL.Def.top KX G ?a ?l ?c ?k; (case a => k_is); (case l => k_is); (case c => k_is); (case k => k_is)
    have D_knots : NL.Def (L2.KOf KX) mg "knots" NL.s_knots := by dsimp only [L2.KOf]; refine' NL.Def.top KX G ?a ?l ?c ?k; (case a => k_is); (case l => k_is); (case c => k_is); (case k => k_is)
    have D_renamed : NL.Def (L2.KOf KX) mg "renamed" NL.s_renamed := by dsimp only [L2.KOf]; refine' NL.Def.top KX G ?a ?l ?c ?k; (case a => k_is); (case l => k_is); (case c => k_is); (case k => k_is)
    have D_law_stir : NL.Def (L2.KOf KX) mg "_law_stir" NL.s_law_stir := by dsimp only [L2.KOf]; refine' NL.Def.top KX G ?a ?l ?c ?k; (case a => k_is); (case l => k_is); (case c => k_is); (case k => k_is)
    have D_law_cell : NL.Def (L2.KOf KX) mg "_law_cell" NL.s_law_cell := by dsimp only [L2.KOf]; refine' NL.Def.top KX G ?a ?l ?c ?k; (case a => k_is); (case l => k_is); (case c => k_is); (case k => k_is)
    have D_law_cells : NL.Def (L2.KOf KX) mg "_law_cells" NL.s_law_cells := by dsimp only [L2.KOf]; refine' NL.Def.top KX G ?a ?l ?c ?k; (case a => k_is); (case l => k_is); (case c => k_is); (case k => k_is)
    have D_law_dye : NL.Def (L2.KOf KX) mg "_law_dye" NL.s_law_dye := by dsimp only [L2.KOf]; refine' NL.Def.top KX G ?a ?l ?c ?k; (case a => k_is); (case l => k_is); (case c => k_is); (case k => k_is)
    have D_law_book : NL.Def (L2.KOf KX) mg "_law_book" NL.s_law_book := by dsimp only [L2.KOf]; refine' NL.Def.top KX G ?a ?l ?c ?k; (case a => k_is); (case l => k_is); (case c => k_is); (case k => k_is)
    have D_law_number : NL.Def (L2.KOf KX) mg "_law_number" NL.s_law_number := by dsimp only [L2.KOf]; refine' NL.Def.top KX G ?a ?l ?c ?k; (case a => k_is); (case l => k_is); (case c => k_is); (case k => k_is)
    have D_law_is_tip : NL.Def (L2.KOf KX) mg "_law_is_tip" NL.s_law_is_tip := by dsimp only [L2.KOf]; refine' NL.Def.top KX G ?a ?l ?c ?k; (case a => k_is); (case l => k_is); (case c => k_is); (case k => k_is)
    have D_law_tips : NL.Def (L2.KOf KX) mg "_law_tips" NL.s_law_tips := by dsimp only [L2.KOf]; refine' NL.Def.top KX G ?a ?l ?c ?k; (case a => k_is); (case l => k_is); (case c => k_is); (case k => k_is)
    have D_law_mirror : NL.Def (L2.KOf KX) mg "_law_mirror" NL.s_law_mirror := by dsimp only [L2.KOf]; refine' NL.Def.top KX G ?a ?l ?c ?k; (case a => k_is); (case l => k_is); (case c => k_is); (case k => k_is)
    have D_law_anew : NL.Def (L2.KOf KX) mg "_law_anew" NL.s_law_anew := by dsimp only [L2.KOf]; refine' NL.Def.top KX G ?a ?l ?c ?k; (case a => k_is); (case l => k_is); (case c => k_is); (case k => k_is)
    have D_law_add_cord : NL.Def (L2.KOf KX) mg "_law_add_cord" NL.s_law_add_cord := by dsimp only [L2.KOf]; refine' NL.Def.top KX G ?a ?l ?c ?k; (case a => k_is); (case l => k_is); (case c => k_is); (case k => k_is)
    have D_law_tie : NL.Def (L2.KOf KX) mg "_law_tie" NL.s_law_tie := by dsimp only [L2.KOf]; refine' NL.Def.top KX G ?a ?l ?c ?k; (case a => k_is); (case l => k_is); (case c => k_is); (case k => k_is)
    have D_law_add_knot : NL.Def (L2.KOf KX) mg "_law_add_knot" NL.s_law_add_knot := by dsimp only [L2.KOf]; refine' NL.Def.top KX G ?a ?l ?c ?k; (case a => k_is); (case l => k_is); (case c => k_is); (case k => k_is)
    have D_law_add_splice : NL.Def (L2.KOf KX) mg "_law_add_splice" NL.s_law_add_splice := by dsimp only [L2.KOf]; refine' NL.Def.top KX G ?a ?l ?c ?k; (case a => k_is); (case l => k_is); (case c => k_is); (case k => k_is)
    have D_law_loft : NL.Def (L2.KOf KX) mg "_law_loft" NL.s_law_loft := by dsimp only [L2.KOf]; refine' NL.Def.top KX G ?a ?l ?c ?k; (case a => k_is); (case l => k_is); (case c => k_is); (case k => k_is)
    have D_law_whole : NL.Def (L2.KOf KX) mg "_law_whole" NL.s_law_whole := by dsimp only [L2.KOf]; refine' NL.Def.top KX G ?a ?l ?c ?k; (case a => k_is); (case l => k_is); (case c => k_is); (case k => k_is)
    have D_law_hang : NL.Def (L2.KOf KX) mg "_law_hang" NL.s_law_hang := by dsimp only [L2.KOf]; refine' NL.Def.top KX G ?a ?l ?c ?k; (case a => k_is); (case l => k_is); (case c => k_is); (case k => k_is)
    have D_law_words : NL.Def (L2.KOf KX) mg "_law_words" NL.s_law_words := by dsimp only [L2.KOf]; refine' NL.Def.top KX G ?a ?l ?c ?k; (case a => k_is); (case l => k_is); (case c => k_is); (case k => k_is)
    have D_law_renamed : NL.Def (L2.KOf KX) mg "_law_renamed" NL.s_law_renamed := by dsimp only [L2.KOf]; refine' NL.Def.top KX G ?a ?l ?c ?k; (case a => k_is); (case l => k_is); (case c => k_is); (case k => k_is)
    have D_law : NL.Def (L2.KOf KX) mg "law" NL.s_law := by dsimp only [L2.KOf]; refine' NL.Def.top KX G ?a ?l ?c ?k; (case a => k_is); (case l => k_is); (case c => k_is); (case k => k_is)
    have B : NL.Bl mg := by
      refine' ⟨PySem.W.mg_none_of KX G ?b0, PySem.W.mg_none_of KX G ?b1, PySem.W.mg_none_of KX G ?b2, PySem.W.mg_none_of KX G ?b3, PySem.W.mg_none_of KX G ?b4, PySem.W.mg_none_of KX G ?b5, PySem.W.mg_none_of KX G ?b6, PySem.W.mg_none_of KX G ?b7, PySem.W.mg_none_of KX G ?b8, PySem.W.mg_none_of KX G ?b9, PySem.W.mg_none_of KX G ?b10, PySem.W.mg_none_of KX G ?b11, PySem.W.mg_none_of KX G ?b12⟩
      (case b0 => k_is)
      (case b1 => k_is)
      (case b2 => k_is)
      (case b3 => k_is)
      (case b4 => k_is)
      (case b5 => k_is)
      (case b6 => k_is)
      (case b7 => k_is)
      (case b8 => k_is)
      (case b9 => k_is)
      (case b10 => k_is)
      (case b11 => k_is)
      (case b12 => k_is)
    obtain ⟨fd, hb, F⟩ := D_law.law hmg fun _ _ _ _ _ _ us hl => match us, hl with | [_], _ => rfl
    exact ⟨fd, hb, fun base _ _ => NL.all_law D_is_tip D_tips D_knots D_renamed D_law_stir D_law_cell D_law_cells D_law_dye D_law_book D_law_number D_law_is_tip D_law_tips D_law_mirror D_law_anew D_law_add_cord D_law_tie D_law_add_knot D_law_add_splice D_law_loft D_law_whole D_law_hang D_law_words D_law_renamed B F⟩
